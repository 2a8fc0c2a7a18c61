import PyProof.Rows.All
import Wide.All
import OpenK.AllK
import Wide.FinOn
import Lean
import PyProof.EqAt
import PyProof.EqKinds
import PyProof.TupleCall
import PyProof.Rows.SortRuns
import KE.KSortKey
import KE.KListMore
import KE.KIntText
import KE.KEqDat
import PyProof.Rows.CallKwBuiltin
import PySem.SetTable
import PyProof.Rows.SetFrom
import PyProof.TupleKey
import PyProof.IsRules
import KE.KRevIter
import PyProof.ListRange
import PyProof.TupleOfGen
import PyProof.CollectIter
import PySem.Challenge.RW_seamwright_k45_pairs_looked_at
import KE.KDictLaws
import PyProof.DictWalks
import PyProof.DictItems
import PyProof.MinMaxWalk
import PyProof.SumAny
import PyProof.NeKinds
set_option linter.all false
set_option Elab.async false
set_option maxRecDepth 100000
set_option maxHeartbeats 4000000
section
namespace L2
open PySem PySem.Spec PyProof.Rows
abbrev Key:=Sum Int Str
def zfa:Key->Value->Bool
 | .inl k,v=>Value.isInt k v
 | .inr x,v=>Value.isStrOf x v
def keyH (w:World):Key->Int
 | .inl k=>hashInt k
 | .inr x=>hashStr w x
theorem keyIs_shape:∀{k:Key}{v:Value},zfa k v=true->(∃i t,k=Sum.inl i/\v=Value.int i t) \/ (∃x t,k=Sum.inr x/\v=Value.str x t)
 | .inl i,v,h=>by
  obtain⟨t,e⟩:=Value.isInt_shape (k:=i) (v:=v) h;exact .inl ⟨i,t,rfl,e⟩
 | .inr x,v,h=>by
  obtain⟨t,e⟩:=Value.isStrOf_shape (x:=x) (v:=v) h;exact .inr ⟨x,t,rfl,e⟩
theorem zgn (i:Int) (t:Tok):zfa (.inl i) (.int i t)=true:=by simp[zfa,Value.isInt]
theorem zfv (x:Str) (t:Tok):zfa (.inr x) (.str x t)=true:=by simp[zfa,Value.isStrOf]
theorem zjT (a b:Int):decide ((Sum.inl a:Key)=Sum.inl b)=(a == b):=by
 by_cases e:a=b
 ·subst e; simp
 ·have h:¬ (Sum.inl a:Key)=Sum.inl b:=fun q=>e (Sum.inl.inj q)
  rw[decide_eq_false h];exact (beq_eq_false_iff_ne.mpr e).symm
theorem zjz (a b:Str):decide ((Sum.inr a:Key)=Sum.inr b)=decide (a=b):=by
 by_cases e:a=b
 ·subst e; simp
 ·have h:¬ (Sum.inr a:Key)=Sum.inr b:=fun q=>e (Sum.inr.inj q)
  rw[decide_eq_false h,decide_eq_false e]
theorem zj2 (a:Int) (b:Str):decide ((Sum.inl a:Key)=Sum.inr b)=false:=decide_eq_false (fun q=>nomatch q)
theorem zj0 (a:Str) (b:Int):decide ((Sum.inr a:Key)=Sum.inl b)=false:=decide_eq_false (fun q=>nomatch q)
def zA (prog:Program) (w:World):PySem.KeyKind prog w Key where
 is:=zfa
 hash:=keyH w
 inj:=fun v a b ha hb=>by
  rcases keyIs_shape ha with ⟨i,t,rfl,rfl⟩ | ⟨x,t,rfl,rfl⟩
  ·rcases keyIs_shape hb with ⟨j,u,rfl,e⟩ | ⟨y,u,rfl,e⟩
   ·injection e with e1 _; rw[e1]
   ·exact nomatch e
  ·rcases keyIs_shape hb with ⟨j,u,rfl,e⟩ | ⟨y,u,rfl,e⟩
   ·exact nomatch e
   ·injection e with e1 _; rw[e1]
 byValue:=fun k v h=>by
  rcases keyIs_shape h with ⟨i,t,rfl,rfl⟩ | ⟨x,t,rfl,rfl⟩ <;> rfl
 pyHash:=fun hv h=>by
  rcases keyIs_shape hv with ⟨i,t,rfl,rfl⟩ | ⟨x,t,rfl,rfl⟩
  ·exact wpAny_pyHash_int h
  ·exact wpAny_pyHash_str h
 eqBool:=fun hu hv h=>by
  rcases keyIs_shape hu with ⟨i,t,rfl,rfl⟩ | ⟨x,t,rfl,rfl⟩
  ·rcases keyIs_shape hv with ⟨j,u,rfl,rfl⟩ | ⟨y,u,rfl,rfl⟩
   ·rw[zjT] at h; exact wpAny_eqBool_int h
   ·rw[zj2] at h; exact SeqAt.EqAt.int_str i t y u _ _ _ _ h
  ·rcases keyIs_shape hv with ⟨j,u,rfl,rfl⟩ | ⟨y,u,rfl,rfl⟩
   ·rw[zj0] at h; exact SeqAt.EqAt.str_int x t j u _ _ _ _ h
   ·rw[zjz] at h; exact wpAny_eqBool_str h
 «strs»:=fun k x t v h=>by
  rcases keyIs_shape h with ⟨i,u,rfl,e⟩ | ⟨y,u,rfl,e⟩
  ·exact nomatch e
  ·injection e with e1 _
   subst e1;cases v <;> rfl
theorem zaU (prog:Program) (w:World) (i:Int) (t:Tok):(zA prog w).is (.inl i) (.int i t)=true:=zgn i t
theorem zdI (prog:Program) (w:World) (x:Str) (t:Tok):(zA prog w).is (.inr x) (.str x t)=true:=zfv x t
end L2
namespace L2
open PySem PySem.Spec PyProof.Rows
inductive V where
 | non | bl (b:Bool) | int (i:Int) | str (x:Str) | byt (b:Array UInt8) | flt (b:UInt64) | ref (a:Addr) | ty (n:String)
 deriving DecidableEq
def RelV:V->Value->Prop
 | .non,u=>u=Value.none
 | .bl b,u=>u=Value.bool b
 | .int i,u=>∃t,u=Value.int i t
 | .str x,u=>∃t,u=Value.str x t
 | .byt b,u=>∃t,u=Value.bytes b t
 | .flt b,u=>∃t,u=Value.float b t
 | .ref a,u=>u=Value.ref a
 | .ty n,u=>u=Value.type n
abbrev Vals:List V->List Value->Prop:=Paired RelV
theorem Vals.length {xs:List V}{us:List Value} (r:Vals xs us):xs.length=us.length:=Paired.length r
theorem Vals.get:∀{xs:List V}{us:List Value}{i:Nat}{x:V},Vals xs us->xs[i]?=some x->∃u,us[i]?=some u/\RelV x u
 | _,_,_,_,.nil,e=>by simp at e
 | _,_,0,_,.cons r _,e=>by simp at e; subst e; exact⟨_,rfl,r⟩
 | _,_,i+1,x,.cons _ t,e=>by
  obtain⟨u,h1,h2⟩:=Vals.get (i:=i) (x:=x) t (by simpa using e);exact⟨u,by simpa using h1,h2⟩
theorem Vals.set {x:V}{u:Value} (r:RelV x u):∀{xs:List V}{us:List Value} (i:Nat),Vals xs us->Vals (xs.set i x) (us.set i u)
 | _,_,_,.nil=>.nil
 | _,_,0,.cons _ t=>.cons r t
 | _,_,i+1,.cons q t=>.cons q (Vals.set r i t)
theorem Vals.append {xs ys:List V}{us ws:List Value} (h:Vals xs us) (g:Vals ys ws):Vals (xs++ys) (us++ws):=by
 induction h with
 | nil=>exact g
 | cons r _ ih=>exact .cons r ih
theorem Vals.take:∀{xs:List V}{us:List Value} (n:Nat),Vals xs us->Vals (xs.take n) (us.take n)
 | _,_,0,_=>.nil
 | _,_,_+1,.nil=>.nil
 | _,_,n+1,.cons r t=>.cons r (Vals.take n t)
theorem Vals.drop:∀{xs:List V}{us:List Value} (n:Nat),Vals xs us->Vals (xs.drop n) (us.drop n)
 | _,_,0,r=>r
 | _,_,_+1,.nil=>.nil
 | _,_,n+1,.cons _ t=>Vals.drop n t
def RelO:Option V->Option Value->Prop
 | some v,some u=>RelV v u
 | none,none=>True
 | _,_=>False
def KV {κ:Type}:List (κ×V)->List (κ×Value)->Prop:=Paired fun (p:κ×V) (q:κ×Value)=>p.1=q.1/\RelV p.2 q.2
def kV:Key->V
 | .inl i=>.int i
 | .inr x=>.str x
inductive HO where
 | lst (xs:List V)
 | tup (xs:List V)
 | dK (kvs:List (Key×V)) | dT (kvs:List (List Key×V))
 | set (S:Int->Bool) (n:Nat)
 | ins (C dx:Addr) (fs:List (Str×V))
 | own (x:Addr)
 | xd (fs:List (Str×V))
 | met (f x:Addr)
 | rng (lo hi:Int)
 | frz (o:Obj) (u:HO)
 | tbl (ps:Array Value)
 | ext (φ:Heap->Prop)
abbrev Hp:=Addr->Option HO
def upd (H:Hp) (a:Addr) (o:HO):Hp:=fun b=>if b=a then some o else H b
theorem upd_same {H:Hp}{a:Addr}{o:HO}:upd H a o a=some o:=by unfold upd; rw[if_pos rfl]
theorem upd_ne {H:Hp}{a b:Addr}{o:HO} (h:b≠a):upd H a o b=H b:=by unfold upd; rw[if_neg h]
theorem zbA {H:Hp}{a b:Addr}{o u:HO} (h:H a=some o) (h':H b=some u) (d:o≠u):a≠b:=by
 intro e; subst e; rw[h] at h'; exact d (Option.some.inj h')
theorem zj {H:Hp}{a b:Addr}{o:HO} (h:H a=some o) (h':H b=none):a≠b:=by
 intro e; subst e; rw[h] at h'; cases h'
section
variable (P:Program) (w:World)
def zI (H:Hp) (h:Heap) (a:Addr):HO->Prop
 | .lst xs=>xs.length<=sizeLine/\∃(its:List Value) (n:Nat),Vals xs its/\h.get? a=some { cls:=.type "list",data:=.seq its.toArray n }
 | .tup xs=>xs.length<=sizeLine/\∃its:List Value,Vals xs its/\IsTup h a its.toArray
 | .dK kvs=>kvs.length<=sizeLine/\(a == sysModules)=false/\∃vs,KV kvs vs/\h.DictOf (zA P w) a vs
 | .dT kvs=>kvs.length<=sizeLine/\(a == sysModules)=false/\∃xs:List (List Key×Addr×Value),
   Paired (fun (p:List Key×V) (q:List Key×Addr×Value)=>p.1=q.1/\H q.2.1=some (.tup (p.1.map kV))/\RelV p.2 q.2.2) kvs xs/\
   ∃o es ep,h.get? a=some o/\o.ExactDict/\o.data=.dict es ep/\es.toList=xs.map (entryOfKey (tupleKind (zA P w)))/\(xs.map (·.1)).Nodup
 | .set S n=>h.SetOf (intKind P w) a S n
 | .ins C dx fs=>H dx=some (.own a)/\fs.length<=1000/\dx≠a/\h.get? a=some (PySem.W.instObj C dx)/\
   ∃mA,h.Ns1 dx mA/\(∀f,RelO (fs.lookup f) (mA f))/\PySem.Within mA (fs.map (·.1))
 | .own _=>∃o,h.get? a=some o
 | .xd fs=>∃mA,h.Ns1 a mA/\∀f,RelO (fs.lookup f) (mA f)
 | .rng lo hi=>∃t u v,h.get? a=some { cls:=.type "range",data:=.fields #[.int lo t,.int hi u,.int 1 v] }
 | .frz o u=>h.get? a=some o/\zI H h a u
 | .tbl ps=>h.get? a=some { cls:=.none,data:=.fields ps }
 | .met f x=>h.get? a=some (PySem.W.methodObj (.ref f) (.ref x))
 | .ext φ=>φ h/\(∃o,h.get? a=some o)/\∀h1 h2:Heap,φ h1->(∀o,h1.get? a=some o->h2.get? a=some o)->φ h2
def HOk (H:Hp) (h:Heap):Prop:=∀a o,H a=some o->zI P w H h a o
end
section
variable {P:Program}{w:World}{H H':Hp}{h h':Heap}{a:Addr}{o:HO}
theorem zI.lt (x:zI P w H h a o):a<h.objs.size:=by
 cases o with
 | lst xs=>obtain⟨_,_,_,_,e⟩:=x; exact Heap.lt_size e
 | tup xs=>obtain⟨_,_,_,p⟩:=x; exact p.lt
 | dK kvs=>obtain⟨_,_,_,_,o,_,_,e,_⟩:=x; exact Heap.lt_size e
 | dT kvs=>obtain⟨_,_,_,_,o,_,_,e,_⟩:=x; exact Heap.lt_size e
 | set S n=>obtain⟨o,_,_,_,e,_⟩:=x; exact Heap.lt_size e
 | ins C dx fs=>obtain⟨_,_,_,e,_⟩:=x; exact Heap.lt_size e
 | own y=>obtain⟨_,e⟩:=x; exact Heap.lt_size e
 | xd fs=>obtain⟨_,⟨_,_,_,e,_⟩,_⟩:=x; exact Heap.lt_size e
 | rng lo hi=>obtain⟨_,_,_,e⟩:=x; exact Heap.lt_size e
 | frz ob u=>obtain⟨e,_⟩:=x; exact Heap.lt_size e
 | tbl ps=>exact Heap.lt_size (show h.get? a=some _ from x)
 | met f y=>exact Heap.lt_size (show h.get? a=some _ from x)
 | ext φ=>obtain⟨_,⟨_,e⟩,_⟩:=x; exact Heap.lt_size e
theorem Paired.mapP {α β:Type}{F G:α->β->Prop}{l₁:List α}{l₂:List β} (h:Paired F l₁ l₂) (f:∀a b,F a b->G a b):Paired G l₁ l₂:=by
 induction h with
 | nil=>exact .nil
 | cons r _ ih=>exact .cons (f _ _ r) ih
theorem zI.stay (x:zI P w H h a o) (k:∀b u,(b=a \/ H b=some (.own a))->h.get? b=some u->h'.get? b=some u)
  (ho:∀b,H b=some (.own a)->H' b=some (.own a)) (ht:∀b xs,H b=some (.tup xs)->H' b=some (.tup xs)):zI P w H' h' a o:=by
 induction o with
 | lst xs=>obtain⟨z,its,n,r,e⟩:=x; exact⟨z,its,n,r,k _ _ (.inl rfl) e⟩
 | tup xs=>obtain⟨z,its,r,ob,e,c⟩:=x; exact⟨z,its,r,ob,k _ _ (.inl rfl) e,c⟩
 | dK kvs=>obtain⟨z,y,vs,r,ob,es,ep,e,c⟩:=x; exact⟨z,y,vs,r,ob,es,ep,k _ _ (.inl rfl) e,c⟩
 | dT kvs=>
  obtain⟨z,y,xs,r,ob,es,ep,e,c⟩:=x;exact⟨z,y,xs,Paired.mapP r fun p q z=>⟨z.1,ht _ _ z.2.1,z.2.2⟩,ob,es,ep,k _ _ (.inl rfl) e,c⟩
 | set S n=>obtain⟨ob,es,ep,t,e,c⟩:=x; exact⟨ob,es,ep,t,k _ _ (.inl rfl) e,c⟩
 | ins C dx fs=>
  obtain⟨d,z,ne,e,mA,⟨od,es,ep,e2,c⟩,r⟩:=x;exact⟨ho _ d,z,ne,k _ _ (.inl rfl) e,mA,⟨od,es,ep,k _ _ (.inr d) e2,c⟩,r⟩
 | own y=>obtain⟨ob,e⟩:=x; exact⟨ob,k _ _ (.inl rfl) e⟩
 | xd fs=>obtain⟨mA,⟨od,es,ep,e,c⟩,r⟩:=x; exact⟨mA,⟨od,es,ep,k _ _ (.inl rfl) e,c⟩,r⟩
 | rng lo hi=>obtain⟨t,u,v,e⟩:=x; exact⟨t,u,v,k _ _ (.inl rfl) e⟩
 | frz ob u ih=>obtain⟨e,q⟩:=x; exact⟨k _ _ (.inl rfl) e,ih q⟩
 | tbl ps=>
  have e:h.get? a=some { cls:=.none,data:=.fields ps }:=x;show h'.get? a=some { cls:=.none,data:=.fields ps };exact k a _ (.inl rfl) e
 | met f y=>
  have e:h.get? a=some (PySem.W.methodObj (.ref f) (.ref y)):=x;show h'.get? a=some (PySem.W.methodObj (.ref f) (.ref y));exact k a _ (.inl rfl) e
 | ext φ=>obtain⟨p,⟨o,e⟩,st⟩:=x; exact⟨st _ _ p fun o q=>k _ _ (.inl rfl) q,⟨o,k _ _ (.inl rfl) e⟩,st⟩
theorem HOk.lt (x:HOk P w H h) (e:H a=some o):a<h.objs.size:=(x a o e).lt
theorem HOk.fresh (x:HOk P w H h) (e:h.objs.size<=a):H a=none:=by
 cases q:H a with
 | none=>rfl
 | some u=>exact absurd (Nat.lt_of_lt_of_le (x.lt q) e) (Nat.lt_irrefl _)
theorem HOk.kept (x:HOk P w H h) (k:∀b u,h.get? b=some u->h'.get? b=some u):HOk P w H h':=fun a o e=>
 (x a o e).stay (fun b u _ q=>k b u q) (fun _ q=>q) fun _ _ q=>q
theorem HOk.laid (x:HOk P w H h) (k:∀b u,h.get? b=some u->h'.get? b=some u) (hp:h.objs.size<=a) (new:zI P w (upd H a o) h' a o):HOk P w (upd H a o) h':=fun b u e=>by
 have hn:=x.fresh hp
 by_cases hb:b=a
 ·subst hb; rw[upd_same] at e; cases e; exact new
 ·rw[upd_ne hb] at e
  exact (x b u e).stay (fun c v _ q=>k c v q) (fun c q=>by rw[upd_ne (zj q hn)]; exact q) fun c xs q=>by rw[upd_ne (zj q hn)]; exact q
end
def Rd (H:Hp) (a:Addr) (u:HO):Prop:=H a=some u \/ ∃o,H a=some (.frz o u)
theorem Rd.of {H:Hp}{a:Addr}{u:HO} (h:H a=some u):Rd H a u:=.inl h
theorem Rd.ok {P:Program}{w:World}{H:Hp}{h:Heap}{a:Addr}{u:HO} (r:Rd H a u) (x:HOk P w H h):zI P w H h a u:=by
 rcases r with r | ⟨o,r⟩
 ·exact x a u r
 ·obtain⟨_,q⟩:=x a _ r
  exact q
def Mut:Option HO->Prop
 | some (.lst _)=>True
 | some (.dK _)=>True
 | some (.dT _)=>True
 | some (.set _ _)=>True
 | some (.ins _ _ _)=>True
 | some (.ext _)=>True
 | _=>False
section
variable {P:Program}{w:World}{H:Hp}{h h':Heap}{x e:Addr}{o':HO}
theorem HOk.write (ok:HOk P w H h) (mu:Mut (H x)) (he:e=x \/ H e=some (.own x)) (k:∀b u,b≠e->h.get? b=some u->h'.get? b=some u) (heo:∃u,h'.get? e=some u)
  (new:zI P w (upd H x o') h' x o'):HOk P w (upd H x o') h':=fun b u q=>by
 have nown:∀c y,H c=some (.own y)->c≠x:=fun c y r z=>by subst z; rw[r] at mu; exact mu
 have ntup:∀c xs,H c=some (.tup xs)->c≠x:=fun c xs r z=>by subst z; rw[r] at mu; exact mu
 by_cases hb:b=x
 ·subst hb; rw[upd_same] at q; cases q; exact new
 ·rw[upd_ne hb] at q
  by_cases hbe:b=e
  ·have q':H b=some (.own x):=by
    rcases he with z | z
    ·exact absurd (hbe.trans z) hb
    ·rw[hbe]; exact z
   rw[q] at q'; cases q';obtain⟨v,hv⟩:=heo;exact⟨v,by rw[hbe]; exact hv⟩
  ·refine (ok b u q).stay (fun c v hc r=>k c v ?_ r) (fun c r=>by rw[upd_ne (nown c b r)]; exact r) fun c xs r=>by rw[upd_ne (ntup c xs r)]; exact r
   rcases hc with rfl | hc
   ·exact hbe
   ·rintro rfl
    rcases he with z | z
    ·exact nown c b hc z
    ·rw[hc] at z; cases z; exact hb rfl
end
structure Un (fs ex:List Addr) (H H':Hp) (h h':Heap):Prop where
 keep:∀b o,h.get? b=some o->H b=none->b∉fs->b∉ex->h'.get? b=some o
 slot:∀b o,h.get? b=some o->H b=none->b∈fs->b∉ex->∃sl,h'.get? b=some { o with slots:=sl }
 free:∀b o,h.get? b=some o->H b=none->b∉ex->H' b=none
 there:∀b o,h.get? b=some o->b∉ex->∃o',h'.get? b=some o'
 tups:∀b xs,H b=some (.tup xs)->H' b=some (.tup xs)
 frzs:∀b o u,H b=some (.frz o u)->H' b=some (.frz o u)
 tbls:∀b ps,H b=some (.tbl ps)->∃more,H' b=some (.tbl (ps++more))
section
variable {fs fs' ex ex':List Addr}{H H1 H2:Hp}{h h1 h2 h':Heap}{a x e:Addr}{o:HO}
theorem Un.any (u:Un fs ex H H1 h h1) {b:Addr}{ob:Obj} (q:h.get? b=some ob) (n:H b=none) (hx:b∉ex):∃sl,h1.get? b=some { ob with slots:=sl }:=by
 by_cases hb:b∈fs
 ·exact u.slot b ob q n hb hx
 ·exact⟨ob.slots,u.keep b ob q n hb hx⟩
theorem Un.kept (k:∀b u,h.get? b=some u->h'.get? b=some u):Un fs ex H H h h':=
 ⟨fun b ob q _ _ _=>k b ob q,fun b ob q _ _ _=>⟨ob.slots,k b ob q⟩,fun _ _ _ n _=>n,fun b ob q _=>⟨ob,k b ob q⟩,fun _ _ q=>q,fun _ _ _ q=>q,fun _ ps q=>⟨#[],by rw[q]; simp⟩⟩
theorem Un.refl:Un fs ex H H h h:=Un.kept fun _ _ q=>q
theorem Un.laid (k:∀b u,h.get? b=some u->h'.get? b=some u) (hp:h.objs.size<=a) (hn:H a=none):Un fs ex H (upd H a o) h h' where
 keep:=fun b u q _ _ _=>k b u q
 slot:=fun b u q _ _ _=>⟨u.slots,k b u q⟩
 free:=fun b u q n _=>by rw[upd_ne (Nat.ne_of_lt (Nat.lt_of_lt_of_le (Heap.lt_size q) hp))]; exact n
 there:=fun b u q _=>⟨u,k b u q⟩
 tups:=fun b xs q=>by rw[upd_ne (zj q hn)]; exact q
 frzs:=fun b u xs q=>by rw[upd_ne (zj q hn)]; exact q
 tbls:=fun b ps q=>⟨#[],by rw[upd_ne (zj q hn),q]; simp⟩
theorem Un.write (mu:Mut (H x)) (he:e=x \/ H e=some (.own x)) (k:∀b u,b≠e->h.get? b=some u->h'.get? b=some u) (heo:∃u,h'.get? e=some u):Un fs ex H (upd H x o) h h':=by
 have hx:∀b,H b=none->b≠x:=fun b n z=>by subst z; rw[n] at mu; exact mu
 have hb:∀b,H b=none->b≠e:=fun b n z=>by
  subst z;rcases he with r | r
  ·exact hx b n r
  ·rw[n] at r; cases r
 have hm:∀b u,H b=some u->¬ Mut (some u)->b≠x:=fun b u q nm z=>by subst z; rw[q] at mu; exact nm mu
 refine⟨fun b u q n _ _=>k b u (hb b n) q,fun b u q n _ _=>⟨u.slots,k b u (hb b n) q⟩,fun b u q n _=>by rw[upd_ne (hx b n)]; exact n,fun b u q _=>?_,
  fun b xs q=>by rw[upd_ne (hm b _ q fun z=>z)]; exact q,fun b u xs q=>by rw[upd_ne (hm b _ q fun z=>z)]; exact q,fun b ps q=>⟨#[],by rw[upd_ne (hm b _ q fun z=>z),q]; simp⟩⟩
 by_cases hbe:b=e
 ·subst hbe; exact heo
 ·exact⟨u,k b u hbe q⟩
end
def trk (h:Heap) (H:Hp):List Addr:=(List.range h.objs.size).filter fun a=>(H a).isSome
def hidT (h:Heap) (H:Hp):Heap:=PySem.W.hideAll h (trk h H)
theorem zgu (h:Heap) (H:Hp):(hidT h H).objs.size=h.objs.size:=PySem.W.hideAll_size _ _
theorem zgW {h:Heap}{H:Hp}{b:Addr}{o:Obj} (e:h.get? b=some o) (n:H b=none):(hidT h H).get? b=some o:=
 PySem.W.hideAll_get _ e fun hm=>by
  have q:(H b).isSome=true:=(List.mem_filter.mp hm).2;rw[n] at q; simp at q
theorem ziI {h:Heap}{H:Hp}{b:Addr}{o:Obj} (e:(hidT h H).get? b=some o):h.get? b=some o/\H b=none:=by
 have e':h.get? b=some o:=PySem.W.of_hideAll (trk h H) e;refine⟨e',?_⟩;cases q:H b with
 | none=>rfl
 | some x=>
  have hm:b∈trk h H:=List.mem_filter.mpr ⟨List.mem_range.mpr (Heap.lt_size e'),by simp[q]⟩;have z:(hidT h H).get? b=none:=PySem.W.hideAll_none (trk h H) hm;rw[z] at e; cases e
def ziy (g h:Heap) (L:Addr):List (Addr×Obj):=(List.range h.objs.size).filterMap fun a=>if a=L \/ (g.get? a).isSome=true then none else (h.get? a).map fun o=>(a,o)
def rest (g h:Heap) (L d:Addr):List (Addr×Obj):=(ziy g h L).filter fun p=>decide (p.1≠d)
end L2
namespace L2
open PySem PySem.Spec PyProof.Rows
structure Mod (K:PySem.W.Frag) (mg:Str->Option Value) (base:Heap):Prop where
 kin:K.In base
 glob:base.Ns mainGlobals mg
 blt:∃mb,base.Ns builtinsNs mb/\∀x:Str,x≠"__name__"->mb x=bootBuiltins x
 nolimit:base.NoLimit
structure Cx where
 prog:Program
 w:World
 K:PySem.W.Frag
 mg:Str->Option Value
 base:Heap
 A:Around
 N:List Str
 s₀:Shared
 H₀:Hp
 env:Env
 outer:List Env
 stack:List Env
 ex:List Addr
 fn:Str->Bool
 calm:Bool
 pn:List (Addr×Obj)
 xe:Value->Shared->Prop
def frs (l:List Env):List Addr:=l.filterMap (·.frame)
abbrev Cx.fs (X:Cx):List Addr:=frs X.outer
def Vis (sc:Scope) (x:Str):Prop:=sc.names.lookup x=some .local \/ sc.names.lookup x=some .cell \/ sc.names.lookup x=some .free
def Loc (sc:Scope) (x:Str):Prop:=sc.names.lookup x=some .local \/ sc.names.lookup x=some .cell
def Look (env:Env) (h:Heap) (m:Str->Option Value) (x:Str) (u:Value):Prop:=
 (env.kindOf x=some .local/\m x=some u) \/ ((env.kindOf x=some .cell \/ env.kindOf x=some .free)/\∃c,env.cells.lookup x=some c/\h.IsCell c (some u))
structure Cx.Ok (X:Cx):Prop where
 mod:Mod X.K X.mg X.base
 kind:X.env.scope.kind=.function
 glob:X.env.globals=mainGlobals
 blt:X.env.builtins=builtinsNs
 above:X.s₀.heap.objs.size<=X.env.locals
 inj:∀x y c,X.env.cells.lookup x=some c->X.env.cells.lookup y=some c->x=y
 has:∀x,(X.env.kindOf x=some .cell \/ X.env.kindOf x=some .free)->∃c,X.env.cells.lookup x=some c
 cab:∀x c,X.fn x=true->X.env.cells.lookup x=some c->X.s₀.heap.objs.size<=c
 hd:X.calm=true->X.A.handled=none
 frames:X.A.frames=some X.stack
 stk:X.stack=X.outer \/ (X.stack=X.env::X.outer/\X.env.frame=some X.env.locals)
 exf:∀b∈X.ex,b≠X.env.locals/\∀x c,X.env.cells.lookup x=some c->c≠b
 bs:∀b o,X.base.get? b=some o->X.s₀.heap.get? b=some o/\X.H₀ b=none
 bsz:X.base.objs.size<=X.s₀.heap.objs.size
 noex:∀b o,X.base.get? b=some o->b∉X.ex
 exfs:∀b∈X.ex,b∉X.fs
 funs:X.s₀.heap.FunFrames X.base X.outer
 frf:∀b∈X.fs,X.H₀ b=none
structure Inv (X:Cx) (pins:List (Addr×Obj)) (σ:List (Option V)) (H:Hp) (s:Shared):Prop where
 ok:X.Ok
 os:s.os=X.s₀.os
 bare:AllBare s.gens
 base:Un X.fs X.ex X.H₀ H X.s₀.heap s.heap
 loc:∃m,s.heap.Ns X.env.locals m/\∀(i:Nat) (x:Str) (v:V),X.N[i]?=some x->σ[i]?=some (some v)->Vis X.env.scope x->∃u,RelV v u/\Look X.env s.heap m x u
 cell:∀x c,X.env.cells.lookup x=some c->∃v,s.heap.IsCell c v
 free:H X.env.locals=none
 freeC:∀x c,X.env.cells.lookup x=some c->H c=none
 pin:∀p∈X.pn++pins,s.heap.get? p.1=some p.2/\H p.1=none/\p.1≠X.env.locals/\p.1∉X.fs/\∀v,p.2.data≠.cell v
 hok:HOk X.prog X.w H s.heap
 len:σ.length=X.N.length
section
variable {X:Cx}{pins:List (Addr×Obj)}{σ:List (Option V)}{H H':Hp}{s:Shared}{h':Heap}
theorem Cx.Ok.nofr (ok:X.Ok) {b:Addr}{o:Obj} (e:X.base.get? b=some o):b∉X.fs:=fun hb=>by
 have:=(ok.funs.mem hb).1;rw[e] at this; cases this
theorem Inv.bs (I:Inv X pins σ H s):∀b o,X.base.get? b=some o->s.heap.get? b=some o/\H b=none:=fun b o e=>
 ⟨I.base.keep b o (I.ok.bs b o e).1 (I.ok.bs b o e).2 (I.ok.nofr e) (I.ok.noex b o e),I.base.free b o (I.ok.bs b o e).1 (I.ok.bs b o e).2 (I.ok.noex b o e)⟩
theorem Inv.bk (I:Inv X pins σ H s):∀b o,X.base.get? b=some o->s.heap.get? b=some o:=fun b o e=>(I.bs b o e).1
theorem Inv.mod (I:Inv X pins σ H s):Mod X.K X.mg X.base:=I.ok.mod
theorem Inv.kIn (I:Inv X pins σ H s):X.K.In s.heap:=I.ok.mod.kin.keeps I.bk
theorem Inv.nolimit (I:Inv X pins σ H s):s.heap.NoLimit:=I.ok.mod.nolimit.keeps I.bk
theorem Inv.fr (I:Inv X pins σ H s):∃m,Fr X.base X.env.locals s.heap m:=
 let ⟨m,hn,_⟩:=I.loc
 ⟨m,hn,I.bk,Nat.le_trans I.ok.bsz I.ok.above⟩
theorem Inv.lt (I:Inv X pins σ H s):X.env.locals<s.heap.objs.size:=let ⟨_,hn,_⟩:=I.loc; hn.lt
theorem Inv.sz (I:Inv X pins σ H s):X.s₀.heap.objs.size<=s.heap.objs.size:=Nat.le_trans I.ok.above (Nat.le_of_lt I.lt)
theorem Inv.nofs (I:Inv X pins σ H s) {a:Addr} (h:s.heap.objs.size<=a):a∉X.fs:=fun hb=>by
 obtain⟨_,o,ho,_⟩:=I.ok.funs.mem hb;exact absurd (Nat.lt_of_lt_of_le (Heap.lt_size ho) (Nat.le_trans I.sz h)) (Nat.lt_irrefl _)
theorem Inv.cne (I:Inv X pins σ H s):∀x c,X.env.cells.lookup x=some c->c≠X.env.locals:=fun x c e z=>by
 obtain⟨v,o,ho,hd⟩:=I.cell x c e;obtain⟨m,⟨o',es,ep,ho',hd',_⟩,_⟩:=I.loc;rw[z,ho'] at ho; cases ho; rw[hd'] at hd; cases hd
theorem Inv.funs (I:Inv X pins σ H s):s.heap.FunFrames X.base X.outer:=by
 have all:∀(l:List Env),(∀b∈frs l,b∈X.fs)->X.s₀.heap.FunFrames X.base l->s.heap.FunFrames X.base l:=by
  intro l
  induction l with
  | nil=>intro _ _; trivial
  | cons env r ih=>
   intro hs hl;obtain⟨hk,⟨L,o,hf,hn,ho,hd⟩,hr⟩:=hl;have hL:L∈X.fs:=hs L (by unfold frs; rw[List.filterMap_cons,hf]; exact List.mem_cons_self);obtain⟨sl,e⟩:=I.base.slot L o ho (I.ok.frf L hL) hL fun z=>I.ok.exfs L z hL;exact⟨hk,⟨L,_,hf,hn,e,hd⟩,ih (fun b hb=>hs b (by unfold frs; rw[List.filterMap_cons,hf]; exact List.mem_cons_of_mem _ hb)) hr⟩
 exact all X.outer (fun _ hb=>hb) I.ok.funs
theorem Inv.stack (I:Inv X pins σ H s):s.heap.FunFrames X.base X.stack:=by
 rcases I.ok.stk with e | ⟨e,hf⟩
 ·rw[e]; exact I.funs
 ·rw[e]
  obtain⟨m,hn,_⟩:=I.loc;refine .cons (by rw[I.ok.kind]; decide) hf hn ?_ I.funs;exact Heap.get?_none_of_le (Nat.le_trans I.ok.bsz I.ok.above)
theorem Inv.stkSub (I:Inv X pins σ H s):∀b∈frs X.stack,b∈X.env.locals::X.fs:=fun b hb=>by
 rcases I.ok.stk with e | ⟨e,hf⟩
 ·rw[e] at hb; exact List.mem_cons_of_mem _ hb
 ·rw[e] at hb
  unfold frs at hb;rw[List.filterMap_cons,hf] at hb;exact hb
theorem Inv.stkFree (I:Inv X pins σ H s):∀b∈frs X.stack,H b=none:=fun b hb=>by
 rcases List.mem_cons.mp (I.stkSub b hb) with e | hb
 ·rw[e]; exact I.free
 ·obtain⟨_,o,ho,_⟩:=I.ok.funs.mem hb
  exact I.base.free b o ho (I.ok.frf b hb) fun z=>I.ok.exfs b z hb
theorem Inv.step {g':Array GenState}{t':Nat}{d':Drawn}{ch:List Addr} (I:Inv X pins σ H s)
  (hch:∀b∈ch,(b∈X.ex \/ X.s₀.heap.objs.size<=b)/\b≠X.env.locals/\(∀x c,X.env.cells.lookup x=some c->c≠b)/\∀p∈X.pn++pins,p.1≠b)
  (keep:∀b o,b≠X.env.locals->b∉X.fs->b∉ch->s.heap.get? b=some o->H b=none->h'.get? b=some o)
  (slot:∀b o,b≠X.env.locals->b∈X.fs->b∉ch->s.heap.get? b=some o->H b=none->∃sl,h'.get? b=some { o with slots:=sl }) (free:∀b o,b∉ch->s.heap.get? b=some o->H b=none->H' b=none)
  (there:∀b o,b∉ch->s.heap.get? b=some o->∃o',h'.get? b=some o')
  (tups:∀b xs,H b=some (.tup xs)->H' b=some (.tup xs)) (frzs:∀b o u,H b=some (.frz o u)->H' b=some (.frz o u)) (tbls:∀b ps,H b=some (.tbl ps)->∃more,H' b=some (.tbl (ps++more)))
  (ns:∀m,s.heap.Ns X.env.locals m->h'.Ns X.env.locals m) (hok:HOk X.prog X.w H' h') (hg:AllBare g') :
  Inv X pins σ H' { s with heap:=h',gens:=g',drawn:=d',toks:=t' }:=by
 have neL:∀b o,X.s₀.heap.get? b=some o->b≠X.env.locals:=fun b o e=>Nat.ne_of_lt (Nat.lt_of_lt_of_le (Heap.lt_size e) I.ok.above);have neC:∀b o,X.s₀.heap.get? b=some o->b∉X.ex->b∉ch:=fun b o e hx hb=>by
  rcases (hch b hb).1 with z | z
  ·exact hx z
  ·exact absurd (Nat.lt_of_lt_of_le (Heap.lt_size e) z) (Nat.lt_irrefl _)
 have cellK:∀x c,X.env.cells.lookup x=some c->∀v,s.heap.IsCell c v->h'.IsCell c v:=fun x c e v ⟨o,ho,hd⟩=>by
  have nch:c∉ch:=fun z=>(hch c z).2.2.1 x c e rfl
  by_cases hc:c∈X.fs
  ·obtain⟨sl,q⟩:=slot c o (I.cne x c e) hc nch ho (I.freeC x c e)
   exact⟨_,q,hd⟩
  ·exact⟨o,keep c o (I.cne x c e) hc nch ho (I.freeC x c e),hd⟩
 refine⟨I.ok,I.os,hg,⟨fun b o e n hb hx=>?_,fun b o e n hb hx=>?_,fun b o e n hx=>?_,fun b o e hx=>?_,fun b xs e=>tups b xs (I.base.tups b xs e),fun b o xs e=>frzs b o xs (I.base.frzs b o xs e),fun b ps e=>?_⟩,?_,fun x c e=>?_,?_,fun x c e=>?_,fun p hp=>?_,hok,I.len⟩
 ·exact keep b o (neL b o e) hb (neC b o e hx) (I.base.keep b o e n hb hx) (I.base.free b o e n hx)
 ·obtain⟨sl,e1⟩:=I.base.slot b o e n hb hx
  obtain⟨sl',e2⟩:=slot b _ (neL b o e) hb (neC b o e hx) e1 (I.base.free b o e n hx);exact⟨sl',e2⟩
 ·obtain⟨o',e1⟩:=I.base.there b o e hx
  exact free b o' (neC b o e hx) e1 (I.base.free b o e n hx)
 ·obtain⟨o',e1⟩:=I.base.there b o e hx
  exact there b o' (neC b o e hx) e1
 ·obtain⟨m1,e1⟩:=I.base.tbls b ps e
  obtain⟨m2,e2⟩:=tbls b _ e1;exact⟨m1++m2,by rw[e2,Array.append_assoc]⟩
 ·obtain⟨m,hn,hl⟩:=I.loc
  refine⟨m,ns m hn,fun i x v e1 e2 e3=>?_⟩;obtain⟨u,r,l⟩:=hl i x v e1 e2 e3;refine⟨u,r,?_⟩;rcases l with l | ⟨k,c,e,z⟩
  ·exact .inl l
  ·exact .inr ⟨k,c,e,cellK x c e _ z⟩
 ·obtain⟨v,z⟩:=I.cell x c e
  exact⟨v,cellK x c e v z⟩
 ·obtain⟨m,⟨o,_,_,ho,_⟩,_⟩:=I.loc
  exact free _ o (fun z=>(hch _ z).2.1 rfl) ho I.free
 ·obtain⟨v,o,ho,hd⟩:=I.cell x c e
  exact free c o (fun z=>(hch c z).2.2.1 x c e rfl) ho (I.freeC x c e)
 ·obtain⟨e,n,ne,nf,d⟩:=I.pin p hp
  have nch:p.1∉ch:=fun z=>(hch p.1 z).2.2.2 p hp rfl;exact⟨keep p.1 p.2 ne nf nch e n,free p.1 p.2 nch e n,ne,nf,d⟩
theorem Inv.un {t':Nat} (I:Inv X pins σ H s) (u:Un X.fs [] H H' s.heap h') (hok:HOk X.prog X.w H' h'):Inv X pins σ H' { s with heap:=h',toks:=t' }:=by
 obtain⟨m,⟨o,es,ep,ho,r⟩,_⟩:=id I.loc;obtain⟨sl,hL⟩:=u.any ho I.free (by simp);exact I.step (g':=s.gens) (d':=s.drawn) (ch:=[]) (fun _ z=>nomatch z) (fun b o _ hb _ e n=>u.keep b o e n hb (by simp)) (fun b o _ hb _ e n=>u.slot b o e n hb (by simp)) (fun b o _ e n=>u.free b o e n (by simp)) (fun b o _ e=>u.there b o e (by simp)) u.tups u.frzs u.tbls (fun m' hm=>by
  obtain⟨o',es',ep',ho',r'⟩:=hm;rw[ho] at ho'; cases ho';exact⟨_,es',ep',hL,r'⟩) hok I.bare
theorem Inv.call {g':Array GenState}{t':Nat}{d':Drawn}{ch:List Addr} (I:Inv X pins σ H s) (u:Un (frs X.stack) ch H H' s.heap h') (hok:HOk X.prog X.w H' h') (hg:AllBare g')
  (hch:∀b∈ch,(b∈X.ex \/ X.s₀.heap.objs.size<=b)/\b≠X.env.locals/\(∀x c,X.env.cells.lookup x=some c->c≠b)/\∀p∈X.pn++pins,p.1≠b) :
  Inv X pins σ H' { s with heap:=h',gens:=g',drawn:=d',toks:=t' }:=by
 obtain⟨m,⟨o,es,ep,ho,r⟩,_⟩:=id I.loc;obtain⟨sl,hL⟩:=u.any ho I.free fun z=>(hch _ z).2.1 rfl;exact I.step (ch:=ch) hch (fun b o hL hb hc e n=>u.keep b o e n (fun z=>(List.mem_cons.mp (I.stkSub b z)).elim hL hb) hc) (fun b o _ _ hc e n=>u.any e n hc) (fun b o hc e n=>u.free b o e n hc) (fun b o hc e=>u.there b o e hc) u.tups u.frzs u.tbls (fun m' hm=>by
  obtain⟨o',es',ep',ho',r'⟩:=hm;rw[ho] at ho'; cases ho';exact⟨_,es',ep',hL,r'⟩) hok hg
theorem Inv.turned {t':Nat}{it:Addr} (I:Inv X pins σ H s) (k:∀b o,b≠it->s.heap.get? b=some o->h'.get? b=some o) (hn:H it=none) (hL:it≠X.env.locals)
  (h1:it∈X.ex \/ X.s₀.heap.objs.size<=it) (h2:∀x c,X.env.cells.lookup x=some c->c≠it) (h3:∀p∈X.pn++pins,p.1≠it):Inv X pins σ H { s with heap:=h',toks:=t' }:=by
 have nit:∀b u,H b=some u->b≠it:=fun b u e z=>by rw[z,hn] at e; cases e
 refine I.step (g':=s.gens) (d':=s.drawn) (ch:=[it]) (fun b hb=>?_) (fun b o _ _ hc e _=>k b o (fun z=>hc (by simp[z])) e) (fun b o _ _ hc e _=>⟨o.slots,k b o (fun z=>hc (by simp[z])) e⟩) (fun _ _ _ _ n=>n)
  (fun b o hc e=>⟨o,k b o (fun z=>hc (by simp[z])) e⟩) (fun _ _ e=>e) (fun _ _ _ e=>e) (fun b ps e=>⟨#[],by rw[e]; simp⟩) (fun m hm=>?_) (fun b u e=>?_) I.bare
 ·have e:b=it:=by simpa using hb
  subst e;exact⟨h1,hL,h2,h3⟩
 ·obtain⟨o,es,ep,ho,r⟩:=hm
  exact⟨o,es,ep,k _ o (Ne.symm hL) ho,r⟩
 ·refine (I.hok b u e).stay (fun c v hc q=>k c v ?_ q) (fun _ q=>q) fun _ _ q=>q
  rcases hc with z | z
  ·rw[z]; exact nit b u e
  ·exact nit c _ z
theorem Inv.tok (I:Inv X pins σ H s) (t:Nat):Inv X pins σ H { s with toks:=t }:=I.un (h':=s.heap) (t':=t) Un.refl I.hok
theorem Inv.kept {t':Nat} (I:Inv X pins σ H s) (k:∀b u,s.heap.get? b=some u->h'.get? b=some u):Inv X pins σ H { s with heap:=h',toks:=t' }:=I.un (Un.kept k) (I.hok.kept k)
theorem Inv.laid {a:Addr}{o:HO}{t':Nat} (I:Inv X pins σ H s) (k:∀b u,s.heap.get? b=some u->h'.get? b=some u) (hp:s.heap.objs.size<=a) (new:zI X.prog X.w (upd H a o) h' a o) :
  Inv X pins σ (upd H a o) { s with heap:=h',toks:=t' }:=I.un (Un.laid k hp (I.hok.fresh hp)) (I.hok.laid k hp new)
theorem Inv.write {x e:Addr}{o:HO}{t':Nat} (I:Inv X pins σ H s) (mu:Mut (H x)) (he:e=x \/ H e=some (.own x)) (k:∀b u,b≠e->s.heap.get? b=some u->h'.get? b=some u) (heo:∃u,h'.get? e=some u)
  (new:zI X.prog X.w (upd H x o) h' x o):Inv X pins σ (upd H x o) { s with heap:=h',toks:=t' }:=I.un (Un.write mu he k heo) (I.hok.write mu he k heo new)
theorem Inv.pins_of {pins':List (Addr×Obj)} (I:Inv X pins σ H s) (h:∀p∈pins',s.heap.get? p.1=some p.2/\H p.1=none/\p.1≠X.env.locals/\p.1∉X.fs/\∀v,p.2.data≠.cell v):Inv X pins' σ H s:=
 ⟨I.ok,I.os,I.bare,I.base,I.loc,I.cell,I.free,I.freeC,fun p hp=>(List.mem_append.mp hp).elim (fun z=>I.pin p (List.mem_append_left _ z)) (h p),I.hok,I.len⟩
theorem zeg {N:List Str} (hN:N.Nodup) {i j:Nat}{x:Str} (a:N[i]?=some x) (b:N[j]?=some x):i=j:=by
 obtain⟨h1,e1⟩:=List.getElem?_eq_some_iff.mp a;obtain⟨h2,e2⟩:=List.getElem?_eq_some_iff.mp b;exact (List.getElem_inj hN).mp (e1.trans e2.symm)
theorem zdz {M:Model}{A:Around}{E:Value->Shared->Prop}{i:Nat}{x:Str}{v:V}{u:Value}{Q:Unit->Shared->Prop} (I:Inv X pins σ H s) (hN:X.N.Nodup) (hi:X.N[i]?=some x) (hx:Loc X.env.scope x) (r:RelV v u)
  (h:∀s',Inv X pins (σ.set i (some v)) H s'->(∃a,Heap.SameBut a s.heap s'.heap/\(a=X.env.locals \/ X.env.cells.lookup x=some a))->Q () s') (hf:X.fn x=true \/ X.env.scope.names.lookup x=some .local:=by first | exact .inl rfl | exact .inr rfl | assumption):wpAny M A (storeName X.env x u) Q E s:=by
 obtain⟨m,hn,hl⟩:=id I.loc;have hcls:(X.env.scope.kind == .class || (X.env.scope.kind == .module && X.env.locals != X.env.globals))=false:=by rw[I.ok.kind]; rfl
 have hiσ:i<σ.length:=by rw[I.len]; exact (List.getElem?_eq_some_iff.mp hi).1
 have cne:=I.cne;have tracked:∀{a:Addr} {h':Heap},(∃o,s.heap.get? a=some o/\H a=none)->Heap.SameBut a s.heap h'->HOk X.prog X.w H h':=fun {a h'} ha hs b ob e=>by
  obtain⟨_,_,hfree⟩:=ha;refine (I.hok b ob e).stay (fun c w' hc q=>(hs.2 c ?_).trans q) (fun _ q=>q) fun _ _ q=>q;rintro rfl;rcases hc with rfl | hc
  ·rw[hfree] at e; cases e
  ·rw[hfree] at hc; cases hc
 rcases hx with hk | hk
 ·refine wpAny_storeName_local hk hn (fun h' hn' hs=>?_) hcls
  obtain⟨oL,_,_,hoL,_⟩:=id hn;refine h _ ⟨I.ok,I.os,I.bare,⟨fun b o e n hb hx=>?_,fun b o e n hb hx=>?_,I.base.free,fun b o e hx=>?_,I.base.tups,I.base.frzs,I.base.tbls⟩,⟨_,hn',fun j y v' e1 e2 e3=>?_⟩,fun y c e=>?_,I.free,I.freeC,fun p hp=>?_,tracked ⟨oL,hoL,I.free⟩ hs,by simpa using I.len⟩ ⟨_,hs,.inl rfl⟩
  ·exact (hs.2 b (Nat.ne_of_lt (Nat.lt_of_lt_of_le (Heap.lt_size e) I.ok.above))).trans (I.base.keep b o e n hb hx)
  ·obtain⟨sl,e1⟩:=I.base.slot b o e n hb hx
   exact⟨sl,(hs.2 b (Nat.ne_of_lt (Nat.lt_of_lt_of_le (Heap.lt_size e) I.ok.above))).trans e1⟩
  ·obtain⟨o',e1⟩:=I.base.there b o e hx
   exact⟨o',(hs.2 b (Nat.ne_of_lt (Nat.lt_of_lt_of_le (Heap.lt_size e) I.ok.above))).trans e1⟩
  ·by_cases hj:j=i
   ·subst hj
    rw[hi] at e1; cases e1;rw[List.getElem?_set_self hiσ] at e2;cases e2;exact⟨u,r,.inl ⟨hk,by simp⟩⟩
   ·rw[List.getElem?_set_ne (Ne.symm hj)] at e2
    obtain⟨u',r',q⟩:=hl j y v' e1 e2 e3;refine⟨u',r',?_⟩;rcases q with ⟨k,e⟩ | ⟨k,c,e,z⟩
    ·refine .inl ⟨k,?_⟩
     have:y≠x:=fun e=>hj (zeg hN e1 (e ▸ hi));simp[this,e]
    ·exact .inr ⟨k,c,e,z.sameBut hs (cne y c e)⟩
  ·obtain⟨w',z⟩:=I.cell y c e
   exact⟨w',z.sameBut hs (cne y c e)⟩
  ·obtain⟨e,n,ne,nf,d⟩:=I.pin p hp
   exact⟨(hs.2 p.1 ne).trans e,n,ne,nf,d⟩
 ·have hfn:X.fn x=true:=by
   rcases hf with z | z
   ·exact z
   ·rw[z] at hk; cases hk
  obtain⟨c,hc⟩:=I.ok.has x (.inl hk);obtain⟨w',z⟩:=I.cell x c hc;refine wpAny_storeName_cell I.ok.kind hk hc z (fun h' hc' hs=>?_);obtain⟨oc,hoc,hocd⟩:=id z;refine h { s with heap:=h' } ⟨I.ok,I.os,I.bare,⟨fun b o e n hb hx=>?_,fun b o e n hb hx=>?_,I.base.free,fun b o e hx=>?_,I.base.tups,I.base.frzs,I.base.tbls⟩,⟨m,hn.sameBut hs (Ne.symm (cne x c hc)),fun j y v' e1 e2 e3=>?_⟩,fun y c' e=>?_,I.free,I.freeC,fun p hp=>?_,tracked ⟨oc,hoc,I.freeC x c hc⟩ hs,by simpa using I.len⟩ ⟨c,hs,.inr hc⟩
  ·exact (hs.2 b (Nat.ne_of_lt (Nat.lt_of_lt_of_le (Heap.lt_size e) (I.ok.cab x c hfn hc)))).trans (I.base.keep b o e n hb hx)
  ·obtain⟨sl,e1⟩:=I.base.slot b o e n hb hx
   exact⟨sl,(hs.2 b (Nat.ne_of_lt (Nat.lt_of_lt_of_le (Heap.lt_size e) (I.ok.cab x c hfn hc)))).trans e1⟩
  ·obtain⟨o',e1⟩:=I.base.there b o e hx
   exact⟨o',(hs.2 b (Nat.ne_of_lt (Nat.lt_of_lt_of_le (Heap.lt_size e) (I.ok.cab x c hfn hc)))).trans e1⟩
  ·by_cases hj:j=i
   ·subst hj
    rw[hi] at e1; cases e1;rw[List.getElem?_set_self hiσ] at e2;cases e2;exact⟨u,r,.inr ⟨.inl hk,c,hc,hc'⟩⟩
   ·rw[List.getElem?_set_ne (Ne.symm hj)] at e2
    obtain⟨u',r',q⟩:=hl j y v' e1 e2 e3;refine⟨u',r',?_⟩;rcases q with q | ⟨k,c',e,z'⟩
    ·exact .inl q
    ·refine .inr ⟨k,c',e,z'.sameBut hs ?_⟩
     rintro rfl;exact hj (zeg hN e1 (I.ok.inj _ _ _ e hc ▸ hi))
  ·by_cases hcc:c'=c
   ·subst hcc; exact⟨_,hc'⟩
   ·obtain⟨w2,z2⟩:=I.cell y c' e
    exact⟨w2,z2.sameBut hs hcc⟩
  ·obtain⟨e,n,ne,nf,d⟩:=I.pin p hp
   refine⟨(hs.2 p.1 ?_).trans e,n,ne,nf,d⟩;intro q;rw[q,hoc] at e;have q':oc=p.2:=Option.some.inj e;exact d w' (by rw[<- q']; exact hocd)
theorem zeK {M:Model}{A:Around}{E:Value->Shared->Prop}{i:Nat}{x:Str}{v:V}{u:Value}{Q:Unit->Shared->Prop} (I:Inv X pins σ H s) (hN:X.N.Nodup) (hi:X.N[i]?=some x) (hx:Loc X.env.scope x) (r:RelV v u)
  (h:∀s',Inv X pins (σ.set i (some v)) H s'->Q () s') (hf:X.fn x=true \/ X.env.scope.names.lookup x=some .local:=by first | exact .inl rfl | exact .inr rfl | assumption):wpAny M A (storeName X.env x u) Q E s:=
 zdz I hN hi hx r (fun s' I' _=>h s' I') hf
theorem Inv.call' {s':Shared}{ch:List Addr} (I:Inv X pins σ H s) (ho:s'.os=s.os) (u:Un (frs X.stack) ch H H' s.heap s'.heap) (hok:HOk X.prog X.w H' s'.heap) (hg:AllBare s'.gens)
  (hch:∀b∈ch,(b∈X.ex \/ X.s₀.heap.objs.size<=b)/\b≠X.env.locals/\(∀x c,X.env.cells.lookup x=some c->c≠b)/\∀p∈X.pn++pins,p.1≠b):Inv X pins σ H' s':=by
 obtain⟨h',g',d',t',o'⟩:=s';have e:o'=s.os:=ho;subst e;exact I.call (g':=g') (t':=t') (d':=d') u hok hg hch
end
abbrev XK:=Value->Option Addr->Hp->Prop
abbrev St:=List (Option V)
abbrev VK:=V->Hp->Prop
abbrev TE:=St->Hp->VK->Prop
abbrev TT:=St->Hp->(Bool->Hp->Prop)->Prop
abbrev TA:=St->Hp->(List V->Hp->Prop)->Prop
structure Ends where
 nx:St->Hp->Prop
 rt:VK
 bk:St->Hp->Prop:=fun _ _=>False
 ct:St->Hp->Prop:=fun _ _=>False
abbrev TS:=Ends->St->Hp->Prop
def EP (X:Cx) (pins:List (Addr×Obj)) (σ:St) (Q:VK) (u:Value) (s':Shared):Prop:=∃v H',Inv X pins σ H' s'/\RelV v u/\Q v H'
def TP (X:Cx) (pins:List (Addr×Obj)) (σ:St) (Q:Bool->Hp->Prop) (b:Bool) (s':Shared):Prop:=∃H',Inv X pins σ H' s'/\Q b H'
def AP (X:Cx) (pins:List (Addr×Obj)) (σ:St) (Q:List V->Hp->Prop) (us:List Value) (s':Shared):Prop:=∃vs H',Inv X pins σ H' s'/\Vals vs us/\Q vs H'
def SP (X:Cx) (pins:List (Addr×Obj)) (D:Ends) (f:Flow) (s':Shared):Prop:=
 match f with
 | .next=>∃σ' H',Inv X pins σ' H' s'/\D.nx σ' H'
 | .brk=>∃σ' H',Inv X pins σ' H' s'/\D.bk σ' H'
 | .cont=>∃σ' H',Inv X pins σ' H' s'/\D.ct σ' H'
 | .ret u=>∃v σ' H',Inv X pins σ' H' s'/\RelV v u/\D.rt v H'
def PE (X:Cx) (e:Expr) (t:TE):Prop:=
 ∀(pins:List (Addr×Obj)) (s:Shared) (σ:St) (H:Hp) (Q:VK),Inv X pins σ H s->t σ H Q->wpAny (model X.prog X.w) X.A (eval e X.env) (EP X pins σ Q) X.xe s
def PT (X:Cx) (e:Expr) (t:TT):Prop:=
 ∀(pins:List (Addr×Obj)) (s:Shared) (σ:St) (H:Hp) (Q:Bool->Hp->Prop),Inv X pins σ H s->t σ H Q->wpAny (model X.prog X.w) X.A (isTrue e X.env (eval e X.env)) (TP X pins σ Q) X.xe s
def PW (X:Cx) (e:Expr) (t:TT):Prop:=
 ∀(whole:Sem Value) (pins:List (Addr×Obj)) (s:Shared) (σ:St) (H:Hp) (Q:Bool->Hp->Prop),Inv X pins σ H s->t σ H Q->wpAny (model X.prog X.w) X.A (isTrue e X.env whole) (TP X pins σ Q) X.xe s
theorem PW.pt {X:Cx}{e:Expr}{t:TT} (h:PW X e t):PT X e t:=h _
def PA (X:Cx) (es:List Expr) (t:TA):Prop:=
 ∀(pos:Pos) (pins:List (Addr×Obj)) (s:Shared) (σ:St) (H:Hp) (Q:List V->Hp->Prop),Inv X pins σ H s->t σ H Q->wpAny (model X.prog X.w) X.A (spliced (backTo pos (starEach es X.env))) (AP X pins σ Q) X.xe s
def PS (X:Cx) (st:Stmt) (t:TS):Prop:=
 ∀(pins:List (Addr×Obj)) (s:Shared) (σ:St) (H:Hp) (D:Ends),Inv X pins σ H s->t D σ H->wpAny (model X.prog X.w) X.A (exec st X.env) (SP X pins D) X.xe s
def PSs (X:Cx) (st:List Stmt) (t:TS):Prop:=
 ∀(pins:List (Addr×Obj)) (s:Shared) (σ:St) (H:Hp) (D:Ends),Inv X pins σ H s->t D σ H->wpAny (model X.prog X.w) X.A (execs st X.env) (SP X pins D) X.xe s
theorem thn {α:Type}{t:Sem α}{Q Q':α->Shared->Prop}{M:Model}{A:Around}{E:Value->Shared->Prop}{s:Shared} (h:wpAny M A t Q E s) (hQ:∀a s,Q a s->Q' a s):wpAny M A t Q' E s:=wpAny_mono h hQ fun _ _ x=>x
end L2
namespace L2
open PySem PySem.Spec PyProof.Rows
section
variable {X:Cx}
def tVar (i:Nat):TE:=fun σ H Q=>∃v,σ[i]?=some (some v)/\Q v H
def tC (v:V):TE:=fun _ H Q=>Q v H
theorem zj6 {i:Nat}{x:Str}{pos:Pos} (hN:X.N[i]?=some x) (hv:Vis X.env.scope x) (hd:(x == ("__debug__":Str))=false:=by decide) (hcd:(x == ("__classdict__":Str))=false:=by decide):PE X (.Name x pos) (tVar i):=by
 intro pins s σ H Q I h;obtain⟨v,e,h⟩:=h;obtain⟨m,hn,hl⟩:=I.loc;obtain⟨u,r,l⟩:=hl i x v hN e hv;have fin:EP X pins σ Q u s:=⟨v,H,I,r,h⟩;rcases l with ⟨hk,hm⟩ | ⟨hk,c,hc,hcell⟩
 ·exact wpAny_Name (wpAny_loadName_local I.ok.kind hk hn hm fin) hd
 ·rcases hk with hk | hk
  ·exact wpAny_Name (wpAny_loadName_cell I.ok.kind hk hc hcell fin) hd
  ·exact wpAny_Name (wpAny_loadName_free I.ok.kind hk hc hcell fin hcd) hd
theorem zi {i j pos}:PE X (.Constant (.int i) j pos) (tC (.int i)):=fun _ _ _ H _ I h=>wpAny_Constant_int ⟨.int i,H,I.tok _,⟨_,rfl⟩,h⟩
theorem zaL {b j pos}:PE X (.Constant (.bool b) j pos) (tC (.bl b)):=fun _ _ _ H _ I h=>Constant_bool ⟨.bl b,H,I,rfl,h⟩
theorem zeF {j pos}:PE X (.Constant .none j pos) (tC .non):=fun _ _ _ H _ I h=>Constant_none ⟨.non,H,I,rfl,h⟩
theorem zD {x j pos}:PE X (.Constant (.str x) j pos) (tC (.str x)):=fun _ _ _ H _ I h=>Calls.Constant_str ⟨.str x,H,I.tok _,⟨_,rfl⟩,h⟩
def Gl (X:Cx) (x:Str):Prop:=X.env.kindOf x=some .globalImplicit
theorem zd5 {E:Value->Shared->Prop}{pins:List (Addr×Obj)}{s:Shared}{σ:St}{H:Hp}{x:Str}{u:Value}{pos:Pos}{Q:Value->Shared->Prop} (I:Inv X pins σ H s) (hg:Gl X x) (hm:X.mg x=some u) (h:Q u s)
  (hd:(x == ("__debug__":Str))=false:=by decide):wpAny (model X.prog X.w) X.A (eval (.Name x pos) X.env) Q E s:=
 Calls.Name_function_global I.ok.kind hg (Calls.loadGlobal_global (by rw[I.ok.glob]; exact I.mod.glob.keeps I.bk) hm h) hd
theorem zb9 {E:Value->Shared->Prop}{pins:List (Addr×Obj)}{s:Shared}{σ:St}{H:Hp}{x:Str}{u:Value}{pos:Pos}{Q:Value->Shared->Prop} (I:Inv X pins σ H s) (hg:Gl X x) (hm:X.mg x=none) (hv:bootBuiltins x=some u) (h:Q u s)
  (hn:x≠"__name__":=by decide) (hd:(x == ("__debug__":Str))=false:=by decide):wpAny (model X.prog X.w) X.A (eval (.Name x pos) X.env) Q E s:=by
 obtain⟨mb,h1,h2⟩:=I.mod.blt;exact Calls.Name_function_global I.ok.kind hg (Calls.loadGlobal_builtin (by rw[I.ok.glob]; exact I.mod.glob.keeps I.bk) hm (by rw[I.ok.blt]; exact h1.keeps I.bk) ((h2 x hn).trans hv) h) hd
theorem zcT {x:Str}{v:V}{u:Value}{pos:Pos} (hg:Gl X x) (hm:X.mg x=some u) (r:RelV v u) (hd:(x == ("__debug__":Str))=false:=by decide):PE X (.Name x pos) (tC v):=
 fun _ _ _ H _ I h=>zd5 I hg hm ⟨v,H,I,r,h⟩ hd
theorem zdM {x:Str}{v:V}{u:Value}{pos:Pos} (hg:Gl X x) (hm:X.mg x=none) (hv:bootBuiltins x=some u) (r:RelV v u) (hn:x≠"__name__":=by decide) (hd:(x == ("__debug__":Str))=false:=by decide):PE X (.Name x pos) (tC v):=
 fun _ _ _ H _ I h=>zb9 I hg hm hv ⟨v,H,I,r,h⟩ hn hd
variable {a b:Expr}{ta tb:TE}{pos:Pos}
def PC (X:Cx) (op:CmpOp) (a b:Expr) (t:TE):Prop:=
 ∀(pins:List (Addr×Obj)) (s:Shared) (σ:St) (H:Hp) (Q:VK),Inv X pins σ H s->t σ H Q->
  wpAny (model X.prog X.w) X.A (eval a X.env) (fun v s₁=>wpAny (model X.prog X.w) X.A (eval b X.env) (fun u s₂=>wpAny (model X.prog X.w) X.A (compareOp op v u) (EP X pins σ Q) X.xe s₂) X.xe s₁) X.xe s
theorem nobehind (b:Expr) {op:CmpOp} (h:op≠.In) (h2:op≠.NotIn):behindInMarks op b=false:=by
 have e1:(op == CmpOp.In)=false:=by cases op <;> first | rfl | exact absurd rfl h
 have e2:(op == CmpOp.NotIn)=false:=by cases op <;> first | rfl | exact absurd rfl h2
 cases b <;> simp[behindInMarks,e1,e2]
def tB (t:TE):TT:=fun σ H Q=>t σ H fun x H1=>∃c,x=.bl c/\Q c H1
theorem zkd {op:CmpOp}{t:TE} (h:PC X op a b t) (h1:behindInMarks op b=false:=by first | exact nobehind _ (by decide) (by decide) | rfl):PE X (.Compare a [op] [b] pos) t:=fun pins s σ H Q I hw=>wpAny_Compare1 (h pins s σ H Q I hw) h1
theorem zh5 {op:CmpOp}{t:TE} (h:PC X op a b t) (h1:behindInMarks op b=false:=by first | exact nobehind _ (by decide) (by decide) | rfl):PT X (.Compare a [op] [b] pos) (tB t):=by
 intro pins s σ H Q I hw;refine wpAny_isTrue_Compare1 (thn (h pins s σ H _ I hw) fun v s1 h1=>thn h1 fun u s2 h2=>thn h2 fun c s3 ⟨x,H1,I1,r1,q1⟩=>?_) h1;obtain⟨d,rfl,q⟩:=q1;cases r1;exact wpAny_truthy_bool ⟨H1,I1,q⟩
theorem zbP {e:Expr}{t:TE} (h:PE X e t) (he:∀whole,isTrue e X.env whole=(do let v <- whole; standAt e.pos; holding [v] (truthy v)):=by intro _; rfl):PT X e (tB t):=by
 intro pins s σ H Q I hw;refine isTrue_plain (thn (h pins s σ H _ I hw) fun v s1 ⟨x,H1,I1,r1,q1⟩=>?_) (he _);obtain⟨d,rfl,q⟩:=q1;cases r1;exact wpAny_truthy_bool ⟨H1,I1,q⟩
variable {tA tB':TT}{rest:List Expr}
def tAnd (t u:TT):TT:=fun σ H Q=>t σ H fun c H1=>if c=true then u σ H1 Q else Q false H1
def tOr (t u:TT):TT:=fun σ H Q=>t σ H fun c H1=>if c=true then Q true H1 else u σ H1 Q
def tNot (t:TT):TT:=fun σ H Q=>t σ H fun c H1=>Q (!c) H1
theorem zfk (ha:PT X a tA):PW X (.BoolOp .And [a] pos) tA:=by
 intro wh pins s σ H Q I h;refine isTrue_and (thn (ha pins s σ H Q I h) fun c s1 e=>?_);cases c with
 | true=>exact isTrue_and_nil e
 | false=>exact e
theorem zaP (ha:PT X a tA):PW X (.BoolOp .Or [a] pos) tA:=by
 intro wh pins s σ H Q I h;refine isTrue_or (thn (ha pins s σ H Q I h) fun c s1 e=>?_);cases c with
 | false=>exact isTrue_or_nil e
 | true=>exact e
theorem zhV (ha:PT X a tA) (hb:PW X (.BoolOp .And (b::rest) pos) tB'):PW X (.BoolOp .And (a::b::rest) pos) (tAnd tA tB'):=by
 intro wh pins s σ H Q I h;refine isTrue_and (thn (ha pins s σ H _ I h) fun c s1 ⟨H1,I1,q1⟩=>?_);cases c with
 | true=>exact hb wh pins s1 σ H1 Q I1 q1
 | false=>exact⟨H1,I1,q1⟩
theorem zbo (ha:PT X a tA) (hb:PW X (.BoolOp .Or (b::rest) pos) tB'):PW X (.BoolOp .Or (a::b::rest) pos) (tOr tA tB'):=by
 intro wh pins s σ H Q I h;refine isTrue_or (thn (ha pins s σ H _ I h) fun c s1 ⟨H1,I1,q1⟩=>?_);cases c with
 | true=>exact⟨H1,I1,q1⟩
 | false=>exact hb wh pins s1 σ H1 Q I1 q1
theorem zb1 (ha:PT X a tA):PT X (.UnaryOp .Not a pos) (tNot tA):=by
 intro pins s σ H Q I h;exact isTrue_not (ha pins s σ H (fun c H1=>Q (!c) H1) I h)
def zkF (ta tb:TE):TE:=fun σ H Q=>ta σ H fun x H1=>∃c,x=.bl c/\if c=true then tb σ H1 Q else Q (.bl false) H1
def zku (ta:TE):TE:=fun σ H Q=>ta σ H fun x H1=>∃c,x=.bl c/\Q (.bl (!c)) H1
theorem zhY {op}{t:TE} (h:PE X a t):PE X (.BoolOp op [a] pos) t:=fun pins s σ H Q I hw=>BoolOp_one (h pins s σ H Q I hw)
theorem zhX (ha:PE X a ta) (hb:PE X (.BoolOp .And (b::rest) pos) tb):PE X (.BoolOp .And (a::b::rest) pos) (zkF ta tb):=by
 intro pins s σ H Q I h;refine BoolOp_and (thn (ha pins s σ H _ I h) fun v s1 ⟨x,H1,I1,r1,q1⟩=>?_);obtain⟨c,rfl,q1⟩:=q1;cases r1;refine wpAny_truthy_bool ?_;cases c with
 | true=>exact hb pins s1 σ H1 Q I1 q1
 | false=>exact⟨.bl false,H1,I1,rfl,q1⟩
theorem zjR (ha:PE X a ta):PE X (.UnaryOp .Not a pos) (zku ta):=by
 intro pins s σ H Q I h;refine UnaryOp_ (thn (ha pins s σ H _ I h) fun v s1 ⟨x,H1,I1,r1,q1⟩=>?_);obtain⟨c,rfl,q1⟩:=q1;cases r1;exact not_of (wpAny_truthy_bool ⟨.bl (!c),H1,I1,rfl,q1⟩)
end
end L2
namespace L2
open PySem PySem.Spec PyProof.Rows
def SqL (K:PySem.W.Frag) (H:Hp) (a:Addr) (xs:List V):Prop:=
 Rd H a (.lst xs) \/
  ∃(o:Obj) (its:Array Value) (n:Nat),K.lookup a=some o/\o.cls=.type "list"/\o.dict=none/\o.data=.seq its n/\its.size<=sizeLine/\Vals xs its.toList
def SqT (K:PySem.W.Frag) (H:Hp) (a:Addr) (xs:List V):Prop:=
 Rd H a (.tup xs) \/
  ∃(o:Obj) (its:Array Value) (n:Nat),K.lookup a=some o/\o.cls=.type "tuple"/\o.data=.seq its n/\its.size<=sizeLine/\Vals xs its.toList
def absV:Value->Option V
 | .none=>some .non
 | .bool b=>some (.bl b)
 | .int i _=>some (.int i)
 | .str x _=>some (.str x)
 | .bytes b _=>some (.byt b)
 | .float b _=>some (.flt b)
 | .ref a=>some (.ref a)
 | .type n=>some (.ty n)
 | _=>none
theorem RelV.abs {x:V}{u:Value} (r:RelV x u):absV u=some x:=by
 cases x with
 | non=>cases r; rfl
 | bl _=>cases r; rfl
 | int _=>obtain⟨t,rfl⟩:=r; rfl
 | str _=>obtain⟨t,rfl⟩:=r; rfl
 | byt _=>obtain⟨t,rfl⟩:=r; rfl
 | flt _=>obtain⟨t,rfl⟩:=r; rfl
 | ref _=>cases r; rfl
 | ty _=>cases r; rfl
theorem RelV.inj {x y:V}{u:Value} (r:RelV x u) (q:RelV y u):x=y:=Option.some.inj (r.abs.symm.trans q.abs)
theorem Vals.inj {xs ys:List V}{us:List Value} (h:Vals xs us) (g:Vals ys us):xs=ys:=by
 induction h generalizing ys with
 | nil=>cases g; rfl
 | cons r t ih=>cases g with | cons r' t'=>rw[r.inj r',ih t']
section
variable {X:Cx}{pins:List (Addr×Obj)}{σ:St}{H:Hp}{s:Shared}{a:Addr}{xs ys:List V}
theorem SqL.of {K:PySem.W.Frag} (h:H a=some (.lst xs)):SqL K H a xs:=.inl (.inl h)
theorem SqT.of {K:PySem.W.Frag} (h:H a=some (.tup xs)):SqT K H a xs:=.inl (.inl h)
theorem Inv.list (I:Inv X pins σ H s) (h:SqL X.K H a xs):∃its:List Value,Vals xs its/\PlainL s.heap a its.toArray/\xs.length<=sizeLine:=by
 rcases h with h | ⟨o,its,n,hk,hc,hd,hs,hz,r⟩
 ·obtain⟨z,its,n,r,e⟩:=h.ok I.hok
  exact⟨its,r,⟨_,n,e,rfl,rfl,rfl⟩,z⟩
 ·refine⟨its.toList,r,⟨o,n,I.kIn a o hk,hc,hd,by simpa using hs⟩,?_⟩
  have e:=r.length;simp only[Array.length_toList] at e;omega
theorem Inv.tuple (I:Inv X pins σ H s) (h:SqT X.K H a xs):∃its:List Value,Vals xs its/\IsTup s.heap a its.toArray/\xs.length<=sizeLine:=by
 rcases h with h | ⟨o,its,n,hk,hc,hs,hz,r⟩
 ·obtain⟨z,its,r,p⟩:=h.ok I.hok
  exact⟨its,r,p,z⟩
 ·refine⟨its.toList,r,⟨o,I.kIn a o hk,hc,n,by simpa using hs⟩,?_⟩
  have e:=r.length;simp only[Array.length_toList] at e;omega
theorem Inv.list_inj (I:Inv X pins σ H s) (h:SqL X.K H a xs) (h':SqL X.K H a ys):xs=ys:=by
 obtain⟨its,r,⟨o,n,e,_,_,d⟩,_⟩:=I.list h;obtain⟨its',r',⟨o',n',e',_,_,d'⟩,_⟩:=I.list h';rw[e] at e'; cases e';rw[d] at d';injection d' with d1 _
 have:its=its':=by simpa using congrArg Array.toList d1
 subst this;exact r.inj r'
theorem Inv.tuple_inj (I:Inv X pins σ H s) (h:SqT X.K H a xs) (h':SqT X.K H a ys):xs=ys:=by
 obtain⟨its,r,⟨o,e,_,n,d⟩,_⟩:=I.tuple h;obtain⟨its',r',⟨o',e',_,n',d'⟩,_⟩:=I.tuple h';rw[e] at e'; cases e';rw[d] at d';injection d' with d1 _
 have:its=its':=by simpa using congrArg Array.toList d1
 subst this;exact r.inj r'
end
abbrev Cx.wish (X:Cx) (E:Value->Shared->Prop):Cx:={ X with xe:=E }
abbrev Cx.nox (X:Cx):Cx:=X.wish fun _ _=>False
theorem Cx.Ok.wish {X:Cx} (ok:X.Ok) (E:Value->Shared->Prop):(X.wish E).Ok:=
 ⟨ok.mod,ok.kind,ok.glob,ok.blt,ok.above,ok.inj,ok.has,ok.cab,ok.hd,ok.frames,ok.stk,ok.exf,ok.bs,ok.bsz,ok.noex,ok.exfs,ok.funs,ok.frf⟩
theorem Cx.Ok.unwish {X:Cx}{E:Value->Shared->Prop} (ok:(X.wish E).Ok):X.Ok:=
 ⟨ok.mod,ok.kind,ok.glob,ok.blt,ok.above,ok.inj,ok.has,ok.cab,ok.hd,ok.frames,ok.stk,ok.exf,ok.bs,ok.bsz,ok.noex,ok.exfs,ok.funs,ok.frf⟩
section
variable {X:Cx}{pins:List (Addr×Obj)}{σ:St}{H:Hp}{s:Shared}{E:Value->Shared->Prop}
theorem Inv.wish (I:Inv X pins σ H s) (E:Value->Shared->Prop):Inv (X.wish E) pins σ H s:=⟨I.ok.wish E,I.os,I.bare,I.base,I.loc,I.cell,I.free,I.freeC,I.pin,I.hok,I.len⟩
theorem Inv.unwish (I:Inv (X.wish E) pins σ H s):Inv X pins σ H s:=⟨I.ok.unwish,I.os,I.bare,I.base,I.loc,I.cell,I.free,I.freeC,I.pin,I.hok,I.len⟩
theorem SP.unwish {D:Ends}{f:Flow}{s':Shared} (h:SP (X.wish E) pins D f s'):SP X pins D f s':=by
 cases f with
 | next=>obtain⟨σ',H',I,q⟩:=h; exact⟨σ',H',I.unwish,q⟩
 | brk=>obtain⟨σ',H',I,q⟩:=h; exact⟨σ',H',I.unwish,q⟩
 | cont=>obtain⟨σ',H',I,q⟩:=h; exact⟨σ',H',I.unwish,q⟩
 | ret u=>obtain⟨v,σ',H',I,r,q⟩:=h; exact⟨v,σ',H',I.unwish,r,q⟩
theorem PSs.nox {st:List Stmt}{t:TS} (h:PSs X.nox st t):PSs X st t:=fun pins s σ H D I hw=>
 wpAny_mono (h pins s σ H D (I.wish _) hw) (fun _ _ q=>q.unwish) fun _ _ z=>False.elim z
end
section
variable {X:Cx}{st:Stmt}{rest:List Stmt}{t u:TS}{e:Expr}{te:TE}{pos:Pos}
def zkp:TS:=fun D σ H=>D.nx σ H
def tSeq (t u:TS):TS:=fun D σ H=>t { D with nx:=u D } σ H
theorem zw:PSs X [] zkp:=fun _ _ σ H _ I h=>wpAny_execs_nil ⟨σ,H,I,h⟩
theorem ze (h1:PS X st t) (h2:PSs X rest u):PSs X (st::rest) (tSeq t u):=by
 intro pins s σ H D I h;refine wpAny_execs_cons (thn (h1 pins s σ H { D with nx:=u D } I h) fun f s1 q=>?_);cases f with
 | next=>
  obtain⟨σ',H',I',q⟩:=q;exact h2 pins s1 σ' H' D I' q
 | ret v=>exact q
 | brk=>exact q
 | cont=>exact q
theorem zh (h1:PS X st t):PSs X [st] t:=by
 intro pins s σ H D I h;refine wpAny_execs_cons (thn (h1 pins s σ H D I h) fun f s1 q=>?_);cases f with
 | next=>exact wpAny_execs_nil q
 | ret v=>exact q
 | brk=>exact q
 | cont=>exact q
theorem Inv.quiet {pins:List (Addr×Obj)}{σ:St}{H:Hp}{s:Shared} (I:Inv X pins σ H s):interactive X.env=false:=by simp[interactive,I.ok.kind]
def zkB (te:TE):TS:=fun D σ H=>te σ H fun _ H1=>D.nx σ H1
theorem zal (he:PE X e te) (hs:swapsWith e none pos.line X.env=pure false:=by rfl):PS X (.Expr e pos) (zkB te):=by
 intro pins s σ H D I h;exact wpAny_Expr_any (thn (he pins s σ H _ I h) fun v s1 ⟨x,H1,I1,r1,q1⟩=>⟨σ,H1,I1,q1⟩) I.quiet hs
def tRet (te:TE):TS:=fun D σ H=>te σ H D.rt
theorem zp (he:PE X e te):PS X (.Return (some e) pos) (tRet te):=by
 intro pins s σ H D I h;exact wpAny_Return_some (thn (he pins s σ H _ I h) fun v s1 ⟨x,H1,I1,r1,q1⟩=>⟨x,σ,H1,I1,r1,q1⟩)
def tIfS (c:TT) (t u:TS):TS:=fun D σ H=>c σ H fun b H1=>if b=true then t D σ H1 else u D σ H1
theorem zR {c:Expr}{a b:List Stmt}{tc:TT} (hc:PT X c tc) (ha:PSs X a t) (hb:PSs X b u):PS X (.If c a b pos) (tIfS tc t u):=by
 intro pins s σ H D I h;refine wpAny_If (thn (hc pins s σ H _ I h) fun d s1 ⟨H1,I1,q1⟩=>?_);cases d with
 | true=>exact ha pins s1 σ H1 D I1 q1
 | false=>exact hb pins s1 σ H1 D I1 q1
def zjB:TS:=fun _ _ _=>False
theorem zgv {sts:List Stmt}:PSs X sts zjB:=fun _ _ _ _ _ _ h=>h.elim
end
abbrev TG:=V->St->Hp->(St->Hp->Prop)->Prop
abbrev TGs:=List V->St->Hp->(St->Hp->Prop)->Prop
def PG (X:Cx) (target:Expr) (t:TG):Prop:=
 ∀(pins:List (Addr×Obj)) (s:Shared) (σ:St) (H:Hp) (v:V) (u:Value) (Q:St->Hp->Prop),Inv X pins σ H s->RelV v u->t v σ H Q->
  wpAny (model X.prog X.w) X.A (assign target X.env u) (fun _ s'=>∃σ' H',Inv X pins σ' H' s'/\Q σ' H') X.xe s
def PGs (X:Cx) (ts:List Expr) (t:TGs):Prop:=
 ∀(pins:List (Addr×Obj)) (s:Shared) (σ:St) (H:Hp) (vs:List V) (us:List Value) (Q:St->Hp->Prop),Inv X pins σ H s->Vals vs us->t vs σ H Q->
  wpAny (model X.prog X.w) X.A (assignInOrder ((assignEach ts X.env).map (·.2)) us) (fun _ s'=>∃σ' H',Inv X pins σ' H' s'/\Q σ' H') X.xe s
abbrev TSet:=V->V->V->Hp->(Hp->Prop)->Prop
def PSet (X:Cx) (t:TSet):Prop:=
 ∀(pins:List (Addr×Obj)) (s:Shared) (σ:St) (H:Hp) (o i v:V) (ov iv u:Value) (Q:Hp->Prop),Inv X pins σ H s->RelV o ov->RelV i iv->RelV v u->t o i v H Q->
  wpAny (model X.prog X.w) X.A (setItem ov iv u) (fun _ s'=>∃H',Inv X pins σ H' s'/\Q H') X.xe s
section
variable {X:Cx}{pos:Pos}
def zaA (i:Nat):TG:=fun v σ H Q=>Q (σ.set i (some v)) H
theorem zr {i:Nat}{x:Str} (hN:X.N.Nodup) (hi:X.N[i]?=some x) (hx:Loc X.env.scope x) (hf:X.fn x=true \/ X.env.scope.names.lookup x=some .local:=by first | exact .inl rfl | exact .inr rfl | assumption):PG X (.Name x pos) (zaA i):=by
 intro pins s σ H v u Q I r h;exact wpAny_assign_Name (zeK I hN hi hx r (fun s' I'=>⟨_,H,I',h⟩) hf)
def gNil:TGs:=fun vs σ H Q=>vs=[]/\Q σ H
def zi6 (t:TG) (u:TGs):TGs:=fun vs σ H Q=>∃v r,vs=v::r/\t v σ H fun σ' H'=>u r σ' H' Q
theorem zcv:PGs X [] gNil:=by
 intro pins s σ H vs us Q I r h;obtain⟨e,h⟩:=h;subst e;cases r;exact assignInOrder_nil ⟨σ,H,I,h⟩
theorem zai {e:Expr}{es:List Expr}{t:TG}{u:TGs} (h1:PG X e t) (h2:PGs X es u)
  (hs:(assignEach (e::es) X.env).map (·.2)=assign e X.env::(assignEach es X.env).map (·.2):=by rfl):PGs X (e::es) (zi6 t u):=by
 intro pins s σ H vs us Q I r h;obtain⟨v,vr,e1,h⟩:=h;subst e1;cases r with
 | cons r rr=>
  rw[hs];refine assignInOrder_cons (thn (h1 pins s σ H _ _ _ I r h) fun _ s1 ⟨σ1,H1,I1,q1⟩=>?_);exact h2 pins s1 σ1 H1 _ _ Q I1 rr q1
def gTup (K:PySem.W.Frag) (n:Nat) (t:TGs):TG:=fun v σ H Q=>∃a xs,v=.ref a/\SqT K H a xs/\xs.length=n/\t xs σ H Q
theorem zeQ {es:List Expr}{k:Nat}{t:TGs}{n:Nat} (hc:X.calm=true) (h:PGs X es t)
  (hn:(assignEach es X.env).length=n:=by rfl) (hst:(assignEach es X.env).findIdx? (·.1)=none:=by rfl):PG X (.Tuple es k pos) (gTup X.K n t):=by
 intro pins s σ H v u Q I r hw;obtain⟨a,xs,e1,hq,hl,hw⟩:=hw;subst e1;cases r;obtain⟨its,rv,ht,hz⟩:=I.tuple hq;refine assign_Tuple_tuple (I.ok.hd hc) ht (by simp[hn,<- hl,rv.length]) hst fun h' hx=>?_;have I1:Inv X pins σ H { s with heap:=h' }:=I.kept (t':=s.toks) fun b o e=>hx b o (Nat.ne_of_lt (Heap.lt_size e)) e;exact h pins _ σ H xs _ Q I1 (by simpa using rv) hw
def gSub (to ti:TE) (t:TSet):TG:=fun v σ H Q=>to σ H fun o H1=>ti σ H1 fun i H2=>t o i v H2 fun H3=>Q σ H3
theorem zhR {o i:Expr}{to ti:TE}{t:TSet} (ho:PE X o to) (hi:PE X i ti) (hs:PSet X t)
  (ha:∀v,assign (.Subscript o i pos) X.env v=(do
   let ov <- holding [v] (eval o X.env)
   let iv <- holding [v,ov] (eval i X.env)
   standAt pos
   holding [v,ov,iv] (setItem ov iv v)
   release [v,ov,iv] []):=by intro _; rfl):PG X (.Subscript o i pos) (gSub to ti t):=by
 intro pins s σ H v u Q I r h;rw[ha];refine wpAny_bind (wpAny_holding (thn (ho pins s σ H _ I h) fun ov s1 ⟨x,H1,I1,r1,q1⟩=>?_));refine wpAny_bind (wpAny_holding (thn (hi pins s1 σ H1 _ I1 q1) fun iv s2 ⟨y,H2,I2,r2,q2⟩=>?_));refine wpAny_bind (wpAny_standAt (wpAny_bind (wpAny_holding (thn (hs pins s2 σ H2 x y v ov iv u _ I2 r1 r2 r q2) fun _ s3 ⟨H3,I3,q3⟩=>?_))));exact wpAny_release ⟨σ,H3,I3,q3⟩
def tAsg (te:TE) (g:TG):TS:=fun D σ H=>te σ H fun x H1=>g x σ H1 D.nx
theorem zh1 {tg e:Expr}{te:TE}{g:TG} (he:PE X e te) (hg:PG X tg g) (hs:swapsWithSole [tg] e pos.line X.env=pure false:=by rfl) (hw:swappedStores [tg] e X.env=pure none:=by rfl)
  (h1:(assignEach [tg] X.env).map (·.2)=[assign tg X.env]:=by rfl):PS X (.Assign [tg] e pos) (tAsg te g):=by
 intro pins s σ H D I h;refine wpAny_Assign_stores (thn (he pins s σ H _ I h) fun v s1 ⟨x,H1,I1,r1,q1⟩=>?_) hs hw;rw[h1];exact thn (hg pins s1 σ H1 x v _ I1 r1 q1) fun _ s2 q=>q
theorem zt {i:Nat}{x:Str}{e:Expr}{te:TE}{pos':Pos} (hN:X.N.Nodup) (hi:X.N[i]?=some x) (hx:Loc X.env.scope x) (he:PE X e te) (hs:swapsWith e (some (.Name x pos')) pos.line X.env=pure false:=by rfl) (hf:X.fn x=true \/ X.env.scope.names.lookup x=some .local:=by first | exact .inl rfl | exact .inr rfl | assumption) :
  PS X (.Assign [.Name x pos'] e pos) (tAsg te (zaA i)):=by
 intro pins s σ H D I h;refine wpAny_Assign_Name (thn (he pins s σ H _ I h) fun v s1 ⟨y,H1,I1,r1,q1⟩=>?_) hs;exact zeK I1 hN hi hx r1 (fun s2 I2=>⟨_,H1,I2,q1⟩) hf
end
section
variable {X:Cx}{pos:Pos}
def zjO (c:TT) (tb:TS):TS:=fun D σ H=>∃W:Nat->St->Hp->Prop,(∃m,W m σ H)/\∀m σ H,W m σ H->
 c σ H fun b H1=>if b=true then ∃N:St->Hp->Prop,(∀σ' H',N σ' H'->∃m',m'<m/\W m' σ' H')/\tb { D with nx:=N,ct:=N,bk:=D.nx } σ H1 else D.nx σ H1
theorem zeM {c:Expr}{body:List Stmt}{tc:TT}{tb:TS} (hp:PassesOwn (model X.prog X.w) X.A X.env X.xe) (hc:PT X c tc) (hb:PSs X body tb):PS X (.While c body [] pos) (zjO tc tb):=by
 intro pins s σ H D I h;obtain⟨W,⟨m0,w0⟩,turn⟩:=h;refine wpAny_While (codeAny_whileLoop (fun n s'=>∃σ' H',Inv X pins σ' H' s'/\W n σ' H') ?_ m0 ⟨σ,H,I,w0⟩);rintro n s1 ⟨σ1,H1,I1,w1⟩;refine wpAny_passesOwn hp (thn (hc pins s1 σ1 H1 _ I1 (turn n σ1 H1 w1)) fun b s2 ⟨H2,I2,q2⟩=>?_);cases b with
 | true=>
  obtain⟨N,hN,q2⟩:=q2;rw[if_pos rfl];refine wpAny_passesOwn hp (thn (hb pins s2 σ1 H2 _ I2 q2) fun f s3 q3=>?_);cases f with
  | next=>
   obtain⟨σ3,H3,I3,n3⟩:=q3;obtain⟨m',hm,w3⟩:=hN σ3 H3 n3;exact⟨m',hm,σ3,H3,I3,w3⟩
  | cont=>
   obtain⟨σ3,H3,I3,n3⟩:=q3;obtain⟨m',hm,w3⟩:=hN σ3 H3 n3;exact⟨m',hm,σ3,H3,I3,w3⟩
  | brk=>exact q3
  | ret v=>exact q3
 | false=>
  rw[if_neg Bool.false_ne_true];exact wpAny_execs_nil ⟨σ1,H2,I2,q2⟩
end
structure It where
 go:Nat->Hp->Prop
 yld:Nat->Hp->V->Hp->Prop
 stop:Nat->Hp->Prop
def FpOk (X:Cx) (pins:List (Addr×Obj)) (H:Hp) (b:Addr):Prop:=
 H b=none/\b≠X.env.locals/\b∉X.fs/\(b∈X.ex \/ X.s₀.heap.objs.size<=b)/\(∀x c,X.env.cells.lookup x=some c->c≠b)/\∀p∈X.pn++pins,p.1≠b
theorem Inv.fpOk {X:Cx}{pins:List (Addr×Obj)}{σ:St}{H H':Hp}{s:Shared}{b:Addr} (I:Inv X pins σ H s) (hb:s.heap.objs.size<=b) (hn:H' b=none):FpOk X pins H' b:=by
 refine⟨hn,Nat.ne_of_gt (Nat.lt_of_lt_of_le I.lt hb),I.nofs hb,.inr (Nat.le_trans I.sz hb),fun x c e z=>?_,fun p hp z=>?_⟩
 ·obtain⟨v,q⟩:=I.cell x c e
  exact absurd (Nat.lt_of_lt_of_le q.lt (by rw[z]; exact hb)) (Nat.lt_irrefl _)
 ·exact absurd (Nat.lt_of_lt_of_le (Heap.lt_size (I.pin p hp).1) (by rw[z]; exact hb)) (Nat.lt_irrefl _)
structure Turn (P:Program) (w:World) (K:PySem.W.Frag) (tg:Expr) (J:It) (fp:List Addr) (it:Addr) (tn:Nat->Heap->Prop):Prop where
 mem:it∈fp
 obj:∀i h,tn i h->∀b∈fp,∃o,h.get? b=some o/\∀v,o.data≠.cell v
 keep:∀i h h',tn i h->(∀b∈fp,∀o,h.get? b=some o->h'.get? b=some o)->tn i h'
 item:∀(X:Cx),X.prog=P->X.w=w->X.K=K->X.calm=true->∀(i:Nat) (pins:List (Addr×Obj)) (s:Shared) (σ:St) (H:Hp) (E:Value->Shared->Prop),Inv X pins σ H s->(∀b∈fp,FpOk X pins H b)->tn i s.heap->J.go i H->
  wpAny (model P w) X.A (pyNext (.ref it)) (fun r s1=>∃u,r=some u/\
   wpAny (model P w) X.A (letOwnedTupleGo tg (.ref it) u) (fun _ s2=>∃x H',Inv X pins σ H' s2/\RelV x u/\J.yld i H x H'/\tn (i+1) s2.heap/\∀b∈fp,H' b=none) E s1) E s
 done:∀(X:Cx),X.prog=P->X.w=w->X.K=K->X.calm=true->∀(i:Nat) (pins:List (Addr×Obj)) (s:Shared) (σ:St) (H:Hp) (E:Value->Shared->Prop),Inv X pins σ H s->(∀b∈fp,FpOk X pins H b)->tn i s.heap->J.stop i H->
  wpAny (model P w) X.A (pyNext (.ref it)) (fun r s1=>r=none/\Inv X pins σ H s1) E s
 self:∀(A:Around) (i:Nat) (s:Shared) (Q:Value->Shared->Prop) (E:Value->Shared->Prop),tn i s.heap->Q (.ref it) s->wpAny (model P w) A (pyIter (.ref it)) Q E s
abbrev TI:=St->Hp->(It->Hp->Prop)->Prop
def PIE (X:Cx) (pins:List (Addr×Obj)) (σ:St) (tg:Expr) (R:It->Hp->Prop) (itv:Value) (s2:Shared):Prop:=
 ∃(it:Addr) (fp:List Addr) (tn:Nat->Heap->Prop) (J:It) (H':Hp),itv=.ref it/\Inv X pins σ H' s2/\Turn X.prog X.w X.K tg J fp it tn/\tn 0 s2.heap/\(∀b∈fp,FpOk X pins H' b)/\R J H'
def PI (X:Cx) (tg iter:Expr) (wi:TI):Prop:=
 ∀(pins:List (Addr×Obj)) (s:Shared) (σ:St) (H:Hp) (R:It->Hp->Prop),Inv X pins σ H s->wi σ H R->
  wpAny (model X.prog X.w) X.A (eval iter X.env) (fun v s1=>wpAny (model X.prog X.w) X.A (pyIter v) (PIE X pins σ tg R) X.xe s1) X.xe s
theorem zgY {M:Model}{A:Around}{E:Value->Shared->Prop}{s:Shared}{tg:Expr}{it:Addr}{u:Value}{o:Obj}{n:String}{vs:Array Value}{Q:Unit->Shared->Prop} (ho:s.heap.get? it=some o) (hc:o.cls=.type n) (hd:o.data=.fields vs)
  (hn:["enumerate","zip","dict_itemiterator","dict_reverseitemiterator","odict_iterator","itertools.zip_longest","itertools.pairwise"].contains n=false) (hQ:Q () s):wpAny M A (letOwnedTupleGo tg (.ref it) u) Q E s:=by
 unfold letOwnedTupleGo;cases tg <;> first
  | exact wpAny_pure hQ
  | (cases u <;> first
    | exact wpAny_pure hQ
    | (refine wpAny_bind (wpAny_load ho ?_); rw[hc,hd]; show wpAny M A (if (["enumerate","zip","dict_itemiterator","dict_reverseitemiterator","odict_iterator","itertools.zip_longest","itertools.pairwise"].contains n && vs[0]? == some (rawInt _))=true then _ else _) Q E s; rw[if_neg (by intro h; rw[hn,Bool.false_and] at h; cases h)]; exact wpAny_pure hQ))
def Itl (K:PySem.W.Frag) (a:Addr):It:=
 ⟨fun i H=>∃xs x,SqL K H a xs/\xs[i]?=some x,fun i H x H'=>H'=H/\∀xs,SqL K H a xs->xs[i]?=some x,fun i H=>∃xs,SqL K H a xs/\xs.length<=i⟩
def Itt (K:PySem.W.Frag) (a:Addr):It:=
 ⟨fun i H=>∃xs x,SqT K H a xs/\xs[i]?=some x,fun i H x H'=>H'=H/\∀xs,SqT K H a xs->xs[i]?=some x,fun i H=>∃xs,SqT K H a xs/\xs.length<=i⟩
def Itr (lo:Int) (n:Nat):It:=⟨fun i _=>i<n,fun i H x H'=>H'=H/\x=.int (lo+i),fun i _=>n<=i⟩
theorem zf3 {P:Program}{w:World}{K:PySem.W.Frag}{tg:Expr} (a it:Addr):Turn P w K tg (Itl K a) [it] it (fun i h=>h.IsListIter it a i) where
 mem:=by simp
 obj:=fun i h st b hb=>by
  have e:b=it:=by simpa using hb
  subst e;obtain⟨o,e,c,d⟩:=st;exact⟨o,e,fun v z=>by rw[d] at z; cases z⟩
 keep:=fun i h h' st k=>st.at fun o e=>k it (by simp) o e
 item:=by
  intro X hP hw hK hc i pins s σ H E I hf st hg;subst hP hw hK;obtain⟨xs,x,hq,hx⟩:=hg;obtain⟨its,rv,p,hz⟩:=I.list hq;obtain⟨u,hu,ru⟩:=rv.get hx;obtain⟨f0,f1,f2,f3,f4,f5⟩:=hf it (by simp);refine wpAny_pyNext_list_item st p.isList (x:=u) (by simpa using hu) fun h' st' sb=>?_;have I1:Inv X pins σ H { s with heap:=h' }:=I.turned (t':=s.toks) (fun b o hb e=>(sb.2 b hb).trans e) f0 f1 f3 f4 f5;obtain⟨o,e,c,d⟩:=id st';exact⟨u,rfl,zgY (s:={ s with heap:=h' }) e c d (by decide) ⟨x,H,I1,ru,⟨rfl,fun ys hy=>by rw[I.list_inj hy hq]; exact hx⟩,st',fun b hb=>(hf b hb).1⟩⟩
 done:=by
  intro X hP hw hK hc i pins s σ H E I hf st hg;subst hP hw hK;obtain⟨xs,hq,hx⟩:=hg;obtain⟨its,rv,p,hz⟩:=I.list hq;obtain⟨f0,f1,f2,f3,f4,f5⟩:=hf it (by simp);have hl:=rv.length;exact wpAny_pyNext_list_end (I.ok.hd hc) st p.isList (by simp; omega) fun h' eb=>⟨rfl,I.turned (t':=s.toks) (fun b o hb e=>eb b o hb e) f0 f1 f3 f4 f5⟩
 self:=fun _ _ _ _ _ st h=>wpAny_pyIter_listiter st h
theorem zeV {P:Program}{w:World}{K:PySem.W.Frag}{tg:Expr} (a it:Addr):Turn P w K tg (Itt K a) [it] it (fun i h=>h.IsTupleIter it a i) where
 mem:=by simp
 obj:=fun i h st b hb=>by
  have e:b=it:=by simpa using hb
  subst e;obtain⟨o,e,c,d⟩:=st;exact⟨o,e,fun v z=>by rw[d] at z; cases z⟩
 keep:=fun i h h' st k=>st.at fun o e=>k it (by simp) o e
 item:=by
  intro X hP hw hK hc i pins s σ H E I hf st hg;subst hP hw hK;obtain⟨xs,x,hq,hx⟩:=hg;obtain⟨its,rv,p,hz⟩:=I.tuple hq;obtain⟨u,hu,ru⟩:=rv.get hx;obtain⟨f0,f1,f2,f3,f4,f5⟩:=hf it (by simp);refine wpAny_pyNext_tuple_item st (show s.heap.IsTuple a its.toArray from p) (x:=u) (by simpa using hu) fun h' st' sb=>?_;have I1:Inv X pins σ H { s with heap:=h' }:=I.turned (t':=s.toks) (fun b o hb e=>(sb.2 b hb).trans e) f0 f1 f3 f4 f5;obtain⟨o,e,c,d⟩:=id st';exact⟨u,rfl,zgY (s:={ s with heap:=h' }) e c d (by decide) ⟨x,H,I1,ru,⟨rfl,fun ys hy=>by rw[I.tuple_inj hy hq]; exact hx⟩,st',fun b hb=>(hf b hb).1⟩⟩
 done:=by
  intro X hP hw hK hc i pins s σ H E I hf st hg;subst hP hw hK;obtain⟨xs,hq,hx⟩:=hg;obtain⟨its,rv,p,hz⟩:=I.tuple hq;obtain⟨f0,f1,f2,f3,f4,f5⟩:=hf it (by simp);have hl:=rv.length;exact wpAny_pyNext_tuple_end (I.ok.hd hc) st (show s.heap.IsTuple a its.toArray from p) (by simp; omega) fun h' eb=>⟨rfl,I.turned (t':=s.toks) (fun b o hb e=>eb b o hb e) f0 f1 f3 f4 f5⟩
 self:=fun _ _ _ _ _ st h=>wpAny_pyIter_tupleiter st h
theorem zeX {P:Program}{w:World}{K:PySem.W.Frag}{tg:Expr} (it:Addr) (lo:Int) (n:Nat):Turn P w K tg (Itr lo n) [it] it (fun i h=>IsRangeIter h it (lo+(i:Nat)*1) ((n:Int) - (i:Nat)) 1) where
 mem:=by simp
 obj:=fun i h st b hb=>by
  have e:b=it:=by simpa using hb
  subst e;exact⟨_,st,fun v z=>by
   have z':Data.fields _=Data.cell v:=z;cases z'⟩
 keep:=fun i h h' st k=>k it (by simp) _ st
 item:=by
  intro X hP hw hK hc i pins s σ H E I hf st hg;subst hP hw hK;obtain⟨f0,f1,f2,f3,f4,f5⟩:=hf it (by simp);have W:=Walks.range (prog:=X.prog) (w:=X.w) (I.ok.hd hc) it lo 1 n;refine W.item i s _ _ hg st fun v h' tk hv st' kk=>?_;obtain⟨t,rfl⟩:=hv;have I1:Inv X pins σ H { s with heap:=h',toks:=tk }:=I.turned (fun b o hb e=>kk b o (by simpa using hb) e) f0 f1 f3 f4 f5;refine⟨_,rfl,zgY (s:={ s with heap:=h',toks:=tk }) (n:="range_iterator") st' rfl rfl (by decide) ⟨.int (lo+i),H,I1,⟨t,?_⟩,⟨rfl,rfl⟩,st',fun b hb=>(hf b hb).1⟩⟩;rw[Int.mul_one]
 done:=by
  intro X hP hw hK hc i pins s σ H E I hf st hg;subst hP hw hK;obtain⟨f0,f1,f2,f3,f4,f5⟩:=hf it (by simp);exact wpAny_pyNext_range_end (I.ok.hd hc) st (by have:n<=i:=hg; omega) fun h' eb=>⟨rfl,I.turned (t':=s.toks) (fun b o hb e=>eb b o hb e) f0 f1 f3 f4 f5⟩
 self:=fun _ _ _ _ _ st h=>wpAny_pyIter_rangeiter st h
end L2
namespace L2
open PySem PySem.Spec PyProof.Rows
section
variable {X:Cx}{tg:Expr}
def zkI (K:PySem.W.Frag) (tl:TE):TI:=fun σ H R=>tl σ H fun x H1=>∃a,x=.ref a/\(∃xs,SqL K H1 a xs)/\R (Itl K a) H1
def iTup (K:PySem.W.Frag) (tl:TE):TI:=fun σ H R=>tl σ H fun x H1=>∃a,x=.ref a/\(∃xs,SqT K H1 a xs)/\R (Itt K a) H1
theorem zH {l:Expr}{tl:TE} (hl:PE X l tl):PI X tg l (zkI X.K tl):=by
 intro pins s σ H R I h;refine thn (hl pins s σ H _ I h) fun v s1 ⟨x,H1,I1,r1,q1⟩=>?_;obtain⟨a,e,⟨xs,hq⟩,q⟩:=q1;subst e;cases r1;obtain⟨its,rv,p,hz⟩:=I1.list hq;refine wpAny_pyIter_list p.isList ?_;refine⟨s1.heap.objs.size,[s1.heap.objs.size],_,_,H1,rfl,I1.kept (t':=s1.toks) fun b o e=>Heap.get?_push_of_some _ e,zf3 a _,⟨_,Heap.get?_push_size _ rfl,rfl,rfl⟩,fun b hb=>?_,q⟩;have e:b=s1.heap.objs.size:=by simpa using hb
 subst e;exact I1.fpOk (Nat.le_refl _) (I1.hok.fresh (Nat.le_refl _))
theorem zdq {l:Expr}{tl:TE} (hl:PE X l tl):PI X tg l (iTup X.K tl):=by
 intro pins s σ H R I h;refine thn (hl pins s σ H _ I h) fun v s1 ⟨x,H1,I1,r1,q1⟩=>?_;obtain⟨a,e,⟨xs,hq⟩,q⟩:=q1;subst e;cases r1;obtain⟨its,rv,p,hz⟩:=I1.tuple hq;refine wpAny_pyIter_tuple (show s1.heap.IsTuple a its.toArray from p) ?_;refine⟨s1.heap.objs.size,[s1.heap.objs.size],_,_,H1,rfl,I1.kept (t':=s1.toks) fun b o e=>Heap.get?_push_of_some _ e,zeV a _,⟨_,Heap.get?_push_size _ rfl,rfl,rfl⟩,fun b hb=>?_,q⟩;have e:b=s1.heap.objs.size:=by simpa using hb
 subst e;exact I1.fpOk (Nat.le_refl _) (I1.hok.fresh (Nat.le_refl _))
theorem zgU {pins:List (Addr×Obj)}{σ:St}{H:Hp}{s:Shared}{R:It->Hp->Prop}{E:Value->Shared->Prop}{lo hi:Int}{t u v:Tok}{tk:Nat} (I:Inv X pins σ H s) (h1:-(2 ^ 62)<=lo) (h2:lo<2 ^ 62) (h3:-(2 ^ 62)<=hi) (h4:hi<2 ^ 62)
  (q:R (Itr lo (hi - lo).toNat) H):wpAny (model X.prog X.w) X.A (pyIter (.ref s.heap.objs.size)) (PIE X pins σ tg R) E { s with heap:=s.heap.push { cls:=.type "range",data:=.fields #[.int lo t,.int hi u,.int 1 v] },toks:=tk }:=by
 refine wpAny_pyIter_range (IsRange.new ..) (small_one h1 h2 h3 h4) ?_;have I1:Inv X pins σ H { s with heap:=s.heap.push { cls:=.type "range",data:=.fields #[.int lo t,.int hi u,.int 1 v] },toks:=tk }:=I.kept fun b o e=>Heap.get?_push_of_some _ e;refine⟨(s.heap.push { cls:=.type "range",data:=.fields #[.int lo t,.int hi u,.int 1 v] }).objs.size,[(s.heap.push { cls:=.type "range",data:=.fields #[.int lo t,.int hi u,.int 1 v] }).objs.size],_,_,H,rfl,
  I1.kept (t':=tk) fun b o e=>Heap.get?_push_of_some _ e,zeX _ lo (hi - lo).toNat,?_,fun b hb=>?_,q⟩
 ·have e1:lo+((0:Nat):Int)*1=lo:=by simp
  have e2:(((hi - lo).toNat:Nat):Int) - ((0:Nat):Int)=Builtin.Range.rangeSize lo hi 1:=by rw[rangeSize_one]; split <;> omega
  show IsRangeIter _ _ (lo+((0:Nat):Int)*1) ((((hi - lo).toNat:Nat):Int) - ((0:Nat):Int)) 1;rw[e1,e2];exact Heap.get?_push_size _ rfl
 ·have e:b=(s.heap.push { cls:=.type "range",data:=.fields #[.int lo t,.int hi u,.int 1 v] }).objs.size:=by simpa using hb
  subst e;exact I1.fpOk (Nat.le_refl _) (I1.hok.fresh (Nat.le_refl _))
def zko (ta:TA):TI:=fun σ H R=>ta σ H fun vs H1=>∃j:Int,vs=[.int j]/\-(2 ^ 62)<=j/\j<2 ^ 62/\R (Itr 0 j.toNat) H1
theorem zar {a:Expr}{ta:TA}{p pos:Pos} (hg:Gl X "range") (hm:X.mg "range"=none) (ha:PA X [a] ta) (hs:starEach [a] X.env=[(false,eval a X.env)]:=by rfl):PI X tg (.Call (.Name "range" p) [a] [] pos) (zko ta):=by
 intro pins s σ H R I h;refine Call_ (zb9 I hg hm boot_range (PyProof.Rows.callWith_type1 (thn (ha pos pins s σ H _ I h) fun us s1 ⟨vs,H1,I1,r1,q1⟩=>?_) hs rfl));obtain⟨j,e,q1,q2,q⟩:=q1;subst e;cases r1 with
 | cons r rr=>
  cases rr;obtain⟨t,rfl⟩:=r;exact call_range_1 (zgU I1 (by omega) (by omega) q1 q2 (by simpa using q))
def tFor (wi:TI) (g:TG) (tb:TS):TS:=fun D σ H=>wi σ H fun J H1=>∃W:Nat->Nat->St->Hp->Prop,(∃m,W 0 m σ H1)/\∀i m σ H,W i m σ H->
 (J.stop i H/\D.nx σ H) \/ (J.go i H/\∃N:St->Hp->Prop,(∀σ' H',N σ' H'->∃m',m'<m/\W (i+1) m' σ' H')/\∀x H',J.yld i H x H'->g x σ H' fun σ2 H2=>tb { D with nx:=N,ct:=N,bk:=D.nx } σ2 H2)
def zdf (fp:List Addr) (h:Heap):List (Addr×Obj):=fp.filterMap fun b=>(h.get? b).map fun o=>(b,o)
theorem zaI {fp:List Addr}{h:Heap}{b:Addr}{o:Obj} (hb:b∈fp) (e:h.get? b=some o):(b,o)∈zdf fp h:=List.mem_filterMap.mpr ⟨b,hb,by rw[e]; rfl⟩
theorem zgx {fp:List Addr}{h:Heap}{p:Addr×Obj} (hp:p∈zdf fp h):p.1∈fp/\h.get? p.1=some p.2:=by
 obtain⟨b,hb,e⟩:=List.mem_filterMap.mp hp;cases q:h.get? b with
 | none=>rw[q] at e; cases e
 | some o=>
  rw[q] at e;have e':(b,o)=p:=Option.some.inj e;subst e';exact⟨hb,q⟩
theorem Inv.pinned {pins:List (Addr×Obj)}{σ:St}{H:Hp}{s:Shared}{fp:List Addr} (I:Inv X pins σ H s) (hf:∀b∈fp,FpOk X pins H b) (ho:∀b∈fp,∃o,s.heap.get? b=some o/\∀v,o.data≠.cell v):Inv X (pins++zdf fp s.heap) σ H s:=
 I.pins_of fun p hp=>(List.mem_append.mp hp).elim (fun z=>I.pin p (List.mem_append_right _ z)) fun z=>by
  obtain⟨hb,e⟩:=zgx z;obtain⟨f0,f1,f2,_⟩:=hf p.1 hb;obtain⟨o,e',d⟩:=ho p.1 hb;rw[e] at e'; cases e';exact⟨e,f0,f1,f2,d⟩
theorem Inv.unpinned {pins pl:List (Addr×Obj)}{σ:St}{H:Hp}{s:Shared} (I:Inv X (pins++pl) σ H s):Inv X pins σ H s:=I.pins_of fun p hp=>I.pin p (List.mem_append_right _ (List.mem_append_left _ hp))
theorem zX {iter:Expr}{body:List Stmt}{wi:TI}{g:TG}{tb:TS}{pos:Pos} (hp:PassesOwn (model X.prog X.w) X.A X.env X.xe) (hc:X.calm=true) (hi:PI X tg iter wi) (hg:PG X tg g) (hb:PSs X body tb)
  (hs:∀x,foldedSetIterable iter X.env x=pure x:=by intro _; rfl):PS X (.For tg iter body [] pos) (tFor wi g tb):=by
 intro pins s σ H D I h;refine wpAny_For (thn (hi pins s σ H _ I h) fun v s1 h1=>thn h1 fun itv s2 h2=>?_) hs;obtain⟨it,fp,tn,J,H2,e,I2,T,st2,f2,W,⟨m0,w0⟩,turn⟩:=h2;subst e;have stat:∀{H':Hp},(∀b∈fp,H' b=none)->∀b∈fp,FpOk X pins H' b:=fun hn b hb=>⟨hn b hb,(f2 b hb).2⟩;refine codeAny_forLoop_any (fun n s'=>∃i σ' H',Inv X pins σ' H' s'/\tn i s'.heap/\(∀b∈fp,H' b=none)/\W i n σ' H') ?_ m0 ⟨0,σ,H2,I2,st2,fun b hb=>(f2 b hb).1,w0⟩;rintro n s3 ⟨i,σ3,H3,I3,st3,fr3,w3⟩;rcases turn i n σ3 H3 w3 with ⟨stop,qn⟩ | ⟨go,N,hN,step⟩
 ·refine wpAny_passesOwn hp (thn (T.done X rfl rfl rfl hc i pins s3 σ3 H3 X.xe I3 (stat fr3) st3 stop) fun r s4 ⟨hr,I4⟩=>?_)
  subst hr;exact wpAny_execs_nil ⟨σ3,H3,I4,qn⟩
 ·refine wpAny_passesOwn hp (thn (T.item X rfl rfl rfl hc i pins s3 σ3 H3 X.xe I3 (stat fr3) st3 go) fun r s4 ⟨u,hr,h4⟩=>?_)
  subst hr;refine wpAny_passesOwn hp (thn h4 fun _ s5 ⟨x,H5,I5,r5,y5,st5,fr5⟩=>?_);have I5':=I5.pinned (stat fr5) (T.obj _ _ st5);refine wpAny_passesOwn hp (thn (hg _ s5 σ3 H5 x u _ I5' r5 (step x H5 y5)) fun _ s6 ⟨σ6,H6,I6,q6⟩=>?_);refine wpAny_passesOwn hp (thn (hb _ s6 σ6 H6 _ I6 q6) fun f s7 q7=>?_);have again:∀{σ7:St} {H7:Hp},Inv X (pins++zdf fp s5.heap) σ7 H7 s7->N σ7 H7->∃m,m<n/\∃i σ' H',Inv X pins σ' H' s7/\tn i s7.heap/\(∀b∈fp,H' b=none)/\W i m σ' H':=fun {σ7 H7} I7 n7=>by
   obtain⟨m',hm,w7⟩:=hN σ7 H7 n7;refine⟨m',hm,i+1,σ7,H7,I7.unpinned,T.keep _ _ _ st5 fun b hb o e=>(I7.pin (b,o) (List.mem_append_right _ (List.mem_append_right _ (zaI hb e)))).1,fun b hb=>?_,w7⟩;obtain⟨o,e,d⟩:=T.obj _ _ st5 b hb;exact (I7.pin (b,o) (List.mem_append_right _ (List.mem_append_right _ (zaI hb e)))).2.1
  cases f with
  | next=>obtain⟨σ7,H7,I7,n7⟩:=q7; exact again I7 n7
  | cont=>obtain⟨σ7,H7,I7,n7⟩:=q7; exact again I7 n7
  | brk=>obtain⟨σ7,H7,I7,q7⟩:=q7; exact⟨σ7,H7,I7.unpinned,q7⟩
  | ret v=>obtain⟨x7,σ7,H7,I7,r7,q7⟩:=q7; exact⟨x7,σ7,H7,I7.unpinned,r7,q7⟩
end
theorem zah {K:PySem.W.Frag}{a:Addr}{xs:List V}{g:TG}{tb:TS}{D:Ends}{σ:St}{H:Hp} (Pv:Nat->St->Hp->Prop) (h0:Pv 0 σ H) (hl:∀i σ H,i<=xs.length->Pv i σ H->SqL K H a xs)
  (hs:∀i x σ H,xs[i]?=some x->Pv i σ H->g x σ H fun σ2 H2=>tb { D with nx:=Pv (i+1),ct:=Pv (i+1),bk:=D.nx } σ2 H2) (hd:∀σ H,Pv xs.length σ H->D.nx σ H) :
  ∃W:Nat->Nat->St->Hp->Prop,(∃m,W 0 m σ H)/\∀i m σ H,W i m σ H->
   ((Itl K a).stop i H/\D.nx σ H) \/ ((Itl K a).go i H/\∃N:St->Hp->Prop,(∀σ' H',N σ' H'->∃m',m'<m/\W (i+1) m' σ' H')/\∀x H',(Itl K a).yld i H x H'->g x σ H' fun σ2 H2=>tb { D with nx:=N,ct:=N,bk:=D.nx } σ2 H2):=by
 refine⟨fun i m σ H=>m=xs.length - i/\i<=xs.length/\Pv i σ H,⟨xs.length,by simp,Nat.zero_le _,h0⟩,?_⟩;rintro i m σ H ⟨rfl,hi,p⟩;have q:=hl i σ H hi p
 by_cases hlt:i<xs.length
 ·refine .inr ⟨⟨xs,xs[i],q,by simp[hlt]⟩,Pv (i+1),fun σ' H' p'=>⟨xs.length - (i+1),by omega,rfl,hlt,p'⟩,fun x H' y=>?_⟩
  obtain⟨e,y⟩:=y;subst e;exact hs i x σ _ (y xs q) p
 ·have e:i=xs.length:=by omega
  subst e;exact .inl ⟨⟨xs,q,Nat.le_refl _⟩,hd σ H p⟩
theorem zd1 {K:PySem.W.Frag}{a:Addr}{xs:List V}{g:TG}{tb:TS}{D:Ends}{σ:St}{H:Hp} (Pv:Nat->St->Hp->Prop) (h0:Pv 0 σ H) (hl:∀i σ H,i<=xs.length->Pv i σ H->SqT K H a xs)
  (hs:∀i x σ H,xs[i]?=some x->Pv i σ H->g x σ H fun σ2 H2=>tb { D with nx:=Pv (i+1),ct:=Pv (i+1),bk:=D.nx } σ2 H2) (hd:∀σ H,Pv xs.length σ H->D.nx σ H) :
  ∃W:Nat->Nat->St->Hp->Prop,(∃m,W 0 m σ H)/\∀i m σ H,W i m σ H->
   ((Itt K a).stop i H/\D.nx σ H) \/ ((Itt K a).go i H/\∃N:St->Hp->Prop,(∀σ' H',N σ' H'->∃m',m'<m/\W (i+1) m' σ' H')/\∀x H',(Itt K a).yld i H x H'->g x σ H' fun σ2 H2=>tb { D with nx:=N,ct:=N,bk:=D.nx } σ2 H2):=by
 refine⟨fun i m σ H=>m=xs.length - i/\i<=xs.length/\Pv i σ H,⟨xs.length,by simp,Nat.zero_le _,h0⟩,?_⟩;rintro i m σ H ⟨rfl,hi,p⟩;have q:=hl i σ H hi p
 by_cases hlt:i<xs.length
 ·refine .inr ⟨⟨xs,xs[i],q,by simp[hlt]⟩,Pv (i+1),fun σ' H' p'=>⟨xs.length - (i+1),by omega,rfl,hlt,p'⟩,fun x H' y=>?_⟩
  obtain⟨e,y⟩:=y;subst e;exact hs i x σ _ (y xs q) p
 ·have e:i=xs.length:=by omega
  subst e;exact .inl ⟨⟨xs,q,Nat.le_refl _⟩,hd σ H p⟩
theorem zbb {lo:Int}{n:Nat}{g:TG}{tb:TS}{D:Ends}{σ:St}{H:Hp} (Pv:Nat->St->Hp->Prop) (h0:Pv 0 σ H)
  (hs:∀i σ H,i<n->Pv i σ H->g (.int (lo+i)) σ H fun σ2 H2=>tb { D with nx:=Pv (i+1),ct:=Pv (i+1),bk:=D.nx } σ2 H2) (hd:∀σ H,Pv n σ H->D.nx σ H) :
  ∃W:Nat->Nat->St->Hp->Prop,(∃m,W 0 m σ H)/\∀i m σ H,W i m σ H->
   ((Itr lo n).stop i H/\D.nx σ H) \/ ((Itr lo n).go i H/\∃N:St->Hp->Prop,(∀σ' H',N σ' H'->∃m',m'<m/\W (i+1) m' σ' H')/\∀x H',(Itr lo n).yld i H x H'->g x σ H' fun σ2 H2=>tb { D with nx:=N,ct:=N,bk:=D.nx } σ2 H2):=by
 refine⟨fun i m σ H=>m=n - i/\i<=n/\Pv i σ H,⟨n,by simp,Nat.zero_le _,h0⟩,?_⟩;rintro i m σ H ⟨rfl,hi,p⟩
 by_cases hlt:i<n
 ·refine .inr ⟨hlt,Pv (i+1),fun σ' H' p'=>⟨n - (i+1),by omega,rfl,hlt,p'⟩,fun x H' y=>?_⟩
  obtain⟨e,y⟩:=y;subst e y;exact hs i σ _ hlt p
 ·have e:i=n:=by omega
  subst e;exact .inl ⟨Nat.le_refl _,hd σ H p⟩
end L2
namespace L2
open PySem PySem.Spec PyProof.Rows
abbrev R2:=V->V->Hp->VK->Prop
def OpR (X:Cx) (f:Value->Value->Sem Value) (r:R2):Prop:=
 ∀(pins:List (Addr×Obj)) (s:Shared) (σ:St) (H:Hp) (x y:V) (v u:Value) (Q:VK),Inv X pins σ H s->RelV x v->RelV y u->r x y H Q->
  wpAny (model X.prog X.w) X.A (f v u) (EP X pins σ Q) X.xe s
def UnR (X:Cx) (f:Value->Sem Value) (r:V->Hp->VK->Prop):Prop:=
 ∀(pins:List (Addr×Obj)) (s:Shared) (σ:St) (H:Hp) (x:V) (v:Value) (Q:VK),Inv X pins σ H s->RelV x v->r x H Q->
  wpAny (model X.prog X.w) X.A (f v) (EP X pins σ Q) X.xe s
def zaz (X:Cx) (f:Value) (r:List V->Hp->VK->Prop):Prop:=
 ∀(pins:List (Addr×Obj)) (s:Shared) (σ:St) (H:Hp) (xs:List V) (us:List Value) (Q:VK),Inv X pins σ H s->Vals xs us->r xs H Q->
  wpAny (model X.prog X.w) X.A (call f us) (EP X pins σ Q) X.xe s
def tOp (r:R2) (ta tb:TE):TE:=fun σ H Q=>ta σ H fun x H1=>tb σ H1 fun y H2=>r x y H2 Q
def tUn (r:V->Hp->VK->Prop) (ta:TE):TE:=fun σ H Q=>ta σ H fun x H1=>r x H1 Q
def rI (C:Int->Int->Prop) (g:Int->Int->V):R2:=fun x y H Q=>∃i j,x=.int i/\y=.int j/\C i j/\Q (g i j) H
def rI0 (g:Int->Int->V):R2:=fun x y H Q=>∃i j,x=.int i/\y=.int j/\Q (g i j) H
def rU (g:Int->V):V->Hp->VK->Prop:=fun x H Q=>∃i,x=.int i/\Q (g i) H
section
variable {X:Cx}{a b c:Expr}{ta tb tc:TE}{pos:Pos}
theorem binT (ha:PE X a ta) (hb:PE X b tb) {pins:List (Addr×Obj)}{s:Shared}{σ:St}{H:Hp}{R:V->V->Hp->Prop} (I:Inv X pins σ H s)
  (h:ta σ H fun x H1=>tb σ H1 fun y H2=>R x y H2) {Q:Value->Shared->Prop} {f:Value->Value->Sem Value}
  (hf:∀v u s2 x y H2,Inv X pins σ H2 s2->RelV x v->RelV y u->R x y H2->wpAny (model X.prog X.w) X.A (f v u) Q X.xe s2) :
  wpAny (model X.prog X.w) X.A (eval a X.env) (fun v s₁=>wpAny (model X.prog X.w) X.A (eval b X.env) (fun u s₂=>wpAny (model X.prog X.w) X.A (f v u) Q X.xe s₂) X.xe s₁) X.xe s:=by
 refine thn (ha pins s σ H _ I h) fun v s1 ⟨x,H1,I1,r1,q1⟩=>?_;refine thn (hb pins s1 σ H1 _ I1 q1) fun u s2 ⟨y,H2,I2,r2,q2⟩=>?_;exact hf v u s2 x y H2 I2 r1 r2 q2
theorem zC {op:Operator}{r:R2} (ho:OpR X (binaryOp op) r) (ha:PE X a ta) (hb:PE X b tb):PE X (.BinOp a op b pos) (tOp r ta tb):=by
 intro pins s σ H Q I h;exact wpAny_BinOp (binT ha hb I h fun v u s2 x y H2 I2 rx ry q=>ho pins s2 σ H2 x y v u Q I2 rx ry q)
theorem ziU {op:UnaryOp}{r:V->Hp->VK->Prop} (ho:UnR X (unaryOp op) r) (ha:PE X a ta):PE X (.UnaryOp op a pos) (tUn r ta):=by
 intro pins s σ H Q I h;exact UnaryOp_ (thn (ha pins s σ H _ I h) fun v s1 ⟨x,H1,I1,r1,q1⟩=>ho pins s1 σ H1 x v Q I1 r1 q1)
theorem opI {f:Value->Value->Sem Value}{C:Int->Int->Prop}{g:Int->Int->Int}
  (rule:∀(i j:Int) (t u:Tok) (s:Shared) (Q:Value->Shared->Prop) (E:Value->Shared->Prop),C i j->Q (.int (g i j) s.toks) { s with toks:=s.toks+1 }->wpAny (model X.prog X.w) X.A (f (.int i t) (.int j u)) Q E s) :
  OpR X f (rI C fun i j=>.int (g i j)):=by
 intro pins s σ H x y v u Q I rx ry h;obtain⟨i,j,rfl,rfl,hc,q⟩:=h;obtain⟨t,rfl⟩:=rx;obtain⟨t',rfl⟩:=ry;exact rule i j t t' s _ _ hc ⟨.int (g i j),H,I.tok _,⟨_,rfl⟩,q⟩
theorem opI0 {f:Value->Value->Sem Value}{g:Int->Int->Int}
  (rule:∀(i j:Int) (t u:Tok) (s:Shared) (Q:Value->Shared->Prop) (E:Value->Shared->Prop),Q (.int (g i j) s.toks) { s with toks:=s.toks+1 }->wpAny (model X.prog X.w) X.A (f (.int i t) (.int j u)) Q E s) :
  OpR X f (rI0 fun i j=>.int (g i j)):=by
 intro pins s σ H x y v u Q I rx ry h;obtain⟨i,j,rfl,rfl,q⟩:=h;obtain⟨t,rfl⟩:=rx;obtain⟨t',rfl⟩:=ry;exact rule i j t t' s _ _ ⟨.int (g i j),H,I.tok _,⟨_,rfl⟩,q⟩
theorem opB0 {f:Value->Value->Sem Value}{g:Int->Int->Bool}
  (rule:∀(i j:Int) (t u:Tok) (s:Shared) (Q:Value->Shared->Prop) (E:Value->Shared->Prop),Q (.bool (g i j)) s->wpAny (model X.prog X.w) X.A (f (.int i t) (.int j u)) Q E s) :
  OpR X f (rI0 fun i j=>.bl (g i j)):=by
 intro pins s σ H x y v u Q I rx ry h;obtain⟨i,j,rfl,rfl,q⟩:=h;obtain⟨t,rfl⟩:=rx;obtain⟨t',rfl⟩:=ry;exact rule i j t t' s _ _ ⟨.bl (g i j),H,I,rfl,q⟩
def CDiv (i j:Int):Prop:=0<j/\j<1073741824
def CPow (i j:Int):Prop:=0<=j/\j<=1000000/\i.natAbs<2 ^ 64
def CMul (i j:Int):Prop:=(-(2 ^ 64)<i/\i<2 ^ 64) \/ (-(2 ^ 64)<j/\j<2 ^ 64)
theorem CMul.ok {i j:Int} (h:CMul i j):IntMulOk i j:=by
 rcases h with ⟨h1,h2⟩ | ⟨h1,h2⟩
 ·exact .of_left (intBits_le_64 h1 h2)
 ·exact .of_right (intBits_le_64 h1 h2)
theorem zaq:OpR X (binaryOp .Add) (rI0 fun i j=>.int (i+j)):=opI0 fun _ _ _ _ _ _ _ q=>add_int q
theorem zjG:OpR X (binaryOp .Sub) (rI0 fun i j=>.int (i - j)):=opI0 fun _ _ _ _ _ _ _ q=>sub_int q
theorem zcj:OpR X (binaryOp .Mult) (rI CMul fun i j=>.int (i*j)):=opI fun _ _ _ _ _ _ _ hc q=>mul_int q hc.ok
theorem zgI:OpR X (binaryOp .FloorDiv) (rI CDiv fun i j=>.int (i / j)):=opI fun i j _ _ _ _ _ hc q=>by
 have h1:(0:Int)<j:=hc.1;have h2:j<1073741824:=hc.2;exact floordiv_int (by omega) (by rw[Int.fdiv_eq_ediv_of_nonneg i (by omega)]; exact q) (.inl (PyProof.noPylong_small (by omega)))
theorem zbw:OpR X (binaryOp .Mod) (rI (fun _ j=>0<j) fun i j=>.int (i % j)):=opI fun i j _ _ _ _ _ hc q=>by
 have h1:(0:Int)<j:=hc;exact mod_int' (by omega) (by rw[Int.fmod_eq_emod_of_nonneg i (by omega)]; exact q)
theorem zfn:OpR X (binaryOp .Pow) (rI CPow fun i j=>.int (i ^ j.toNat)):=opI fun _ _ _ _ _ _ _ hc q=>pow_int_small hc.1 hc.2.1 hc.2.2 q
theorem unI {f:Value->Sem Value}{g:Int->Int}
  (rule:∀(i:Int) (t:Tok) (s:Shared) (Q:Value->Shared->Prop) (E:Value->Shared->Prop),Q (.int (g i) s.toks) { s with toks:=s.toks+1 }->wpAny (model X.prog X.w) X.A (f (.int i t)) Q E s) :
  UnR X f (rU fun i=>.int (g i)):=by
 intro pins s σ H x v Q I rx h;obtain⟨i,rfl,q⟩:=h;obtain⟨t,rfl⟩:=rx;exact rule i t s _ _ ⟨.int (g i),H,I.tok _,⟨_,rfl⟩,q⟩
theorem zf4:UnR X (unaryOp .USub) (rU fun i=>.int (-i)):=unI fun _ _ _ _ _ q=>neg_int q
end
def scal:V->V->Bool
 | .non,.non=>true | .non,.int _=>true | .int _,.non=>true | .non,.bl _=>true | .bl _,.non=>true | .non,.str _=>true | .str _,.non=>true
 | .int _,.int _=>true | .bl _,.bl _=>true | .str _,.str _=>true | .byt _,.byt _=>true
 | .int _,.str _=>true | .str _,.int _=>true | .bl _,.str _=>true | .str _,.bl _=>true
 | _,_=>false
def rEq:R2:=fun x y H Q=>scal x y=true/\Q (.bl (decide (x=y))) H
def rNe:R2:=fun x y H Q=>scal x y=true/\Q (.bl (!decide (x=y))) H
theorem zf7 {i j:Int}:decide (V.int i=V.int j)=(i == j):=by
 rw[Bool.eq_iff_iff];simp
theorem dec_bl {i j:Bool}:decide (V.bl i=V.bl j)=(i == j):=by
 rw[Bool.eq_iff_iff];simp
theorem zga {i j:Str}:decide (V.str i=V.str j)=(i == j):=by
 rw[Bool.eq_iff_iff];simp
theorem zfU {i j:Array UInt8}:decide (V.byt i=V.byt j)=(i.toList == j.toList):=by
 rw[Bool.eq_iff_iff];cases i;cases j;simp
section
variable {X:Cx}{a b c:Expr}{ta tb tc:TE}{pos:Pos}
theorem fin_bl {pins:List (Addr×Obj)}{σ:St}{H:Hp}{s:Shared}{Q:VK}{k k':Bool} (I:Inv X pins σ H s) (q:Q (.bl k) H) (e:k=k'):EP X pins σ Q (.bool k') s:=by
 subst e;exact⟨.bl k,H,I,rfl,q⟩
theorem zfh:OpR X (compareOp .Eq) rEq:=by
 intro pins s σ H x y v u Q I rx ry h;obtain⟨hs,q⟩:=h;cases x with
 | non=>
  cases rx;cases y with
  | non=>cases ry; exact PySem.EqNone.eq_none_none (fin_bl I q (by simp))
  | bl j=>cases ry; exact PySem.EqNone.eq_none_bool (fin_bl I q (by simp))
  | int j=>obtain⟨t',rfl⟩:=ry; exact PySem.EqNone.eq_none_int (fin_bl I q (by simp))
  | str j=>obtain⟨t',rfl⟩:=ry; exact PySem.EqNone.eq_none_str (fin_bl I q (by simp))
  | _=>exact absurd (show false=true from hs) Bool.false_ne_true
 | bl i=>
  cases rx;cases y with
  | non=>cases ry; exact PySem.EqNone.eq_bool_none (fin_bl I q (by simp))
  | bl j=>cases ry; exact eq_bool (fin_bl I q dec_bl)
  | str j=>obtain⟨t',rfl⟩:=ry; exact PySem.EqMixed.eq_bool_str (fin_bl I q (by simp))
  | _=>exact absurd (show false=true from hs) Bool.false_ne_true
 | int i=>
  obtain⟨t,rfl⟩:=rx;cases y with
  | non=>cases ry; exact PySem.EqNone.eq_int_none (fin_bl I q (by simp))
  | int j=>obtain⟨t',rfl⟩:=ry; exact eq_int (fin_bl I q zf7)
  | str j=>obtain⟨t',rfl⟩:=ry; exact PySem.EqMixed.eq_int_str (fin_bl I q (by simp))
  | _=>exact absurd (show false=true from hs) Bool.false_ne_true
 | str i=>
  obtain⟨t,rfl⟩:=rx;cases y with
  | non=>cases ry; exact PySem.EqNone.eq_str_none (fin_bl I q (by simp))
  | bl j=>cases ry; exact PySem.EqMixed.eq_str_bool (fin_bl I q (by simp))
  | int j=>obtain⟨t',rfl⟩:=ry; exact PySem.EqMixed.eq_str_int (fin_bl I q (by simp))
  | str j=>obtain⟨t',rfl⟩:=ry; exact eq_str (fin_bl I q zga)
  | _=>exact absurd (show false=true from hs) Bool.false_ne_true
 | byt i=>
  obtain⟨t,rfl⟩:=rx;cases y with
  | byt j=>obtain⟨t',rfl⟩:=ry; exact PySem.W.eq_bytes (fin_bl I q zfU)
  | _=>exact absurd (show false=true from hs) Bool.false_ne_true
 | _=>cases y <;> exact absurd (show false=true from hs) Bool.false_ne_true
theorem zfP:OpR X (compareOp .NotEq) rNe:=by
 intro pins s σ H x y v u Q I rx ry h;obtain⟨hs,q⟩:=h;cases x with
 | non=>
  cases rx;cases y with
  | non=>cases ry; exact PySem.EqNone.ne_none_none (fin_bl I q (by simp))
  | bl j=>cases ry; exact PySem.EqNone.ne_none_bool (fin_bl I q (by simp))
  | int j=>obtain⟨t',rfl⟩:=ry; exact PySem.EqNone.ne_none_int (fin_bl I q (by simp))
  | str j=>obtain⟨t',rfl⟩:=ry; exact PySem.EqNone.ne_none_str (fin_bl I q (by simp))
  | _=>exact absurd (show false=true from hs) Bool.false_ne_true
 | bl i=>
  cases rx;cases y with
  | non=>cases ry; exact PySem.EqNone.ne_bool_none (fin_bl I q (by simp))
  | bl j=>cases ry; exact ne_bool (fin_bl I q (congrArg not dec_bl))
  | str j=>obtain⟨t',rfl⟩:=ry; exact PySem.EqMixed.ne_bool_str (fin_bl I q (by simp))
  | _=>exact absurd (show false=true from hs) Bool.false_ne_true
 | int i=>
  obtain⟨t,rfl⟩:=rx;cases y with
  | non=>cases ry; exact PySem.EqNone.ne_int_none (fin_bl I q (by simp))
  | int j=>obtain⟨t',rfl⟩:=ry; exact ne_int (fin_bl I q (congrArg not zf7))
  | str j=>obtain⟨t',rfl⟩:=ry; exact PySem.EqMixed.ne_int_str (fin_bl I q (by simp))
  | _=>exact absurd (show false=true from hs) Bool.false_ne_true
 | str i=>
  obtain⟨t,rfl⟩:=rx;cases y with
  | non=>cases ry; exact PySem.EqNone.ne_str_none (fin_bl I q (by simp))
  | bl j=>cases ry; exact PySem.EqMixed.ne_str_bool (fin_bl I q (by simp))
  | int j=>obtain⟨t',rfl⟩:=ry; exact PySem.EqMixed.ne_str_int (fin_bl I q (by simp))
  | str j=>obtain⟨t',rfl⟩:=ry; exact ne_str (fin_bl I q (congrArg not zga))
  | _=>exact absurd (show false=true from hs) Bool.false_ne_true
 | byt i=>
  obtain⟨t,rfl⟩:=rx;cases y with
  | byt j=>obtain⟨t',rfl⟩:=ry; exact PySem.W.ne_bytes (fin_bl I q (congrArg not zfU))
  | _=>exact absurd (show false=true from hs) Bool.false_ne_true
 | _=>cases y <;> exact absurd (show false=true from hs) Bool.false_ne_true
theorem zhh:OpR X (compareOp .Lt) (rI0 fun i j=>.bl (decide (i<j))):=opB0 fun _ _ _ _ _ _ _ q=>lt_int q
theorem zi5:OpR X (compareOp .LtE) (rI0 fun i j=>.bl (decide (i<=j))):=opB0 fun _ _ _ _ _ _ _ q=>le_int q
theorem ze9:OpR X (compareOp .Gt) (rI0 fun i j=>.bl (decide (j<i))):=opB0 fun _ _ _ _ _ _ _ q=>gt_int q
theorem zkz:OpR X (compareOp .GtE) (rI0 fun i j=>.bl (decide (j<=i))):=opB0 fun _ _ _ _ _ _ _ q=>ge_int q
theorem zgd:OpR X (compareOp .IsNot) (fun x y H Q=>y=.non/\Q (.bl (!decide (x=.non))) H):=by
 intro pins s σ H x y v u Q I rx ry h;obtain⟨rfl,q⟩:=h;cases ry;refine isnot_none_gen (fin_bl I q ?_);cases x <;> first
  | (cases rx; rfl)
  | (obtain⟨t,rfl⟩:=rx; rfl)
theorem nomark (b:Expr) {op:CmpOp} (h:op≠.In:=by decide) (h2:op≠.NotIn:=by decide):behindInMarks op b=false:=by
 have e1:(op == CmpOp.In)=false:=by cases op <;> first | rfl | exact absurd rfl h
 have e2:(op == CmpOp.NotIn)=false:=by cases op <;> first | rfl | exact absurd rfl h2
 cases b <;> simp[behindInMarks,e1,e2]
theorem zbg {op:CmpOp}{r:R2} (ho:OpR X (compareOp op) r) (ha:PE X a ta) (hb:PE X b tb) (hm:behindInMarks op b=false):PE X (.Compare a [op] [b] pos) (tOp r ta tb):=by
 intro pins s σ H Q I h;exact wpAny_Compare1 (binT ha hb I h fun v u s2 x y H2 I2 rx ry q=>ho pins s2 σ H2 x y v u Q I2 rx ry q) hm
def zb5 (t:TE):TT:=fun σ H Q=>t σ H fun x H'=>∃k,x=.bl k/\Q k H'
theorem zn {op:CmpOp}{r:R2} (ho:OpR X (compareOp op) r) (ha:PE X a ta) (hb:PE X b tb) (hm:behindInMarks op b=false):PT X (.Compare a [op] [b] pos) (zb5 (tOp r ta tb)):=by
 intro pins s σ H Q I h;refine wpAny_isTrue_Compare1 (thn (ha pins s σ H _ I h) fun v s1 ⟨x,H1,I1,r1,q1⟩=>thn (hb pins s1 σ H1 _ I1 q1) fun u s2 ⟨y,H2,I2,r2,q2⟩=>
  thn (ho pins s2 σ H2 x y v u _ I2 r1 r2 q2) fun c s3 ⟨z,H3,I3,r3,k,e,q3⟩=>?_) hm
 subst e;cases r3;exact wpAny_truthy_bool ⟨H3,I3,q3⟩
def zjx (r r':R2) (ta tb tc:TE):TE:=fun σ H Q=>ta σ H fun x H1=>tb σ H1 fun y H2=>r x y H2 fun z H3=>∃k,z=.bl k/\
 (if k=true then tc σ H3 fun w' H4=>r' y w' H4 Q else Q (.bl false) H3)
theorem zhE {op op':CmpOp}{r r':R2} (ho:OpR X (compareOp op) r) (ho':OpR X (compareOp op') r') (ha:PE X a ta) (hb:PE X b tb) (hc:PE X c tc)
  (hm:lastMarks [op,op'] [b,c]=false:=by with_unfolding_all rfl):PT X (.Compare a [op,op'] [b,c] pos) (zb5 (zjx r r' ta tb tc)):=by
 intro pins s σ H Q I h;refine isTrue_chain (thn (ha pins s σ H _ I h) fun v s1 ⟨x,H1,I1,r1,q1⟩=>test_link (thn (hb pins s1 σ H1 _ I1 q1) fun u s2 ⟨y,H2,I2,r2,q2⟩=>
  thn (ho pins s2 σ H2 x y v u _ I2 r1 r2 q2) fun d s3 ⟨z,H3,I3,r3,k,e,q3⟩=>?_)) hm
 subst e;cases r3;refine wpAny_truthy_bool ?_;cases k with
 | false=>
  obtain⟨k',e',q'⟩:=q3;cases e';exact ite_ff ⟨H3,I3,q'⟩
 | true=>
  refine ite_tt (test_last (thn (hc pins s3 σ H3 _ I3 q3) fun w' s4 ⟨z',H4,I4,r4,q4⟩=>thn (ho' pins s4 σ H4 y z' u w' _ I4 r2 r4 q4) fun d' s5 ⟨z2,H5,I5,r5,k2,e2,q5⟩=>?_));subst e2;cases r5;exact wpAny_truthy_bool ⟨H5,I5,q5⟩
theorem line63:(sizeLine:Nat)<2 ^ 63:=by rw[sizeLine_eq]; decide
theorem vals1 {x:V}{us:List Value} (r:Vals [x] us):∃u,us=[u]/\RelV x u:=by
 cases r with
 | cons r1 r2=>cases r2; exact⟨_,rfl,r1⟩
theorem vals2 {x y:V}{us:List Value} (r:Vals [x,y] us):∃u w',us=[u,w']/\RelV x u/\RelV y w':=by
 cases r with
 | cons r1 r2=>
  cases r2 with
  | cons r3 r4=>cases r4; exact⟨_,_,rfl,r1,r3⟩
end
end L2
namespace L2
open PySem PySem.Spec PyProof.Rows
structure ObjM (h:Heap) (x dx C:Addr) (mA:Str->Option Value):Prop where
 obj:h.get? x=some (PySem.W.instObj C dx)
 ns:h.Ns1 dx mA
 ne:dx≠x
theorem zfS {h:Heap}{dx:Addr}{mA:Str->Option Value} (n:h.Ns1 dx mA):∃od,h.get? dx=some od/\∀name,PySem.W.lookIn name od=some (mA name):=by
 obtain⟨o,es,ep,ho,hd,hk,_,hm⟩:=n;refine⟨o,ho,fun name=>?_⟩;have e:=hm name;unfold nsFind findBy at e;rw[<- Array.find?_toList] at e;unfold PySem.W.lookIn;rw[hd];dsimp only;split
 ·rename_i y q
  rw[q] at e;exact congrArg some e
 ·rename_i q
  rw[q] at e;have a:es.toList.any (·.refKey)=false:=by
   rw[List.any_eq_false];intro y hy;obtain⟨z,t,hkey⟩:=hk y (Array.mem_toList_iff.mp hy);simp[DictEntry.refKey,hkey]
  have a':¬ es.toList.any (·.refKey)=true:=by rw[a]; exact Bool.false_ne_true
  rw[if_neg a'];exact congrArg some e
theorem ObjM.look {h:Heap}{x dx C:Addr}{mA:Str->Option Value} (I:ObjM h x dx C mA):∃od,PySem.W.InstAt h x (PySem.W.instObj C dx) C (some od)/\∀name,PySem.W.lookIn name od=some (mA name):=
 let ⟨od,ho,hl⟩:=zfS I.ns
 ⟨od,⟨I.obj,rfl,rfl,ho⟩,hl⟩
section
variable {prog:Program}{w:World}{A:Around}{E:Value->Shared->Prop}{s:Shared}{K:PySem.W.Frag}{x dx C f:Addr}{mA:Str->Option Value}{name:Str}{v:Value}
end
theorem RelO.some_of {v:V}{o:Option Value} (r:RelO (some v) o):∃u,o=some u/\RelV v u:=by
 cases o with
 | none=>exact (show False from r).elim
 | some u=>exact⟨u,rfl,r⟩
section
variable {P:Program}{w:World}{H H':Hp}{h h':Heap}{a C dx:Addr}{fs fs':List (Str×V)}
theorem zW (hok:HOk P w H h) (e:H a=some (.ins C dx fs)):∃mA,ObjM h a dx C mA/\(∀f,RelO (fs.lookup f) (mA f))/\PySem.Within mA (fs.map (·.1))/\fs.length<=1000/\H dx=some (.own a):=by
 obtain⟨d,z,ne,ob,mA,n,r,q⟩:=(show zI P w H h a (.ins C dx fs) from hok a _ e);exact⟨mA,⟨ob,n,ne⟩,r,q,z,d⟩
end
structure Cls (K:PySem.W.Frag) (C:Addr):Prop where
 pg:PySem.W.plainGet K C Str.empty=true
 hd:PySem.W.hasDictIn K C=true
 po:PySem.W.plainOver K C=true
 sa:PySem.W.findIn K (.ref C) "__setattr__"=some (some (.builtin "object.__setattr__"))
theorem Cls.get {K:PySem.W.Frag}{C:Addr} (c:Cls K C) (f:Str):PySem.W.plainGet K C f=true:=c.pg
section
variable {X:Cx}{pins:List (Addr×Obj)}{σ:St}{H:Hp}{s:Shared}{a C dx:Addr}{fs:List (Str×V)}{f:Str}{v:V}{A:Around}{E:Value->Shared->Prop}
end
section
variable {X:Cx}{o e value:Expr}{f:Str}{pos pos' tpos:Pos}{ta tv:TE}
end
section
variable {X:Cx}{pins:List (Addr×Obj)}{σ:St}{H:Hp}{s:Shared}{A:Around}{E:Value->Shared->Prop}{Q:Value->Shared->Prop}{c:Value}{b:Bool}
inductive TyOf (K:PySem.W.Frag) (H:Hp):V->Value->Prop where
 | non:TyOf K H .non (.type "NoneType")
 | bl (x:Bool):TyOf K H (.bl x) (.type "bool")
 | int (i:Int):TyOf K H (.int i) (.type "int")
 | str (x:Str):TyOf K H (.str x) (.type "str")
 | flt (x:UInt64):TyOf K H (.flt x) (.type "float")
 | lst {a:Addr} {xs:List V} (e:H a=some (.lst xs)):TyOf K H (.ref a) (.type "list")
 | frz {a:Addr} {o:Obj} {xs:List V} (e:H a=some (.frz o (.lst xs))):TyOf K H (.ref a) (.type "list")
 | tup {a:Addr} {xs:List V} (e:H a=some (.tup xs)):TyOf K H (.ref a) (.type "tuple")
 | dK {a:Addr} {kvs:List (Key×V)} (e:H a=some (.dK kvs)):TyOf K H (.ref a) (.type "dict")
 | dT {a:Addr} {kvs:List (List Key×V)} (e:H a=some (.dT kvs)):TyOf K H (.ref a) (.type "dict")
 | ins {a C dx:Addr} {fs:List (Str×V)} (e:H a=some (.ins C dx fs)) (cl:Cls K C) (ha:PySem.W.findIn K (.ref C) "__class__"=some (some (.builtin "object.__class__")))
   (hn:PySem.W.specialIn K (.builtin "object.__class__") "__get__"=some (some (.builtin "getset_descriptor.__get__"))) (htk:PySem.W.takesIn K (.builtin "object.__class__")=some true)
   (hm:PySem.W.mroIn K C (.type "object")=some true):TyOf K H (.ref a) (.ref C)
theorem zb8 {x:V}{u t:Value} (I:Inv X pins σ H s) (rx:RelV x u) (ty:TyOf X.K H x t) (e:PySem.W.kitOne X.K t c=some b) (h:∀tk,Q (.bool b) { s with toks:=tk }) :
  wpAny (model X.prog X.w) A (call (.builtin "isinstance") [u,c]) Q E s:=by
 cases ty with
 | non=>cases (show u=Value.none from rx); exact PySem.W.kia_one PySem.W.kitx_none I.kIn True.intro e (fun z=>nomatch z) h
 | bl y=>cases (show u=Value.bool y from rx); exact PySem.W.kia_one PySem.W.kitx_bool I.kIn True.intro e (fun z=>nomatch z) h
 | int i=>obtain⟨t,q⟩:=(show ∃t,u=Value.int i t from rx); cases q; exact PySem.W.kia_one PySem.W.kitx_int I.kIn True.intro e (fun z=>nomatch z) h
 | str y=>obtain⟨t,q⟩:=(show ∃t,u=Value.str y t from rx); cases q; exact PySem.W.kia_one PySem.W.kitx_str I.kIn True.intro e (fun z=>nomatch z) h
 | flt y=>obtain⟨t,q⟩:=(show ∃t,u=Value.float y t from rx); cases q; exact PySem.W.kia_one PySem.W.kitx_float I.kIn True.intro e (fun z=>nomatch z) h
 | @lst a xs ea=>
  cases (show u=Value.ref a from rx);obtain⟨_,_,n,_,h1⟩:=(show zI X.prog X.w H s.heap a (.lst xs) from I.hok a _ ea);exact PySem.W.kia_one PySem.W.kitx_list I.kIn ⟨_,h1,rfl⟩ e (fun z=>nomatch z) h
 | @frz a ob xs ea=>
  cases (show u=Value.ref a from rx);obtain⟨_,_,_,n,_,h1⟩:=(show zI X.prog X.w H s.heap a (.frz ob (.lst xs)) from I.hok a _ ea);exact PySem.W.kia_one PySem.W.kitx_list I.kIn ⟨_,h1,rfl⟩ e (fun z=>nomatch z) h
 | @tup a xs ea=>
  cases (show u=Value.ref a from rx);obtain⟨_,_,_,p⟩:=(show zI X.prog X.w H s.heap a (.tup xs) from I.hok a _ ea);obtain⟨o,h1,h2,_⟩:=p;exact PySem.W.kia_one PySem.W.kitx_tuple I.kIn ⟨o,h1,h2⟩ e (fun z=>nomatch z) h
 | @dK a kvs ea=>
  cases (show u=Value.ref a from rx);obtain⟨_,_,vs,_,p⟩:=(show zI X.prog X.w H s.heap a (.dK kvs) from I.hok a _ ea);obtain⟨o,es,ep,h1,h2,_⟩:=p;exact PySem.W.kia_one PySem.W.kitx_dict I.kIn ⟨o,h1,h2.1⟩ e (fun z=>nomatch z) h
 | @dT a kvs ea=>
  cases (show u=Value.ref a from rx);obtain⟨_,_,xs,_,o,es,ep,h1,h2,_⟩:=(show zI X.prog X.w H s.heap a (.dT kvs) from I.hok a _ ea);exact PySem.W.kia_one PySem.W.kitx_dict I.kIn ⟨o,h1,h2.1⟩ e (fun z=>nomatch z) h
 | @ins a C dx fs ea cl ha hn htk hm=>
  cases (show u=Value.ref a from rx);obtain⟨mA,O,_⟩:=zW I.hok ea;obtain⟨od,J,_⟩:=O.look;exact PySem.W.kia_one (PySem.W.kitx_own (cl.get _) cl.hd ha hn htk hm) I.kIn J e (fun z=>nomatch z) h
end
end L2
namespace L2
open PySem PySem.Spec PyProof.Rows
structure Room (k:Nat) (A:Around):Prop where
 hd:A.handled=none
 dp:A.depth+3*k+5<recursionLimit
 un:A.units+16*k+200<cLine
theorem Room.mono {j k:Nat}{A:Around} (r:Room k A) (h:j<=k):Room j A:=⟨r.hd,by have:=r.dp; omega,by have:=r.un; omega⟩
theorem Room.deeper {k:Nat}{A:Around} (r:Room (k+1) A) (env:Env):Room k (A.deeper env):=
 ⟨r.hd,by have:=r.dp; show A.depth+1+3*k+5<_; omega,by have:=r.un; show A.units+3+16*k+200<_; omega⟩
theorem Room.in1 {k:Nat}{A:Around} (r:Room (k+1) A):Room k A.in1:=
 ⟨r.hd,by have:=r.dp; show A.depth+3*k+5<_; omega,by have:=r.un; show A.units+1+16*k+200<_; omega⟩
theorem Room.depth {k:Nat}{A:Around} (r:Room k A):A.depth<recursionLimit:=by have:=r.dp; omega
theorem Room.units {k:Nat}{A:Around} (r:Room k A):A.units+64<cLine:=by have:=r.un; omega
def tNil:TA:=fun _ H Q=>Q [] H
def zU (ta:TE) (tr:TA):TA:=fun σ H Q=>ta σ H fun x H1=>tr σ H1 fun xs H2=>Q (x::xs) H2
section
variable {X:Cx}{e:Expr}{es:List Expr}{te:TE}{t:TA}{pos:Pos}
theorem zd:PA X [] tNil:=fun _ _ _ _ H Q I h=>Calls.spliced_nil ⟨[],H,I,.nil,h⟩
theorem zc (ha:PE X e te) (hr:PA X es t) (hs:starEach (e::es) X.env=(false,eval e X.env)::starEach es X.env:=by rfl):PA X (e::es) (zU te t):=by
 intro pos pins s σ H Q I h;rw[hs];show wpAny _ _ (spliced ((false,eval e X.env)::backTo pos (starEach es X.env))) _ _ s;refine Calls.spliced_cons (thn (ha pins s σ H _ I h) fun u s1 ⟨x,H1,I1,r1,q1⟩=>?_);exact thn (hr pos pins s1 σ H1 _ I1 q1) fun us s2 ⟨xs,H2,I2,r2,q2⟩=>⟨x::xs,H2,I2,.cons r1 r2,q2⟩
def tTup (t:TA):TE:=fun σ H Q=>t σ H fun xs H1=>xs.length<=sizeLine/\∀p,H1 p=none->Q (.ref p) (upd H1 p (.tup xs))
def tLst (t:TA):TE:=fun σ H Q=>t σ H fun xs H1=>xs.length<=sizeLine/\∀p,H1 p=none->Q (.ref p) (upd H1 p (.lst xs))
theorem zaa {x1} (h:PA X es t):PE X (.Tuple es x1 pos) (tTup t):=by
 intro pins s σ H Q I hq;refine wpAny_Tuple_spliced (thn (h pos pins s σ H _ I hq) fun us s1 ⟨xs,H1,I1,r,z,q⟩=>⟨by rw[<- r.length]; exact z,?_⟩);have hf:H1 s1.heap.objs.size=none:=I1.hok.fresh (Nat.le_refl _);refine⟨.ref s1.heap.objs.size,upd H1 s1.heap.objs.size (.tup xs),I1.laid (t':=s1.toks) (fun b u e=>Heap.get?_push_of_some _ e) (Nat.le_refl _) ?_,rfl,q _ hf⟩;exact⟨z,us,r,⟨_,Heap.get?_push_size _ rfl,rfl,_,rfl⟩⟩
theorem zz (h:PA X es t):PE X (.List es pos) (tLst t):=by
 intro pins s σ H Q I hq;refine wpAny_List_spliced (thn (h pos pins s σ H _ I hq) fun us s1 ⟨xs,H1,I1,r,z,q⟩=>⟨by rw[<- r.length]; exact z,?_⟩);have hf:H1 s1.heap.objs.size=none:=I1.hok.fresh (Nat.le_refl _);refine⟨.ref s1.heap.objs.size,upd H1 s1.heap.objs.size (.lst xs),I1.laid (t':=s1.toks) (fun b u e=>Heap.get?_push_of_some _ e) (Nat.le_refl _) ?_,rfl,q _ hf⟩;exact⟨z,us,0,r,Heap.get?_push_size _ rfl⟩
end
abbrev Sp:=List V->Hp->VK->XK->Prop
abbrev CXT:=List Env->Hp->Shared->XK->Value->Shared->Prop
structure Env0 (P:Program) (w:World) (K:PySem.W.Frag) (mg:Str->Option Value) (base:Heap) (A:Around) (outer:List Env) (s:Shared) (H:Hp):Prop where
 frames:A.frames=some outer
 mod:Mod K mg base
 bs:∀b o,base.get? b=some o->s.heap.get? b=some o/\H b=none
 bsz:base.objs.size<=s.heap.objs.size
 funs:s.heap.FunFrames base outer
 frf:∀b∈frs outer,H b=none
 hok:HOk P w H s.heap
 bare:AllBare s.gens
def CE (outer:List Env) (P:Program) (w:World) (H:Hp) (s:Shared) (Q:VK) (u:Value) (s':Shared):Prop:=
 ∃v H',s'.os=s.os/\AllBare s'.gens/\Un (frs outer) [] H H' s.heap s'.heap/\HOk P w H' s'.heap/\RelV v u/\Q v H'
def CR (CX:CXT) (outer:List Env) (P:Program) (w:World) (H:Hp) (s:Shared) (Q:VK) (E:XK) (r:Result) (s':Shared):Prop:=
 match r with
 | .ok (.ret u)=>CE outer P w H s Q u s'
 | .ok _=>False
 | .error e=>CX outer H s E e s'
structure FnOk (P:Program) (w:World) (K:PySem.W.Frag) (mg:Str->Option Value) (base:Heap) (CX:CXT) (k:Nat) (f:Addr) (fd:FuncData) (ps:List Str) (sp:Sp):Prop where
 len:∀vs H Q E,sp vs H Q E->vs.length=ps.length
 run:∀(A:Around) (outer:List Env) (s:Shared) (H:Hp) (args:Args) (us:List Value) (vs:List V) (Q:VK) (E:XK),Room k A->Env0 P w K mg base A outer s H->BindsTo s fd args (ps.zip us)->Vals vs us->sp vs H Q E->
  codeAny (model P w) A (.call (.ref f) args) (CR CX outer P w H s Q E) s
theorem Env0.in1 {P:Program}{w:World}{K:PySem.W.Frag}{mg:Str->Option Value}{base:Heap}{A:Around}{outer:List Env}{s:Shared}{H:Hp} (e:Env0 P w K mg base A outer s H) :
  Env0 P w K mg base A.in1 outer s H:=⟨e.frames,e.mod,e.bs,e.bsz,e.funs,e.frf,e.hok,e.bare⟩
section
variable {X:Cx}{pins:List (Addr×Obj)}{σ:St}{H:Hp}{s s':Shared}
theorem Inv.env0 (I:Inv X pins σ H s):Env0 X.prog X.w X.K X.mg X.base X.A X.stack s H:=
 ⟨I.ok.frames,I.ok.mod,I.bs,Nat.le_trans I.ok.bsz I.sz,I.stack,I.stkFree,I.hok,I.bare⟩
theorem Inv.after {Q:VK}{u:Value} (I:Inv X pins σ H s) (h:CE X.stack X.prog X.w H s Q u s'):EP X pins σ Q u s':=by
 obtain⟨v,H',os,bare,un,hok,r,q⟩:=h;obtain⟨hh,g,d,t,os'⟩:=s';obtain rfl:os'=s.os:=os;exact⟨v,H',I.call (h':=hh) (g':=g) (d':=d) (t':=t) (ch:=[]) un hok bare (fun b z=>absurd z (by simp)),r,q⟩
end
def ziA (sp:Sp) (dvs:List V) (E:XK) (t:TA):TE:=fun σ H Q=>t σ H fun vs H1=>sp (vs++dvs) H1 Q E
def Binds (K:PySem.W.Frag) (fd:FuncData) (ps:List Str) (ds:List Value):Prop:=
 ∀(s:Shared) (us:List Value),K.In s.heap->(us++ds).length=ps.length->BindsTo s fd ⟨us,[]⟩ (ps.zip (us++ds))
theorem Binds.all {K:PySem.W.Frag}{fd:FuncData}{ps:List Str} (h:∀us:List Value,us.length=ps.length->bindArgs fd ⟨us,[]⟩=pure (ps.zip us)):Binds K fd ps []:=fun s us _ hl=>by
 rw[List.append_nil] at hl ⊢;exact .of_eq (h us hl)
def Passes (CX:CXT) (X:Cx) (E:XK):Prop:=∀(pins:List (Addr×Obj)) (σ:St) (H:Hp) (s:Shared) (e:Value) (s':Shared),Inv X pins σ H s->CX X.stack H s E e s'->X.xe e s'
section
variable {X:Cx}{CX:CXT}{k:Nat}{f C:Addr}{fd:FuncData}{ps:List Str}{sp:Sp}{dvs:List V}{ds:List Value}{E:XK}{x m:Str}{p pos apos:Pos}{e o:Expr}{es:List Expr}{ta:TE}{t:TA}
theorem zjA {pins:List (Addr×Obj)}{σ:St}{H:Hp}{s:Shared}{Q:VK}{us:List Value}{vs:List V} (F:FnOk X.prog X.w X.K X.mg X.base CX k f fd ps sp) (hr:Room k X.A) (hb:Binds X.K fd ps ds) (hd:Vals dvs ds) (hx:Passes CX X E)
  (I:Inv X pins σ H s) (r:Vals vs us) (h:sp (vs++dvs) H Q E):wpAny (model X.prog X.w) X.A (call (.ref f) us) (EP X pins σ Q) X.xe s:=by
 have r2:Vals (vs++dvs) (us++ds):=r.append hd;have hl:(us++ds).length=ps.length:=by rw[<- r2.length]; exact F.len _ _ _ _ h
 refine wpAny_call (codeAny_mono (F.run X.A X.stack s H ⟨us,[]⟩ (us++ds) (vs++dvs) Q E hr I.env0 (hb s us I.kIn hl) r2 h) fun r s' hq=>?_);cases r with
 | error e=>exact hx pins σ H s e s' I hq
 | ok fl=>
  cases fl with
  | ret u=>exact I.after hq
  | next=>exact False.elim hq
  | brk=>exact False.elim hq
  | cont=>exact False.elim hq
theorem zl (F:FnOk X.prog X.w X.K X.mg X.base CX k f fd ps sp) (hr:Room k X.A) (hg:Gl X x) (hm:X.mg x=some (.ref f)) (hk:PySem.W.keepIn X.K (.ref f)=true) (hb:Binds X.K fd ps ds) (hd:Vals dvs ds) (hx:Passes CX X E)
  (ha:PA X (e::es) t) (hdb:(x == ("__debug__":Str))=false:=by decide) (he:starEach (e::es) X.env=(false,eval e X.env)::starEach es X.env:=by rfl) (hpl:(backTo pos (starEach es X.env)).any (·.1)=false:=by rfl) :
  PE X (.Call (.Name x p) (e::es) [] pos) (ziA sp dvs E t):=by
 intro pins s σ H Q I h;refine wpAny_Call_Name_kw (zd5 I hg hm ?_ hdb);refine PySem.W.callWith_K (h₀:=X.base) I.ok.mod.kin hk (thn (ha pos pins s σ H _ I h) fun us s1 ⟨vs,H1,I1,r,q⟩=>⟨I1.kIn,?_⟩) he hpl;exact zjA F hr hb hd hx I1 r q
end
section
variable {X:Cx}{CX:CXT}{k:Nat}{f C:Addr}{fd:FuncData}{ps ks:List Str}{sp:Sp}{E:XK}{x m:Str}{p pos apos kpos:Pos}{e o:Expr}{es:List Expr}{kws:List Keyword}{te ta:TE}{t tk:TA}{nm:Option Str}
variable {g:List Value->List Value->List Value}{gV:List V->List V->List V}
end
structure zv (N P:List Str) (sc:Scope):Prop where
 kind:sc.kind=.function
 co:sc.isCoroutine=false
 gen:sc.isGenerator=false
 nd:N.Nodup
 pre:N.take P.length=P
 par:∀x∈P,sc.names.lookup x=some .local \/ sc.names.lookup x=some .cell
 nofree:∀y∈sc.names,y.2≠.free
theorem zde {kindOf:Str->Option NameKind}{x:Str}:∀{binds:List (Str×Value)}{m:Str->Option Value},(∀v,(x,v)∉binds)->bindL kindOf binds m x=m x
 | [],_,_=>rfl
 | (n,v)::r,m,h=>by
  unfold bindL;rw[zde fun w hw=>h w (List.mem_cons_of_mem _ hw)];split
  ·have:x≠n:=by rintro rfl; exact h v List.mem_cons_self
   simp[this]
  ·rfl
theorem zc0 {kindOf:Str->Option NameKind}{x:Str}:∀{binds:List (Str×Value)}{m:Str->Option Value},(∀v,(x,v)∉binds)->bindC kindOf binds m x=m x
 | [],_,_=>rfl
 | (n,v)::r,m,h=>by
  unfold bindC;rw[zc0 fun w hw=>h w (List.mem_cons_of_mem _ hw)];split
  ·rfl
  ·have:x≠n:=by rintro rfl; exact h v List.mem_cons_self
   simp[this]
theorem zdC {kindOf:Str->Option NameKind}{x:Str}{v:Value}:∀{P:List Str}{vs:List Value}{i:Nat}{m:Str->Option Value},P.Nodup->P[i]?=some x->vs[i]?=some v->kindOf x=some .local->
  bindL kindOf (P.zip vs) m x=some v
 | [],_,_,_,_,h,_,_=>by simp at h
 | _::_,[],_,_,_,_,h,_=>by simp at h
 | p::P,w::vs,0,m,nd,h1,h2,hk=>by
  simp at h1 h2; subst h1; subst h2;show bindL kindOf ((p,w)::P.zip vs) m p=_;unfold bindL;rw[zde fun v hv=>(List.nodup_cons.mp nd).1 (List.of_mem_zip hv).1,if_pos hk];simp
 | p::P,w::vs,i+1,m,nd,h1,h2,hk=>by
  show bindL kindOf ((p,w)::P.zip vs) m x=_;unfold bindL;exact zdC (i:=i) (List.nodup_cons.mp nd).2 (by simpa using h1) (by simpa using h2) hk
theorem zdd {kindOf:Str->Option NameKind}{x:Str}{v:Value}:∀{P:List Str}{vs:List Value}{i:Nat}{m:Str->Option Value},P.Nodup->P[i]?=some x->vs[i]?=some v->kindOf x≠some .local->
  bindC kindOf (P.zip vs) m x=some v
 | [],_,_,_,_,h,_,_=>by simp at h
 | _::_,[],_,_,_,_,h,_=>by simp at h
 | p::P,w::vs,0,m,nd,h1,h2,hk=>by
  simp at h1 h2; subst h1; subst h2;show bindC kindOf ((p,w)::P.zip vs) m p=_;unfold bindC;rw[zc0 fun v hv=>(List.nodup_cons.mp nd).1 (List.of_mem_zip hv).1,if_neg hk];simp
 | p::P,w::vs,i+1,m,nd,h1,h2,hk=>by
  show bindC kindOf ((p,w)::P.zip vs) m x=_;unfold bindC;exact zdd (i:=i) (List.nodup_cons.mp nd).2 (by simpa using h1) (by simpa using h2) hk
def start (N:List Str) (vs:List V):St:=vs.map some++List.replicate (N.length - vs.length) none
def cxOf (CX:CXT) (P:Program) (w:World) (K:PySem.W.Frag) (mg:Str->Option Value) (base:Heap) (N:List Str) (qual:Str) (scope:Scope) (f:Addr) (cd:Value) (A:Around) (outer:List Env) (s:Shared) (H:Hp) (E:XK):Cx where
 prog:=P
 w:=w
 K:=K
 mg:=mg
 base:=base
 A:=A.deeper (envOfC qual scope s.heap.objs.size f cd)
 N:=N
 s₀:=s
 H₀:=H
 env:=envOfC qual scope s.heap.objs.size f cd
 outer:=outer
 stack:=envOfC qual scope s.heap.objs.size f cd::outer
 ex:=[]
 calm:=true
 fn:=fun _=>true
 pn:=[]
 xe:=fun e s'=>wpAny (model P w) (A.deeper (envOfC qual scope s.heap.objs.size f cd)) (leaving (envOfC qual scope s.heap.objs.size f cd) e) (fun _ s''=>CX outer H s E e s'') (fun e' s''=>CX outer H s E e' s'') s'
theorem zed {sc:Scope}{n:Nat}{x:Str} (h:sc.names.lookup x=some .cell):∃c,(cellsFrom n sc.names []).lookup x=some c:=by
 have q:=PySem.W.cellsFrom_some sc.names n [] (.inl h);exact Option.isSome_iff_exists.mp q
theorem zfw {CX:CXT}{P:Program}{w:World}{K:PySem.W.Frag}{mg:Str->Option Value}{base:Heap}{N ps:List Str}{qual:Str}{scope:Scope}{f:Addr}{cd:Value}{A:Around}{outer:List Env}{s s1:Shared}{H:Hp}{E:XK}{us:List Value}{vs:List V}
  (S:zv N ps scope) (hd:A.handled=none) (e0:Env0 P w K mg base A outer s H) (hl:vs.length=ps.length) (r:Vals vs us)
  (x:InCallC s s.heap.objs.size (bindL (envOfC qual scope s.heap.objs.size f cd).kindOf (ps.zip us) fun _=>none) (cellsFrom (s.heap.objs.size+1) scope.names []) (bindC (envOfC qual scope s.heap.objs.size f cd).kindOf (ps.zip us) fun _=>none) s1) :
  Inv (cxOf CX P w K mg base N qual scope f cd A outer s H E) [] (start N vs) H s1:=by
 have hpl:ps.length<=N.length:=by have:=congrArg List.length S.pre; rw[List.length_take] at this; omega
 obtain⟨h1,tk,rfl,hk⟩:=x.done;have noA:∀b:Addr,b∉(cxOf CX P w K mg base N qual scope f cd A outer s H E).ex:=fun b z=>absurd (show b∈([]:List Addr) from z) (by simp);refine⟨⟨e0.mod,S.kind,rfl,rfl,Nat.le_refl _,fun y z c h1 h2=>?_,fun y hy=>?_,fun y c _ h=>?_,fun _=>hd,Around.frames_deeper e0.frames,.inr ⟨rfl,rfl⟩,fun b z=>absurd z (noA b),e0.bs,e0.bsz,fun b _ _=>noA b,fun b z=>absurd z (noA b),e0.funs,e0.frf⟩,
  rfl,e0.bare,Un.kept hk,⟨_,x.toInCall.ns,fun i y v h1 h2 h3=>?_⟩,fun y c h=>⟨_,x.cell y c h⟩,e0.hok.fresh (Nat.le_refl _),fun y c h=>?_,fun p hp=>absurd (show p∈([]:List (Addr×Obj)) from hp) (by simp),e0.hok.kept hk,?_⟩
 ·exact name_of_addr x.apart (PySem.mem_of_lookup h1) (PySem.mem_of_lookup h2)
 ·have hy:scope.names.lookup y=some .cell \/ scope.names.lookup y=some .free:=hy
  rcases hy with hy | hy
  ·exact zed hy
  ·exact absurd rfl (S.nofree _ (PySem.mem_of_lookup hy))
 ·exact Nat.le_of_lt (x.above y c (PySem.mem_of_lookup h))
 ·have hi:i<vs.length:=by
   unfold start at h2
   by_cases hi:i<vs.length
   ·exact hi
   ·rw[List.getElem?_append_right (by simpa using hi)] at h2
    rw[List.getElem?_replicate] at h2;split at h2 <;> cases h2
  have ha:vs[i]?=some v:=by
   unfold start at h2;rw[List.getElem?_append_left (by simpa using hi),List.getElem?_map] at h2;cases e:vs[i]? with
   | none=>rw[e] at h2; cases h2
   | some a=>rw[e] at h2; cases h2; rfl
  obtain⟨u,hu,rv⟩:=r.get ha;have hp:ps[i]?=some y:=by
   rw[<- S.pre,List.getElem?_take_of_lt (by omega)]; exact h1
  have ndP:ps.Nodup:=by rw[<- S.pre]; exact S.nd.sublist (List.take_sublist _ _)
  refine⟨u,rv,?_⟩;rcases S.par y (List.mem_of_getElem? hp) with k | k
  ·exact .inl ⟨k,zdC ndP hp hu k⟩
  ·obtain⟨c,e⟩:=zed (n:=s.heap.objs.size+1) k
   refine .inr ⟨.inl k,c,e,?_⟩;have q:=x.cell y c e;rw[zdd ndP hp hu (by show scope.names.lookup y≠_; rw[k]; decide)] at q;exact q
 ·exact e0.hok.fresh (Nat.le_of_lt (x.above y c (PySem.mem_of_lookup h)))
 ·unfold start
  show _=N.length;rw[List.length_append,List.length_map,List.length_replicate];omega
theorem zkE {CX:CXT}{P:Program}{w:World}{K:PySem.W.Frag}{mg:Str->Option Value}{base:Heap}{k:Nat}{f:Addr}{name qual:Str}{params:Arguments}{body:List Stmt}{scope:Scope}{dV kV doc pm cdv ct oc:Value}{an od:Option Addr}
  {osl:Array (Option Value)} {N ps:List Str} {sp:Sp} (lk:K.lookup f=some ⟨oc,od,.func (PySem.W.fnOf name qual params body scope dV kV doc pm an cdv ct),osl⟩) (hcd:PySem.W.codeIn K cdv qual=true) (S:zv N ps scope)
  (len:∀vs H Q E,sp vs H Q E->vs.length=ps.length)
  (hbody:∀(A:Around) (outer:List Env) (s:Shared) (H:Hp) (vs:List V) (Q:VK) (E:XK),Room k (A.deeper (envOfC qual scope s.heap.objs.size f cdv))->sp vs H Q E->
   ∃t,PSs (cxOf CX P w K mg base N qual scope f cdv A outer s H E) body t/\t { nx:=fun _ H'=>Q .non H',rt:=Q } (start N vs) H) :
  FnOk P w K mg base CX (k+1) f (PySem.W.fnOf name qual params body scope dV kV doc pm an cdv ct) ps sp:=by
 refine⟨len,fun A outer s H args us vs Q E hr e0 hb r hsp=>?_⟩;have hl:=len _ _ _ _ hsp;have KX:K.In s.heap:=e0.mod.kin.keeps fun b o e=>(e0.bs b o e).1;have lim:s.heap.NoLimit:=e0.mod.nolimit.keeps fun b o e=>(e0.bs b o e).1;have hkind:∀y∈ps.zip us,scope.names.lookup y.1=some .local \/ (scope.names.lookup y.1=some .cell/\((cellsFrom (s.heap.objs.size+1) scope.names []).lookup y.1).isSome=true):=fun ⟨n,v⟩ hy=>by
  rcases S.par n (List.of_mem_zip hy).1 with q | q
  ·exact .inl q
  ·exact .inr ⟨q,PySem.W.cellsFrom_some _ _ _ (.inl q)⟩
 refine codeAny_call_function hr.depth (KX _ _ lk) rfl S.co S.gen rfl (PySem.W.codeRec_of KX hcd) (hb _ _ _ _ ?_);refine wpAny_newFunctionEnv_cells S.kind hkind fun env he s1 x=>?_;subst he;refine⟨lim.keeps x.toInCall.keep,codeAny_func ?_⟩;obtain⟨t,ht,hq⟩:=hbody A outer s H vs Q E (hr.deeper _) hsp;have I:Inv (cxOf CX P w K mg base N qual scope f cdv A outer s H E) [] (start N vs) H s1:=zfw S hr.hd e0 hl r x;refine wpAny_mono (ht [] s1 (start N vs) H _ I hq) (fun fl s' hs=>?_) fun e s' hs=>hs;have fin:∀{σ':St} {H':Hp} {v:V} {u:Value},Inv (cxOf CX P w K mg base N qual scope f cdv A outer s H E) [] σ' H' s'->RelV v u->Q v H'->CE outer P w H s Q u s':=
  fun {σ' H' v u} J rv q=>⟨v,H',J.os,J.bare,J.base,J.hok,rv,q⟩
 cases fl with
 | ret u=>
  obtain⟨v,σ',H',J,rv,q⟩:=hs;exact fin J rv q
 | next=>
  obtain⟨σ',H',J,q⟩:=hs;exact fin (v:=V.non) (u:=Value.none) J rfl q
 | brk=>
  obtain⟨_,_,_,q⟩:=hs;exact False.elim q
 | cont=>
  obtain⟨_,_,_,q⟩:=hs;exact False.elim q
end L2
namespace L2
open PySem PySem.Spec PyProof.Rows
section
variable {X:Cx}{x:Str}{p pos:Pos}{e:Expr}{es:List Expr}{t:TA}{id T:String}{r:List V->Hp->VK->Prop}
def tCB (r:List V->Hp->VK->Prop) (t:TA):TE:=fun σ H Q=>t σ H fun vs H1=>r vs H1 Q
theorem zo (hc:zaz X (.builtin id) r) (hg:Gl X x) (hm:X.mg x=none) (hv:bootBuiltins x=some (.builtin id)) (ha:PA X (e::es) t) (hn:x≠"__name__":=by decide) (hdb:(x == ("__debug__":Str))=false:=by decide)
  (he:starEach (e::es) X.env=(false,eval e X.env)::starEach es X.env:=by rfl) (hpl:(backTo pos (starEach es X.env)).any (·.1)=false:=by rfl):PE X (.Call (.Name x p) (e::es) [] pos) (tCB r t):=by
 intro pins s σ H Q I h;refine wpAny_Call_Name_kw (zb9 I hg hm hv ?_ hn hdb);exact PyProof.Rows.callWith_builtin1 (thn (ha pos pins s σ H _ I h) fun us s1 ⟨vs,H1,I1,r1,q1⟩=>hc pins s1 σ H1 vs us Q I1 r1 q1) he hpl
theorem zF (hc:zaz X (.type T) r) (hg:Gl X x) (hm:X.mg x=none) (hv:bootBuiltins x=some (.type T)) (ha:PA X (e::es) t) (hn:x≠"__name__":=by decide) (hdb:(x == ("__debug__":Str))=false:=by decide)
  (he:starEach (e::es) X.env=(false,eval e X.env)::starEach es X.env:=by rfl) (hpl:(backTo pos (starEach es X.env)).any (·.1)=false:=by rfl):PE X (.Call (.Name x p) (e::es) [] pos) (tCB r t):=by
 intro pins s σ H Q I h;refine wpAny_Call_Name_kw (zb9 I hg hm hv ?_ hn hdb);exact PyProof.Rows.callWith_type1 (thn (ha pos pins s σ H _ I h) fun us s1 ⟨vs,H1,I1,r1,q1⟩=>hc pins s1 σ H1 vs us Q I1 r1 q1) he hpl
end
end L2
namespace HT
open PySem PyProof.Rows
def lexLt:List Int->List Int->Bool
 | [],[]=>false
 | [],_::_=>true
 | _::_,[]=>false
 | x::xs,y::ys=>if x=y then lexLt xs ys else decide (x<y)
theorem zG (x y:Int) (xs ys:List Int):lexLt (x::xs) (y::ys)=if x=y then lexLt xs ys else decide (x<y):=rfl
theorem za3:lexLt [] []=false:=rfl
theorem zO (y:Int) (ys:List Int):lexLt [] (y::ys)=true:=rfl
theorem zaN (x:Int) (xs:List Int):lexLt (x::xs) []=false:=rfl
theorem zhL (A:Around) (s:Shared) (a:Int) (t:Tok) (c:Int) (u:Tok):∃e,SeqAt.EqAt A s (.int a t) (.int c u) e/\(e=true ↔ a=c):=
 ⟨(a == c),SeqAt.EqAt.int_int a t c u,by simp⟩
theorem zhl (A:Around) (s:Shared) (a:Int) (t:Tok) (c:Int) (u:Tok) (prog:Program) (w:World) (E:Value->Shared->Prop) (Q:Value->Shared->Prop) (h:Q (.bool (decide (a<c))) s) :
  wpAny (model prog w) A (richCompare .Lt (.int a t) (.int c u)) Q E s:=
 (PyProof.Rows.lt_int h:wpAny (model prog w) A (compareOp .Lt (.int a t) (.int c u)) Q E s)
section
open PySem.SeqAt
open PySem.AutoSeq1 (wpAny_loadPart')
open PySem.MeetsSeq PySem.MeetsSeq2 PySem.MeetsSeq3
theorem zcK (l b:Addr) (items items2:Array Value) (n n2:Nat) (dd dd2:Option Addr) (sl sl2:Array (Option Value)) (ns ms:List Int) (hi:IntsAre items.toList ns) (hj:IntsAre items2.toList ms) :
  Meets (Builtin.«tuple.__lt__» ⟨[.ref l,.ref b],[]⟩)
   (fun _ R s=>s.heap.get? l=some { cls:=.type "tuple",dict:=dd,data:=.seq items n,slots:=sl }/\s.heap.get? b=some { cls:=.type "tuple",dict:=dd2,data:=.seq items2 n2,slots:=sl2 }/\
    R (.ok (.ret (.bool (lexLt ns ms)))) s):=
 .of_wp fun prog w A R s h=>by
  obtain⟨hp,g,d,tk,os⟩:=s; obtain⟨hl,hb,h⟩:=h;have f2:=AutoSeq1.sub_tuple_tuple;have z1:items.size=ns.length:=by rw[<- hi.length]; simp
  have z2:items2.size=ms.length:=by rw[<- hj.length]; simp
  wp_walk using wpAny_loadPart' hl,wpAny_loadPart' hb,wpAny_forIn_list _ (fun rest b s'=>b.1=none/\s'=⟨hp,g,d,tk,os⟩/\∃(vs ws:List Value) (ns' ms':List Int),rest=vs.zip ws/\
   IntsAre vs ns'/\IntsAre ws ms'/\ns'.length+items2.size=ms'.length+items.size/\R (.ok (.ret (.bool (lexLt ns' ms')))) ⟨hp,g,d,tk,os⟩) _
  case turn=>
   rintro⟨y,x⟩ rest b s' ⟨hb',rfl,vs,ws,ns',ms',hz,hvi,hwi,hlen,hR⟩;cases hvi with
   | nil=>rw[List.zip_nil_left] at hz; cases hz
   | cons a t hvi'=>
    cases hwi with
    | nil=>rw[List.zip_nil_right] at hz; cases hz
    | cons c u hwi'=>
     rw[List.zip_cons_cons] at hz;injection hz with hyx hrest
     injection hyx with hy hx
     subst hy hx;rw[zG] at hR;simp only[List.length_cons] at hlen;obtain⟨e,he,hiff⟩:=zhL A.in1 ⟨hp,g,d,tk,os⟩ a t c u;refine wpAny_bind (he prog w _ _ ?_);cases e with
     | true=>
      rw[if_pos (hiff.mp rfl)] at hR
      wp_walk
      exact⟨rfl,rfl,_,_,_,_,hrest,hvi',hwi',by omega,hR⟩
     | false=>
      rw[if_neg (fun q=>absurd (hiff.mpr q) Bool.false_ne_true)] at hR;have hri:=zhl A.in1 ⟨hp,g,d,tk,os⟩ a t c u prog w
      wp_walk using hri
      exact⟨_,rfl,by simpa using hR⟩
  case fin=>
   rintro⟨b1,b2⟩ s' ⟨hb',rfl,vs,ws,ns',ms',hz,hvi,hwi,hlen,hR⟩;simp only at hb';subst hb';have hv:lexLt ns' ms'=decide (items.size<items2.size):=by
    cases hvi with
    | nil=>
     cases hwi with
     | nil=>
      simp only[List.length_nil] at hlen;rw[za3];exact (decide_eq_false (by omega)).symm
     | cons c u hw=>
      simp only[List.length_nil,List.length_cons] at hlen;rw[zO];exact (decide_eq_true (by omega)).symm
    | cons a t hv=>
     cases hwi with
     | nil=>
      simp only[List.length_nil,List.length_cons] at hlen;rw[zaN];exact (decide_eq_false (by omega)).symm
     | cons c u hw=>
      rw[List.zip_cons_cons] at hz;cases hz
   rw[hv] at hR
   wp_walk
   exact⟨_,rfl,by simpa[Builtin.Tuple.tupleCompareSizes] using hR⟩
  case h=>
   exact⟨rfl,rfl,items.toList,items2.toList,ns,ms,rfl,hi,hj,by omega,h⟩
end
section
variable {prog:Program}{w:World}{A:Around}{E:Value->Shared->Prop}{s:Shared}
theorem zfb {l b:Addr}{items items2:Array Value}{ns ms:List Int}{Q:Value->Shared->Prop} (hl:IsTup s.heap l items) (hb:IsTup s.heap b items2) (hi:IntsAre items.toList ns) (hj:IntsAre items2.toList ms)
  (hu:A.units<cLine) (h:Q (.bool (lexLt ns ms)) s):wpAny (model prog w) A (compareOp .Lt (.ref l) (.ref b)) Q E s:=by
 obtain⟨⟨cls,dd,data,sl⟩,ho,hc,n,hd⟩:=id hl;obtain⟨⟨cls2,dd2,data2,sl2⟩,ho2,hc2,n2,hd2⟩:=id hb;simp only at hc hd hc2 hd2;subst hc hd hc2 hd2;exact richCompare_meets_room (op:=.Lt) ⟨_,ho,rfl⟩ ⟨_,ho2,rfl⟩ PySem.F.slot_tuple_lt PySem.F.entry_tuple_lt (PySem.F.args_tuple_lt_2 _ _) (zcK l b items items2 n n2 dd dd2 sl sl2 ns ms hi hj)
  ⟨ho,ho2,show Value.bool (lexLt ns ms)≠Value.notImplemented/\Q (.bool (lexLt ns ms)) s from ⟨(fun x=>nomatch x),h⟩⟩ hu
theorem ziu {t b:Addr}{vs ws:List Value}{Q:Value->Shared->Prop} (ht:IsTup s.heap t vs.toArray) (hb:IsTup s.heap b ws.toArray) (hv:vs≠[])
  (h1:ws=[]->Q (.ref t) s) (h2:ws≠[]->Q (.ref s.heap.objs.size) { s with heap:=s.heap.push { cls:=.type "tuple",data:=.seq (vs++ws).toArray } })
  (hsz:vs.length+ws.length<=sizeLine):wpAny (model prog w) A (binaryOp .Add (.ref t) (.ref b)) Q E s:=by
 obtain⟨⟨cls,dd,data,sl⟩,ho,hc,n,hd⟩:=id ht;obtain⟨⟨cls2,dd2,data2,sl2⟩,ho2,hc2,n2,hd2⟩:=id hb;simp only at hc hd hc2 hd2;subst hc hd hc2 hd2;have e:vs.toArray++ws.toArray=(vs++ws).toArray:=by simp
 by_cases hw:ws=[]
 ·exact concat_meets ⟨_,ho,rfl⟩ ⟨_,ho2,rfl⟩ noFill_tuple_add seq_tuple_add PySem.F.slot_tuple_add PySem.F.entry_tuple_add (PySem.F.args_tuple_add_2 _ _)
   (tuple_addW1 t b vs.toArray ws.toArray n n2 dd dd2 sl sl2 (by simpa using hv) (by simp[hw])) ⟨ho,ho2,h1 hw⟩
 ·refine concat_meets ⟨_,ho,rfl⟩ ⟨_,ho2,rfl⟩ noFill_tuple_add seq_tuple_add PySem.F.slot_tuple_add PySem.F.entry_tuple_add (PySem.F.args_tuple_add_2 _ _)
   (tuple_addW2 t b vs.toArray ws.toArray n n2 dd dd2 sl sl2 (by simpa using hv) (by simpa using hw) (by rw[List.size_toArray,List.size_toArray]; exact hsz)) ⟨ho,ho2,?_⟩
  rw[e];exact h2 hw
def sIx (n d:Nat):Option Int->Nat
 | none=>d
 | some v=>if v<0 then (v+(n:Int)).toNat else min v.toNat n
theorem zbI (n d:Nat):sIx n d none=d:=rfl
theorem zb6 (n d k:Nat):sIx n d (some (k:Int))=min k n:=by
 show (if (k:Int)<0 then ((k:Int)+(n:Int)).toNat else min (k:Int).toNat n)=min k n;rw[if_neg (by omega),Int.toNat_natCast]
theorem zka (n d:Nat) (hd:d<=n) (o:Option Int):sIx n d o<=n:=by
 cases o with
 | none=>exact hd
 | some v=>
  show (if v<0 then (v+(n:Int)).toNat else min v.toNat n)<=n
  by_cases hv:v<0
  ·rw[if_pos hv]; omega
  ·rw[if_neg hv]; exact Nat.min_le_right _ _
theorem zfK (v:Int) (n d:Nat):(if v<0 then max (v+(n:Int)) 0 else min v (n:Int))=((sIx n d (some v):Nat):Int):=by
 show (if v<0 then max (v+(n:Int)) 0 else min v (n:Int))=(((if v<0 then (v+(n:Int)).toNat else min v.toNat n):Nat):Int)
 by_cases hv:v<0
 ·simp only[if_pos hv]; omega
 ·simp only[if_neg hv]; omega
theorem zff (lo hi:Option Int) (n:Nat):Builtin.Slice.sliceAdjust lo hi 1 (n:Int)=(((sIx n 0 lo:Nat):Int),((sIx n n hi:Nat):Int)):=by
 have h1:¬ ((1:Int)<0):=by omega
 unfold Builtin.Slice.sliceAdjust;simp only[h1,if_false];refine Prod.ext ?_ ?_
 ·cases lo with
  | none=>rfl
  | some v=>exact zfK v n 0
 ·cases hi with
  | none=>rfl
  | some v=>exact zfK v n n
theorem ze8 (i j:Nat):Builtin.Slice.slicePlaces (i:Int) (j:Int) 1=j - i:=by
 unfold Builtin.Slice.slicePlaces;have h1:(1:Int) > 0:=by omega
 simp only[h1,if_true,Int.ediv_one];split <;> omega
theorem zcp {v:Value}{o:Option Int}{Q:Option Int->Shared->Prop} (p:IsPart v o) (h:Q o s):wpAny (model prog w) A (Builtin.Slice.slicePartIndex v) Q E s:=by
 cases p with
 | none=>exact slicePart_none h
 | int i t=>exact slicePart_int h
theorem zay {sl:Addr}{vl vu:Value}{lo hi:Option Int}{n:Nat}{Q:Int×Int×Nat->Shared->Prop} (hs:s.heap.IsSliceOf sl vl vu .none) (pl:IsPart vl lo) (pu:IsPart vu hi)
  (h:Q (((sIx n 0 lo:Nat):Int),1,sIx n n hi - sIx n 0 lo) s):wpAny (model prog w) A (Builtin.Slice.sliceApplied (.ref sl) (pure (n:Int))) Q E s:=by
 obtain⟨os,hos,hcs,hds⟩:=id hs;unfold Builtin.Slice.sliceApplied Builtin.Slice.sliceFields;refine wpAny_bind (wpAny_bind (wpAny_field hos hds (x:=vl) rfl (wpAny_bind (wpAny_field hos hds (x:=vu) rfl (wpAny_bind (wpAny_field hos hds (x:=.none) rfl (wpAny_pure ?_)))))));refine wpAny_bind (slicePart_none ?_);show wpAny _ _ (if ((1:Int) == 0)=true then _ else _) _ _ s;rw[if_neg (by decide)];refine wpAny_bind (zcp pl (wpAny_bind (zcp pu (wpAny_bind (wpAny_pure ?_)))));show wpAny _ _ (match Builtin.Slice.sliceAdjust lo hi 1 (n:Int) with | (lo,hi)=>pure (lo,(1:Int),Builtin.Slice.slicePlaces lo hi 1)) _ _ s;rw[zff lo hi n];show wpAny _ _ (pure (((sIx n 0 lo:Nat):Int),(1:Int),Builtin.Slice.slicePlaces ((sIx n 0 lo:Nat):Int) ((sIx n n hi:Nat):Int) 1)) _ _ s;rw[ze8];exact wpAny_pure h
theorem zgQ (xs:Array Value) (i k:Nat):((List.range k).filterMap fun (m:Nat)=>xs[((i:Int)+(m:Int)*1).toNat]?).toArray=((xs.toList.drop i).take k).toArray:=by
 have e:(fun (m:Nat)=>xs[((i:Int)+(m:Int)*1).toNat]?)=fun m=>xs[i+m]?:=by
  funext m
  have:((i:Int)+(m:Int)*1).toNat=i+m:=by omega
  rw[this]
 rw[e];have:=pick_run xs i k;rw[List.filterMap_map] at this;have e2:((fun x=>xs[x]?) ∘ fun x=>i+x)=fun m=>xs[i+m]?:=rfl;rw[e2] at this;rw[this]
theorem zbj {t sl:Addr}{items:Array Value}{vl vu:Value}{lo hi:Option Int}{Q:Value->Shared->Prop} (ht:IsTup s.heap t items) (hs:s.heap.IsSliceOf sl vl vu .none) (pl:IsPart vl lo) (pu:IsPart vu hi)
  (hw:¬ (sIx items.size 0 lo=0/\sIx items.size items.size hi=items.size))
  (h:Q (.ref s.heap.objs.size) { s with heap:=s.heap.push { cls:=.type "tuple",data:=.seq ((items.toList.drop (sIx items.size 0 lo)).take (sIx items.size items.size hi - sIx items.size 0 lo)).toArray } })
  (hsz:items.size<=sizeLine):wpAny (model prog w) A (getItem (.ref t) (.ref sl)) Q E s:=by
 have htake:sizeOk (.seq ((items.toList.drop (sIx items.size 0 lo)).take (sIx items.size items.size hi - sIx items.size 0 lo)).toArray):=by
  show ((items.toList.drop (sIx items.size 0 lo)).take (sIx items.size items.size hi - sIx items.size 0 lo)).toArray.size<=sizeLine;rw[List.size_toArray,List.length_take,List.length_drop,Array.length_toList];omega
 have hj:sIx items.size items.size hi<=items.size:=zka _ _ (Nat.le_refl _) hi;obtain⟨os,hos,hcs,hds⟩:=id hs;have hTs:s.TypeIs (.ref sl) "slice":=⟨os,hos,hcs⟩;unfold getItem
 try with_reducible refine wpAny_holding ?_
 first | refine wpAny_bind (wpAny_pure ?_) | skip
 refine wpAny_bind (wpAny_sequenceKey ht.typeIs (by decide) ?_);refine wpAny_bind (wpAny_callSpecial?_slot (name:=Str.ofString "__getitem__") ht.typeIs PyProof.Rows.slot_tuple_getitem
  (wpAny_call_entry PyProof.Rows.slot_tuple_getitem ht.typeIs entry_tuple_getitem ?_ (args_tuple_getitem _ _)))
 show wpAny _ _ (Builtin.Tuple.tupleItemsOf (.ref t) >>= _) _ _ s;refine wpAny_bind (tupleItemsOf_ ht ?_);refine wpAny_bind (wpAny_typeOf hTs ?_);rw[if_pos (by decide)];refine wpAny_bind (zay hs pl pu ?_);have hno:¬ ((((sIx items.size 0 lo:Nat):Int) == 0 && (1:Int) == 1 && (sIx items.size items.size hi - sIx items.size 0 lo) == items.size)=true):=by
  intro q;rw[Bool.and_eq_true,Bool.and_eq_true] at q;have q1:((sIx items.size 0 lo:Nat):Int)=0:=eq_of_beq q.1.1;have q2:sIx items.size items.size hi - sIx items.size 0 lo=items.size:=eq_of_beq q.2;exact hw ⟨by omega,by omega⟩
 show wpAny _ _ (if (((sIx items.size 0 lo:Nat):Int) == 0 && (1:Int) == 1 && (sIx items.size items.size hi - sIx items.size 0 lo) == items.size)=true then _ else _) _ _ s;rw[if_neg hno,zgQ]
 first
  | exact wpAny_bind (m:=Builtin.Tuple.tupleExact _) (wpAny_newObj_type (wpAny_pure ⟨_,rfl,wpAny_pure h⟩) htake)
  | exact wpAny_bind (m:=Builtin.Tuple.tupleExact _) (wpAny_newObj_type (wpAny_bind (wpAny_pure (wpAny_pure ⟨_,rfl,wpAny_pure h⟩))) htake)
  | exact wpAny_bind (wpAny_bind (m:=Builtin.Tuple.tupleExact _) (wpAny_newObj_type (wpAny_pure (wpAny_pure ⟨_,rfl,wpAny_pure h⟩)) htake))
  | exact wpAny_bind (wpAny_bind (m:=Builtin.Tuple.tupleExact _) (wpAny_newObj_type (wpAny_pure ⟨_,rfl,wpAny_pure h⟩) htake))
end
end HT
namespace L2
open PySem PySem.Spec PyProof.Rows
abbrev TO:=St->Hp->(Option Int->Hp->Prop)->Prop
def PO (X:Cx) (e:Option Expr) (t:TO):Prop:=
 ∀(pins:List (Addr×Obj)) (s:Shared) (σ:St) (H:Hp) (Q:Option Int->Hp->Prop),Inv X pins σ H s->t σ H Q->
  wpAny (model X.prog X.w) X.A (evalPart e X.env) (fun u s'=>∃o H',Inv X pins σ H' s'/\IsPart u o/\Q o H') X.xe s
def zdS:TO:=fun _ H Q=>Q none H
def ziZ (t:TE):TO:=fun σ H Q=>t σ H fun x H1=>∃i,x=.int i/\Q (some i) H1
theorem intsAre_of {ns:List Int}:∀{us:List Value},Vals (ns.map V.int) us->IntsAre us ns:=by
 induction ns with
 | nil=>intro us r; rw[List.map_nil] at r; cases r; exact .nil
 | cons n ns ih=>
  intro us r;rw[List.map_cons] at r;cases r with
  | cons r1 r2=>
   obtain⟨t,e⟩:=r1;subst e;exact .cons n t (ih r2)
section
variable {X:Cx}{e:Expr}{te:TE}{lo hi:Option Expr}{tl th:TO}{pos p2:Pos}
theorem zbe:PO X none zdS:=by
 intro pins s σ H Q I h;rw[evalPart_none];exact wpAny_pure ⟨none,H,I,.none,h⟩
theorem zbk (h:PE X e te):PO X (some e) (ziZ te):=by
 intro pins s σ H Q I hw;rw[evalPart_some];refine thn (h pins s σ H _ I hw) fun u s1 ⟨x,H1,I1,r1,q1⟩=>?_;obtain⟨i,rfl,q⟩:=q1;obtain⟨t,rfl⟩:=r1;exact⟨some i,H1,I1,.int i t,q⟩
def SlR (X:Cx) (r:V->Option Int->Option Int->Hp->VK->Prop):Prop:=
 ∀(pins:List (Addr×Obj)) (s:Shared) (σ:St) (H:Hp) (x:V) (v vl vu:Value) (lo hi:Option Int) (sl:Addr) (Q:VK),Inv X pins σ H s->RelV x v->s.heap.IsSliceOf sl vl vu .none->IsPart vl lo->IsPart vu hi->r x lo hi H Q->
  ∃T id,typeLookup (.type T) "__getitem__"=pure (some (.builtin id))/\s.TypeIs v T/\wpAny (model X.prog X.w) X.A (getItem v (.ref sl)) (EP X pins σ Q) X.xe s
def tSl (r:V->Option Int->Option Int->Hp->VK->Prop) (te:TE) (tl th:TO):TE:=fun σ H Q=>te σ H fun x H1=>tl σ H1 fun l H2=>th σ H2 fun u H3=>r x l u H3 Q
theorem zaH {r:V->Option Int->Option Int->Hp->VK->Prop} (hr:SlR X r) (he:PE X e te) (hl:PO X lo tl) (hu:PO X hi th):PE X (.Subscript e (.Slice lo hi none p2) pos) (tSl r te tl th):=by
 intro pins s σ H Q I h;refine Subscript_ (thn (he pins s σ H _ I h) fun v s1 ⟨x,H1,I1,r1,q1⟩=>?_);refine wpAny_Slice (thn (hl pins s1 σ H1 _ I1 q1) fun vl s2 ⟨l,H2,I2,pl,q2⟩=>thn (hu pins s2 σ H2 _ I2 q2) fun vu s3 ⟨u,H3,I3,pu,q3⟩=>?_);rw[evalPart_none];refine wpAny_pure ?_;have I4:Inv X pins σ H3 { s3 with heap:=s3.heap.push { cls:=.type "slice",data:=.fields #[vl,vu,.none] } }:=I3.kept (t':=s3.toks) fun b ob q=>Heap.get?_push_of_some _ q;obtain⟨T,id,hT,ht,hg⟩:=hr pins { s3 with heap:=s3.heap.push { cls:=.type "slice",data:=.fields #[vl,vu,.none] } } σ H3 x v vl vu l u s3.heap.objs.size Q I4 r1 (Heap.IsSliceOf.new ..) pl pu q3;show wpAny (model X.prog X.w) X.A (subscriptTail e (.Slice lo hi none p2) v (.ref s3.heap.objs.size)) (EP X pins σ Q) X.xe { s3 with heap:=s3.heap.push { cls:=.type "slice",data:=.fields #[vl,vu,.none] } };exact tail_any (ops:=[.ref s3.heap.objs.size,v]) ht hT hg (by with_unfolding_all rfl)
def cutV (xs:List V) (lo hi:Option Int):List V:=(xs.drop (HT.sIx xs.length 0 lo)).take (HT.sIx xs.length xs.length hi - HT.sIx xs.length 0 lo)
theorem zb0 (xs:List V) (lo hi:Option Int):(cutV xs lo hi).length<=xs.length:=by
 unfold cutV;rw[List.length_take,List.length_drop];omega
def rSlT (K:PySem.W.Frag):V->Option Int->Option Int->Hp->VK->Prop:=fun x lo hi H Q=>∃a xs,x=.ref a/\SqT K H a xs/\
 ¬ (HT.sIx xs.length 0 lo=0/\HT.sIx xs.length xs.length hi=xs.length)/\∀p,H p=none->Q (.ref p) (upd H p (.tup (cutV xs lo hi)))
theorem zih:SlR X (rSlT X.K):=by
 intro pins s σ H x v vl vu lo hi sl Q I rx hs pl pu h;obtain⟨a,xs,rfl,hx,hw,q⟩:=h;cases rx;obtain⟨its,r,ht,hz⟩:=I.tuple hx;have hlen:its.toArray.size=xs.length:=by rw[List.size_toArray]; exact r.length.symm
 refine⟨"tuple",_,PyProof.Rows.slot_tuple_getitem.lookup,ht.typeIs,?_⟩;refine HT.zbj ht hs pl pu (by rw[hlen]; exact hw) ?_ (by rw[hlen]; exact hz);rw[hlen];refine⟨.ref s.heap.objs.size,_,I.laid (t':=s.toks) (o:=.tup (cutV xs lo hi)) (fun b ob q=>Heap.get?_push_of_some _ q) (Nat.le_refl _) ?_,rfl,q _ (I.hok.fresh (Nat.le_refl _))⟩;exact⟨Nat.le_trans (zb0 xs lo hi) hz,_,(r.drop (HT.sIx xs.length 0 lo)).take (HT.sIx xs.length xs.length hi - HT.sIx xs.length 0 lo),IsTup.new _ _⟩
theorem Vals.nil_iff {xs:List V}{us:List Value} (r:Vals xs us):us=[] ↔ xs=[]:=by
 cases r with
 | nil=>simp
 | cons _ _=>simp
end
end L2
namespace L2
open PySem PySem.Spec PyProof.Rows
def ixN (n:Nat) (i:Int):Option Nat:=if 0<=i then (if i<n then some i.toNat else none) else if -(n:Int)<=i then some (i+n).toNat else none
def atI {α:Type} (xs:List α) (i:Int):Option α:=(ixN xs.length i).bind fun j=>xs[j]?
theorem zfJ {n:Nat}{i:Int}{j:Nat} (h:ixN n i=some j):seqIndex? i n=some j/\j<n/\-(n:Int)<=i/\i<n:=by
 unfold ixN at h
 by_cases h0:0<=i
 ·rw[if_pos h0] at h
  by_cases h1:i<n
  ·rw[if_pos h1] at h
   have e:i.toNat=j:=Option.some.inj h;exact⟨by rw[seqIndex_of h0 h1,e],by omega,by omega,h1⟩
  ·rw[if_neg h1] at h; cases h
 ·rw[if_neg h0] at h
  by_cases h1:-(n:Int)<=i
  ·rw[if_pos h1] at h
   have e:(i+n).toNat=j:=Option.some.inj h;exact⟨by rw[seqIndex_neg (by omega) h1,e],by omega,h1,by omega⟩
  ·rw[if_neg h1] at h; cases h
theorem zfV {α:Type}{xs:List α}{i:Int}{v:α} (h:atI xs i=some v):∃j,seqIndex? i xs.length=some j/\xs[j]?=some v/\j<xs.length/\-(xs.length:Int)<=i/\i<xs.length:=by
 unfold atI at h;cases e:ixN xs.length i with
 | none=>rw[e] at h; cases h
 | some j=>
  rw[e] at h;obtain⟨h1,h2,h3,h4⟩:=zfJ e;exact⟨j,h1,h,h2,h3,h4⟩
theorem zq {α:Type}{xs:List α}{j:Nat}{v:α} (h:xs[j]?=some v):atI xs (j:Int)=some v:=by
 have hj:j<xs.length:=(List.getElem?_eq_some_iff.mp h).1;have e:ixN xs.length (j:Int)=some j:=by
  unfold ixN;rw[if_pos (by omega),if_pos (by omega)]; simp
 unfold atI; rw[e]; exact h
theorem zep {α:Type} (xs:List α) (v:α):atI (xs++[v]) (-1)=some v:=by
 have hl:(xs++[v]).length=xs.length+1:=by simp
 have e:ixN (xs++[v]).length (-1)=some xs.length:=by
  unfold ixN;rw[hl,if_neg (by decide),if_pos (by omega)]
  congr 1
  omega
 unfold atI;rw[e];show (xs++[v])[xs.length]?=some v;simp
def ziL (b:Expr):Prop:=∀o i,subscripted b false o i=operate [o,i] (getItem o i)
def IxR (X:Cx) (r:R2):Prop:=
 ∀(value slice:Expr) (pins:List (Addr×Obj)) (s:Shared) (σ:St) (H:Hp) (x y:V) (v u:Value) (Q:VK),Inv X pins σ H s->RelV x v->RelV y u->r x y H Q->
  subscripted slice false v u=operate [v,u] (getItem v u)->wpAny (model X.prog X.w) X.A (subscriptTail value slice v u) (EP X pins σ Q) X.xe s
def MtR (X:Cx) (id:String) (r:V->List V->Hp->VK->Prop):Prop:=
 ∀(pins:List (Addr×Obj)) (s:Shared) (σ:St) (H:Hp) (x:V) (xs:List V) (v:Value) (us:List Value) (Q:VK),Inv X pins σ H s->RelV x v->Vals xs us->r x xs H Q->
  wpAny (model X.prog X.w) X.A (call (.builtin id) (v::us)) (EP X pins σ Q) X.xe s
section
variable {X:Cx}{a b:Expr}{ta tb:TE}{pos:Pos}
theorem zx {r:R2} (hr:IxR X r) (ha:PE X a ta) (hb:PE X b tb) (hs:ziL b):PE X (.Subscript a b pos) (tOp r ta tb):=by
 intro pins s σ H Q I h;exact Subscript_ (binT ha hb I h fun v u s2 x y H2 I2 rx ry q=>hr a b pins s2 σ H2 x y v u Q I2 rx ry q (hs _ _))
def rIxL (K:PySem.W.Frag):R2:=fun x y H Q=>∃p xs i v,x=.ref p/\y=.int i/\SqL K H p xs/\atI xs i=some v/\Q v H
def rIxT (K:PySem.W.Frag):R2:=fun x y H Q=>∃p xs i v,x=.ref p/\y=.int i/\SqT K H p xs/\atI xs i=some v/\Q v H
theorem zK:IxR X (rIxL X.K):=by
 intro value slice pins s σ H x y v u Q I rx ry h hs;obtain⟨p,xs,i,z,rfl,rfl,hq,he,q⟩:=h;cases rx;obtain⟨t,rfl⟩:=ry;obtain⟨its,r,pl,hz⟩:=I.list hq;obtain⟨j,h1,h2,h3,h4,h5⟩:=zfV he;obtain⟨w,ew,rw'⟩:=r.get h2;have hl:=r.length;have hn:=line63;have fin:EP X pins σ Q w s:=⟨z,H,I,rw',q⟩
 by_cases h0:0<=i
 ·have hj:i.toNat=j:=by
   rw[seqIndex_of h0 h5] at h1;exact Option.some.inj h1
  exact item_listR pl.isList h0 (by omega) (by rw[hj]; simpa using ew) fin hs
 ·have hj:(i+(its.toArray.size:Int)).toNat=j:=by
   rw[seqIndex_neg (by omega) h4] at h1;rw[List.size_toArray,<- hl];exact Option.some.inj h1
  exact subscriptTail_builtinR (x:=w) pl.isList.typeIs slot_list_getitem.lookup
   (wpAny_getItem_list_neg (Q:=fun r s'=>r=w/\EP X pins σ Q r s') pl.isList (by omega) (by rw[List.size_toArray] <;> omega) (by omega) (by rw[hj]; simpa using ew) ⟨rfl,fin⟩) hs
theorem zB:IxR X (rIxT X.K):=by
 intro value slice pins s σ H x y v u Q I rx ry h hs;obtain⟨p,xs,i,z,rfl,rfl,hq,he,q⟩:=h;cases rx;obtain⟨t,rfl⟩:=ry;obtain⟨its,r,pl,hz⟩:=I.tuple hq;obtain⟨j,h1,h2,h3,h4,h5⟩:=zfV he;obtain⟨w,ew,rw'⟩:=r.get h2;have hl:=r.length;have hn:=line63;have fin:EP X pins σ Q w s:=⟨z,H,I,rw',q⟩;exact subscriptTail_builtinR (x:=w) pl.typeIs slot_tuple_getitem.lookup
  (getItem_tuple (j:=j) (Q:=fun r s'=>r=w/\EP X pins σ Q r s') pl (by omega) (by omega) (by rw[List.size_toArray,<- hl]; exact h1) (by simpa using ew) ⟨rfl,fin⟩) hs
theorem ze2 (its:List Value) (n j:Nat) (u:Value):Obj.mapSeq (·.setIfInBounds j u) { cls:=.type "list",data:=.seq its.toArray n }={ cls:=.type "list",data:=.seq (its.set j u).toArray n }:=by
 simp[Obj.mapSeq]
theorem Inv.lst {pins:List (Addr×Obj)}{σ:St}{H:Hp}{s:Shared}{p:Addr}{xs:List V} (I:Inv X pins σ H s) (h:H p=some (.lst xs)) :
  ∃(its:List Value) (n:Nat),Vals xs its/\s.heap.get? p=some { cls:=.type "list",data:=.seq its.toArray n }/\xs.length<=sizeLine:=by
 obtain⟨z,its,n,r,e⟩:=I.hok p _ h;exact⟨its,n,r,e,z⟩
theorem Inv.lstUpd {pins:List (Addr×Obj)}{σ:St}{H:Hp}{s:Shared}{p:Addr}{xs ys:List V}{its its':List Value}{n n':Nat}{f:Obj->Obj} (I:Inv X pins σ H s) (h:H p=some (.lst xs))
  (ho:s.heap.get? p=some { cls:=.type "list",data:=.seq its.toArray n }) (hf:f { cls:=.type "list",data:=.seq its.toArray n }={ cls:=.type "list",data:=.seq its'.toArray n' }) (r:Vals ys its') (hz:ys.length<=sizeLine) (t:Nat) :
  Inv X pins σ (upd H p (.lst ys)) { s with heap:=s.heap.update p f,toks:=t }:=by
 have e:(s.heap.update p f).get? p=some { cls:=.type "list",data:=.seq its'.toArray n' }:=by
  rw[Heap.get?_update_self f ho (by rw[hf] <;> rfl),hf]
 refine I.write (x:=p) (e:=p) (by rw[h]; trivial) (.inl rfl) (fun b u hb q=>(Heap.get?_update_other _ _ (Ne.symm hb)).trans q) ⟨_,e⟩ ?_;exact⟨hz,its',n',r,e⟩
def zkv:V->V->V->Hp->(Hp->Prop)->Prop:=fun o i v H Q=>∃p xs k j,o=.ref p/\i=.int k/\H p=some (.lst xs)/\ixN xs.length k=some j/\Q (upd H p (.lst (xs.set j v)))
theorem set_list:PSet X zkv:=by
 intro pins s σ H o i v ov iv u Q I ro ri rv h;obtain⟨p,xs,k,j,rfl,rfl,hp,hj,q⟩:=h;cases ro;obtain⟨t,rfl⟩:=ri;obtain⟨its,n,r,ho,hz⟩:=I.lst hp;obtain⟨h1,h2,h3,h4⟩:=zfJ hj;have hl:=r.length;have hn:=line63;have I':Inv X pins σ (upd H p (.lst (xs.set j v))) { s with heap:=s.heap.update p (Obj.mapSeq (·.setIfInBounds j u)) }:=
  I.lstUpd hp ho (ze2 its n j u) (r.set rv j) (by rw[List.length_set]; exact hz) s.toks
 by_cases h0:0<=k
 ·have hk:k.toNat=j:=by
   rw[seqIndex_of h0 h4] at h1;exact Option.some.inj h1
  exact PySem.W.ki_setAt ho h0 (by omega) (by rw[List.size_toArray,<- hl]; exact h4) (by rw[hk]; exact⟨_,I',q⟩)
 ·have hk:(k+(its.toArray.size:Int)).toNat=j:=by
   rw[seqIndex_neg (by omega) h3] at h1;rw[List.size_toArray,<- hl];exact Option.some.inj h1
  exact PySem.W.ki_setBack ho (by omega) (by rw[List.size_toArray,<- hl]; exact h3) (by omega) (by rw[hk]; exact⟨_,I',q⟩)
theorem zdc (lo hi:Option Int) (n:Nat):(sliceBounds lo hi none n).1=((HT.sIx n 0 lo:Nat):Int)/\(sliceBounds lo hi none n).2.1=((HT.sIx n n hi:Nat):Int)/\(sliceBounds lo hi none n).2.2=1:=by
 refine⟨?_,?_,rfl⟩
 ·cases lo with
  | none=>simp[sliceBounds,HT.sIx]
  | some i=>
   simp only[sliceBounds,HT.sIx,Option.getD_none,show (1:Int) > 0 by decide,if_true]
   by_cases h:i<0
   ·simp only[h,if_true] <;> omega
   ·simp only[h,if_false] <;> omega
 ·cases hi with
  | none=>simp[sliceBounds,HT.sIx]
  | some i=>
   simp only[sliceBounds,HT.sIx,Option.getD_none,show (1:Int) > 0 by decide,if_true]
   by_cases h:i<0
   ·simp only[h,if_true] <;> omega
   ·simp only[h,if_false] <;> omega
theorem zcH (its:List Value) (lo hi:Option Int):slicePick its.toArray lo hi none=((its.drop (HT.sIx its.length 0 lo)).take (HT.sIx its.length its.length hi - HT.sIx its.length 0 lo)).toArray:=by
 obtain⟨h1,h2,h3⟩:=zdc lo hi its.toArray.size;unfold slicePick;rw[h1,h2,h3];simp only[sliceRange_one,pick_run,List.size_toArray] <;> rfl
def rSlL (K:PySem.W.Frag):V->Option Int->Option Int->Hp->VK->Prop:=fun x lo hi H Q=>∃a xs,x=.ref a/\SqL K H a xs/\∀p,H p=none->Q (.ref p) (upd H p (.lst (cutV xs lo hi)))
theorem zjb:SlR X (rSlL X.K):=by
 intro pins s σ H x v vl vu lo hi sl Q I rx hs pl pu h;obtain⟨a,xs,rfl,hx,q⟩:=h;cases rx;obtain⟨its,r,ht,hz⟩:=I.list hx;have hlen:=r.length;refine⟨"list",_,slot_list_getitem.lookup,ht.isList.typeIs,?_⟩;refine wpAny_getItem_list_slice ht.isList hs pl pu .none (by simp) ?_ (by rw[List.size_toArray] <;> omega);rw[zcH,<- hlen];refine⟨.ref s.heap.objs.size,_,I.laid (t':=s.toks) (o:=.lst (cutV xs lo hi)) (fun b ob q=>Heap.get?_push_of_some _ q) (Nat.le_refl _) ?_,rfl,q _ (I.hok.fresh (Nat.le_refl _))⟩;exact⟨Nat.le_trans (zb0 xs lo hi) hz,_,0,(r.drop (HT.sIx xs.length 0 lo)).take (HT.sIx xs.length xs.length hi - HT.sIx xs.length 0 lo),Heap.get?_push_size _ rfl⟩
theorem zk:zaz X (.builtin "len") (fun xs H Q=>∃p ys,xs=[.ref p]/\(SqL X.K H p ys \/ SqT X.K H p ys)/\Q (.int ys.length) H):=by
 intro pins s σ H xs us Q I r h;obtain⟨p,ys,rfl,hq,q⟩:=h;obtain⟨u,rfl,rx⟩:=vals1 r;cases rx;have hn:=line63;rcases hq with hq | hq
 ·obtain⟨its,r',pl,hz⟩:=I.list hq
  have hlen:=r'.length;exact Calls.call_len_list pl.isList (by simp only[List.size_toArray] <;> omega) ⟨.int ys.length,H,I.tok _,⟨s.toks+1,by rw[List.size_toArray,hlen]⟩,q⟩
 ·obtain⟨its,r',pl,hz⟩:=I.tuple hq
  have hlen:=r'.length;exact len_tuple pl (by simp only[List.size_toArray] <;> omega) ⟨.int ys.length,H,I.tok _,⟨s.toks+1,by rw[List.size_toArray,hlen]⟩,q⟩
theorem zaF:zaz X (.type "list") (fun xs H Q=>∃p ys,xs=[.ref p]/\(SqL X.K H p ys \/ SqT X.K H p ys)/\∀l,H l=none->Q (.ref l) (upd H l (.lst ys))):=by
 intro pins s σ H xs us Q I r h;obtain⟨p,ys,rfl,hq,q⟩:=h;obtain⟨u,rfl,rx⟩:=vals1 r;cases rx;have fin:∀(its:List Value),Vals ys its->ys.length<=sizeLine->∀(h':Heap) (c':Nat),(∀b o',s.heap.get? b=some o'->h'.get? b=some o')->
   h'.get? s.heap.objs.size=some { cls:=.type "list",dict:=none,data:=.seq its.toArray c',slots:=#[] }->EP X pins σ Q (.ref s.heap.objs.size) { s with heap:=h' }:=fun its r' hz h' c' kp e=>
  ⟨.ref s.heap.objs.size,_,I.laid (t':=s.toks) kp (Nat.le_refl _) (show zI X.prog X.w _ h' _ (.lst ys) from ⟨hz,its,c',r',e⟩),rfl,q _ (I.hok.fresh (Nat.le_refl _))⟩
 rcases hq with hq | hq
 ·obtain⟨its,r',pl,hz⟩:=I.list hq
  have hlen:=r'.length;obtain⟨o,ho,hc,n,hd⟩:=pl.isList;exact call_list_seq p (.inl rfl) ho hc hd (fun h' c' kp e=>fin its r' hz h' c' kp e) (by simp only[List.size_toArray] <;> omega)
 ·obtain⟨its,r',pl,hz⟩:=I.tuple hq
  have hlen:=r'.length;obtain⟨o,ho,hc,n,hd⟩:=pl;exact call_list_seq p (.inr rfl) ho hc hd (fun h' c' kp e=>fin its r' hz h' c' kp e) (by simp only[List.size_toArray] <;> omega)
theorem zax:zaz X (.type "tuple") (fun xs H Q=>∃p ys,xs=[.ref p]/\((SqL X.K H p ys/\∀l,H l=none->Q (.ref l) (upd H l (.tup ys))) \/ (SqT X.K H p ys/\Q (.ref p) H))):=by
 intro pins s σ H xs us Q I r h;obtain⟨p,ys,rfl,h⟩:=h;obtain⟨u,rfl,rx⟩:=vals1 r;cases rx;rcases h with ⟨hq,q⟩ | ⟨hq,q⟩
 ·obtain⟨its,r',pl,hz⟩:=I.list hq
  have hlen:=r'.length;refine call_tuple_list pl.isList (fun h' kp=>?_) (by simp only[List.size_toArray] <;> omega);have I1:Inv X pins σ H { s with heap:=h' }:=I.kept (t':=s.toks) kp;have I2:Inv X pins σ (upd H h'.objs.size (.tup ys)) { s with heap:=h'.push { cls:=.type "tuple",data:=.seq its.toArray } }:=
   I1.laid (t':=s.toks) (fun b o e=>Heap.get?_push_of_some _ e) (Nat.le_refl _) (show zI X.prog X.w _ _ _ (.tup ys) from ⟨hz,its,r',IsTup.new _ _⟩)
  exact⟨.ref h'.objs.size,_,I2,rfl,q _ (I1.hok.fresh (Nat.le_refl _))⟩
 ·obtain⟨its,r',pl,hz⟩:=I.tuple hq
  exact call_tuple_same pl ⟨.ref p,H,I,rfl,q⟩
def tyV (K:PySem.W.Frag) (T:String) (x:V) (H:Hp):Prop:=match x with
 | .str _=>T="str"
 | .int _=>T="int"
 | .ref p=>(T="list"/\∃xs,SqL K H p xs) \/ (T="tuple"/\∃o,K.lookup p=some o/\o.cls=.type "tuple"/\o.dict=none) \/
   (T="dict"/\((∃kvs,H p=some (.dK kvs)) \/ ∃kvs,H p=some (.dT kvs))) \/ (T="set"/\∃S n,H p=some (.set S n))
 | _=>False
theorem zh8 {pins:List (Addr×Obj)}{σ:St}{H:Hp}{s:Shared}{T:String}{x:V}{v:Value} (I:Inv X pins σ H s) (r:RelV x v) (ty:tyV X.K T x H) :
  s.TypeIs v T/\∀a,v=.ref a->∃ob,s.heap.get? a=some ob/\ob.dict=none:=by
 cases x with
 | str z=>
  obtain⟨t,rfl⟩:=r;cases (show T="str" from ty);exact⟨typeIs_str s z t,fun _ e=>nomatch e⟩
 | int i=>
  obtain⟨t,rfl⟩:=r;cases (show T="int" from ty);exact⟨typeIs_int s i t,fun _ e=>nomatch e⟩
 | ref p=>
  cases r;rcases ty with ⟨rfl,xs,hq⟩ | ⟨rfl,o,hk,hc,hd⟩ | ⟨rfl,hk⟩ | ⟨rfl,S,n,hk⟩
  ·obtain⟨its,_,pl,_⟩:=I.list hq
   refine⟨pl.isList.typeIs,fun a e=>?_⟩;cases e;obtain⟨o,n,e,c,hd,_⟩:=pl;exact⟨o,e,hd⟩
  ·refine⟨⟨o,I.kIn p o hk,hc⟩,fun a e=>?_⟩
   cases e;exact⟨o,I.kIn _ o hk,hd⟩
  ·have z:∃o,s.heap.get? p=some o/\o.ExactDict:=by
    rcases hk with ⟨kvs,hk⟩ | ⟨kvs,hk⟩
    ·obtain⟨_,_,_,_,o,_,_,e,ex,_⟩:=I.hok p _ hk
     exact⟨o,e,ex⟩
    ·obtain⟨_,_,_,_,o,_,_,e,ex,_⟩:=I.hok p _ hk
     exact⟨o,e,ex⟩
   obtain⟨o,e,ex⟩:=z;refine⟨⟨o,e,ex.1⟩,fun a e2=>?_⟩;cases e2;exact⟨o,e,ex.2.1⟩
  ·obtain⟨o,_,_,_,e,ex,_⟩:=I.hok p _ hk
   refine⟨⟨o,e,ex.1⟩,fun a e2=>?_⟩;cases e2;exact⟨o,e,ex.2.1⟩
 | _=>exact False.elim ty
def tBM0 (K:PySem.W.Frag) (T:String) (r:V->List V->Hp->VK->Prop) (to:TE):TE:=fun σ H Q=>to σ H fun x H1=>tyV K T x H1/\r x [] H1 Q
def tBM (K:PySem.W.Frag) (T:String) (r:V->List V->Hp->VK->Prop) (to:TE) (t:TA):TE:=fun σ H Q=>to σ H fun x H1=>tyV K T x H1/\t σ H1 fun xs H2=>r x xs H2 Q
variable {o e:Expr}{es:List Expr}{to:TE}{t:TA}{name:Str}{apos cpos:Pos}{T id:String}{r:V->List V->Hp->VK->Prop}
theorem zjo (pa:PlainAttrs T) (slot:Slot T name id) (hty:typeOf (.builtin id)=pure (.type "method_descriptor")) (hm:MtR X id r) (ho:PE X o to)
  (hbase:attributeBase o name X.env (eval o X.env)=eval o X.env:=by rfl) (hline:(apos.endLine == cpos.line)=true:=by rfl):PE X (.Call (.Attribute o name apos) [] [] cpos) (tBM0 X.K T r to):=by
 intro pins s σ H Q I h;refine wpAny_Call_method0_late hbase hline (thn (ho pins s σ H _ I h) fun v s1 ⟨x,H1,I1,r1,ty,q1⟩=>?_);obtain⟨h1,h2⟩:=zh8 I1 r1 ty;exact⟨T,id,pa,slot,hty,h1,h2,Calls.callWith_builtin rfl (PySem.evalArgs_none (hm pins s1 σ H1 x [] v [] Q I1 r1 .nil q1))⟩
theorem zch (pa:PlainAttrs T) (slot:Slot T name id) (hty:typeOf (.builtin id)=pure (.type "method_descriptor")) (hm:MtR X id r) (ho:PE X o to) (ha:PA X (e::es) t)
  (hbase:attributeBase o name X.env (eval o X.env)=eval o X.env:=by rfl)
  (hfew:((backTo cpos (starEach (e::es) X.env)).all (fun x=>!x.1) && (backToKw cpos (keywordEach [] X.env)).all (fun x=>x.1.isSome)
   && decide ((e::es).length+([]:List Keyword).length+(if ([]:List Keyword).isEmpty then 0 else 1)<30))=true:=by rfl)
  (hline:(apos.endLine == cpos.line)=true:=by rfl) (hs:starEach (e::es) X.env=(false,eval e X.env)::starEach es X.env:=by rfl) (hplain:(backTo cpos (starEach es X.env)).any (·.1)=false:=by rfl) :
  PE X (.Call (.Attribute o name apos) (e::es) [] cpos) (tBM X.K T r to t):=by
 intro pins s σ H Q I h;refine wpAny_Call_method_late hbase hfew hline rfl (thn (ho pins s σ H _ I h) fun v s1 ⟨x,H1,I1,r1,ty,q1⟩=>?_);obtain⟨h1,h2⟩:=zh8 I1 r1 ty;refine⟨T,id,pa,slot,hty,h1,h2,?_⟩;have hA:=ha cpos pins s1 σ H1 _ I1 q1;rw[hs] at hA ⊢;refine Calls.callWith_builtin (by show (false || (backTo cpos (starEach es X.env)).any (·.1))=false; rw[hplain] <;> rfl) (Calls.evalArgs_plain ?_);exact thn hA fun us s2 ⟨vs,H2,I2,r2,q2⟩=>hm pins s2 σ H2 x vs v us Q I2 r1 r2 q2
/- xs.append(e),list.index on a module's tuple .. are MtR facts of 06m -/
end
end L2
namespace L2
open PySem PySem.Spec PyProof.Rows
def MtM (X:Cx) (id:String) (r:V->List V->Hp->VK->Prop):Prop:=
 ∀(pins:List (Addr×Obj)) (s:Shared) (σ:St) (H:Hp) (x:V) (xs:List V) (v:Value) (us:List Value) (Q:VK),Inv X pins σ H s->RelV x v->Vals xs us->r x xs H Q->
  wpAny (model X.prog X.w) X.A (call (.builtin id) (v::us)) (EP X pins σ Q) X.xe s
theorem Vals.one {x:V}{us:List Value} (h:Vals [x] us):∃u,us=[u]/\RelV x u:=by
 cases h with | cons r t=>cases t; exact⟨_,rfl,r⟩
theorem Vals.two {x y:V}{us:List Value} (h:Vals [x,y] us):∃u v,us=[u,v]/\RelV x u/\RelV y v:=by
 cases h with | cons r t=>obtain⟨v,rfl,q⟩:=Vals.one t; exact⟨_,_,rfl,r,q⟩
theorem Vals.zero:∀{us:List Value},Vals [] us->us=[]
 | _,.nil=>rfl
theorem Vals.dropLast {xs:List V}{us:List Value} (h:Vals xs us):Vals xs.dropLast us.dropLast:=by
 induction h with
 | nil=>exact .nil
 | cons r t ih=>
  cases t with
  | nil=>exact .nil
  | cons q t'=>exact .cons r ih
theorem Vals.eraseIdx:∀{xs:List V}{us:List Value} (i:Nat),Vals xs us->Vals (xs.eraseIdx i) (us.eraseIdx i)
 | _,_,_,.nil=>.nil
 | _,_,0,.cons _ t=>t
 | _,_,i+1,.cons r t=>.cons r (Vals.eraseIdx i t)
theorem zfe {α:Type} (l:List α):l.eraseIdx (l.length - 1)=l.dropLast:=by
 induction l with
 | nil=>rfl
 | cons a r ih=>
  cases r with
  | nil=>rfl
  | cons b r=>
   have e:(a::b::r).length - 1=((b::r).length - 1)+1:=by
    have h1:(a::b::r).length=r.length+2:=rfl;have h2:(b::r).length=r.length+1:=rfl;omega
   rw[e,List.eraseIdx_cons_succ,ih]
   all_goals rfl
section
variable {X:Cx}{pins:List (Addr×Obj)}{σ:St}{H:Hp}{s:Shared}{l b:Addr}{xs ys zs:List V}
theorem Inv.lset {its its':List Value}{n:Nat}{f:Array Value->Array Value}{t':Nat} (I:Inv X pins σ H s) (hH:H l=some (.lst xs))
  (e:s.heap.get? l=some { cls:=.type "list",data:=.seq its.toArray n }) (hf:f its.toArray=its'.toArray) (hv:Vals ys its') (hz:ys.length<=sizeLine) :
  Inv X pins σ (upd H l (.lst ys)) { s with heap:=s.heap.update l (Obj.mapSeq f),toks:=t' }:=by
 have q:=PySem.IsL.update e f;rw[hf] at q;refine I.write (x:=l) (e:=l) (by rw[hH]; exact trivial) (.inl rfl) (fun b' u hb hu=>(Heap.get?_update_other s.heap (Obj.mapSeq f) (Ne.symm hb)).trans hu) ⟨_,q⟩ ?_;exact⟨hz,its',_,hv,q⟩
theorem Inv.lnew {its:List Value}{t':Nat} (I:Inv X pins σ H s) (hv:Vals ys its) (hz:ys.length<=sizeLine) :
  Inv X pins σ (upd H s.heap.objs.size (.lst ys)) { s with heap:=s.heap.push { cls:=.type "list",data:=.seq its.toArray },toks:=t' }:=
 I.laid (fun _ _ q=>Heap.get?_push_of_some _ q) (Nat.le_refl _) ⟨hz,its,0,hv,Heap.get?_push_size _ rfl⟩
theorem Inv.fresh (I:Inv X pins σ H s):H s.heap.objs.size=none:=I.hok.fresh (Nat.le_refl _)
theorem Inv.lstM (I:Inv X pins σ H s) (hH:H l=some (.lst xs)):xs.length<=sizeLine/\∃(its:List Value) (n:Nat),Vals xs its/\xs.length=its.length/\s.heap.get? l=some { cls:=.type "list",data:=.seq its.toArray n }:=by
 obtain⟨z,its,n,r,e⟩:=I.hok l _ hH;exact⟨z,its,n,r,r.length,e⟩
end
section
variable {X:Cx}
def ziC:V->List V->Hp->VK->Prop:=fun x vs H Q=>∃l xs y,x=.ref l/\vs=[y]/\H l=some (.lst xs)/\xs.length<sizeLine/\Q .non (upd H l (.lst (xs++[y])))
theorem zac:MtM X "list.append" ziC:=by
 intro pins s σ H x vs v us Q I rx rv h;obtain⟨l,xs,y,rfl,rfl,hH,hz,q⟩:=h;cases rx;obtain⟨u,rfl,ru⟩:=rv.one;obtain⟨z,its,n,r,hl,e⟩:=I.lstM hH;refine call_meets F.slot_list_append ⟨_,e,rfl⟩ F.entry_list_append (F.args_list_append_2 _ _) (PySem.list_append l its.toArray n u (by rw[List.size_toArray]; omega)) ⟨e,?_⟩;refine⟨.non,_,I.lset (its':=its++[u]) hH e (by simp) (r.append (.cons ru .nil)) ?_,rfl,q⟩;rw[List.length_append,List.length_singleton];omega
def rPop:V->List V->Hp->VK->Prop:=fun x vs H Q=>∃l xs y,x=.ref l/\vs=[]/\H l=some (.lst xs)/\xs[xs.length - 1]?=some y/\Q y (upd H l (.lst xs.dropLast))
theorem zj1:MtM X "list.pop" rPop:=by
 intro pins s σ H x vs v us Q I rx rv h;obtain⟨l,xs,y,rfl,rfl,hH,hy,q⟩:=h;cases rx;have hus:=rv.zero;subst hus;obtain⟨z,its,n,r,hl,e⟩:=I.lstM hH;obtain⟨u,hu,ru⟩:=r.get hy;have hy':its.toArray[its.toArray.size - 1]?=some u:=by
  show its.toArray[its.length - 1]?=some u;rw[<- Array.getElem?_toList,<- hl];exact hu
 refine call_meets F.slot_list_pop ⟨_,e,rfl⟩ F.entry_list_pop (F.args_list_pop_1 _) (MeetsSeq.list_pop_last l its.toArray n u hy' (by rw[List.size_toArray]; omega)) ⟨e,?_⟩;refine⟨y,_,I.lset (its':=its.dropLast) hH e ?_ r.dropLast ?_,ru,q⟩
 ·show its.toArray.eraseIdxIfInBounds (its.toArray.size - 1)=its.dropLast.toArray
  rw[List.size_toArray,List.eraseIdxIfInBounds_toArray,zfe]
 ·rw[List.length_dropLast]
  omega
def rCat:R2:=fun x y H Q=>∃l b xs zs,x=.ref l/\y=.ref b/\H l=some (.lst xs)/\H b=some (.lst zs)/\xs.length+zs.length<=sizeLine/\∀p,H p=none->Q (.ref p) (upd H p (.lst (xs++zs)))
theorem zbW:OpR X (binaryOp .Add) rCat:=by
 intro pins s σ H x y v u Q I rx ry h;obtain⟨l,b,xs,zs,rfl,rfl,hH,hB,hz,q⟩:=h;cases rx;cases ry;obtain⟨z,its,n,r,hl,e⟩:=I.lstM hH;obtain⟨z2,its2,n2,r2,hl2,e2⟩:=I.lstM hB;refine PySem.P.add_list e e2 ?_ (by rw[List.size_toArray,List.size_toArray]; omega);have ea:its.toArray++its2.toArray=(its++its2).toArray:=by simp
 rw[ea];exact⟨.ref _,_,I.lnew (t':=s.toks) (r.append r2) (by rw[List.length_append]; omega),rfl,q _ I.fresh⟩
end
section
variable {prog:Program}{w:World}{A:Around}{E:Value->Shared->Prop}{s:Shared}
set_option maxRecDepth 100000 in
end
section
variable {X:Cx}
end
end L2
namespace L2
open PySem PySem.Spec PyProof.Rows
section
variable {κ:Type} [DecidableEq κ]
def valV (kvs:List (κ×V)) (k:κ):Option V:=(kvs.find? fun kv=>decide (kv.1=k)).map (·.2)
def putK (kvs:List (κ×V)) (k:κ) (v:V):List (κ×V):=
 if (kvs.any fun kv=>decide (kv.1=k))=true then kvs.map (fun kv=>if kv.1=k then (kv.1,v) else kv) else kvs++[(k,v)]
def zkJ (kvs:List (κ×V)) (k:κ):List (κ×V):=kvs.filter fun kv=>decide (kv.1≠k)
theorem zbE {p:κ×V}{r:List (κ×V)}{k:κ} (e:p.1=k):valV (p::r) k=some p.2:=by simp[valV,List.find?_cons,e]
theorem za0 {p:κ×V}{r:List (κ×V)}{k:κ} (e:¬ p.1=k):valV (p::r) k=valV r k:=by simp[valV,List.find?_cons,e]
theorem zbJ (k:κ):∀kvs:List (κ×V),(kvs.any fun kv=>decide (kv.1=k))=(valV kvs k).isSome
 | []=>rfl
 | p::r=>by
  rw[List.any_cons]
  by_cases e:p.1=k
  ·simp only[zbE e,decide_eq_true e,Bool.true_or,Option.isSome_some]
  ·rw[za0 e,decide_eq_false e,Bool.false_or]; exact zbJ k r
theorem zb3 (kvs:List (κ×V)) (k:κ) (v:V):(putK kvs k v).length<=kvs.length+1:=by
 unfold putK;split
 ·rw[List.length_map]; omega
 ·rw[List.length_append,List.length_cons,List.length_nil]; omega
theorem zhI {kvs:List (κ×V)}{k:κ} (v:V) (h:valV kvs k=none):putK kvs k v=kvs++[(k,v)]:=by
 unfold putK;rw[zbJ,h];exact if_neg (by decide)
theorem RelO.isSome_eq {o:Option V}{u:Option Value} (r:RelO o u):o.isSome=u.isSome:=by
 cases o with
 | none=>cases u with
  | none=>rfl
  | some _=>exact (show False from r).elim
 | some _=>cases u with
  | none=>exact (show False from r).elim
  | some _=>rfl
theorem KV.val {kvs:List (κ×V)}{vs:List (κ×Value)} (r:KV kvs vs) (k:κ):RelO (valV kvs k) (valueAt vs k):=by
 unfold KV at r
 induction r with
 | nil=>exact True.intro
 | @cons p q ps qs h t ih=>
  obtain⟨h1,h2⟩:=h
  by_cases e:p.1=k
  ·have e':q.1=k:=h1.symm.trans e
   have b:valueAt (q::qs) k=some q.2:=by simp[valueAt,List.find?_cons,e']
   rw[zbE e,b]; exact h2
  ·have e':¬ q.1=k:=fun z=>e (h1.trans z)
   have b:valueAt (q::qs) k=valueAt qs k:=by simp[valueAt,List.find?_cons,e']
   rw[za0 e,b]; exact ih
theorem KV.any {kvs:List (κ×V)}{vs:List (κ×Value)} (r:KV kvs vs) (k:κ):(kvs.any fun kv=>decide (kv.1=k))=vs.any fun kv=>decide (kv.1=k):=by
 unfold KV at r
 induction r with
 | nil=>rfl
 | cons h t ih=>rw[List.any_cons,List.any_cons,ih,h.1]
theorem KV.repl {kvs:List (κ×V)}{vs:List (κ×Value)} (r:KV kvs vs) (k:κ) {y:V}{u:Value} (ry:RelV y u) :
  KV (kvs.map fun kv=>if kv.1=k then (kv.1,y) else kv) (vs.map fun kv=>if kv.1=k then (kv.1,u) else kv):=by
 unfold KV at r ⊢
 induction r with
 | nil=>exact .nil
 | @cons p q ps qs h t ih=>
  rw[List.map_cons,List.map_cons];refine .cons ?_ ih;obtain⟨h1,h2⟩:=h
  by_cases e:p.1=k
  ·rw[if_pos e,if_pos (h1.symm.trans e)]; exact⟨h1,ry⟩
  ·rw[if_neg e,if_neg (fun z=>e (h1.trans z))]; exact⟨h1,h2⟩
theorem KV.put {kvs:List (κ×V)}{vs:List (κ×Value)} (r:KV kvs vs) (k:κ) {y:V}{u:Value} (ry:RelV y u):KV (putK kvs k y) (stored vs k u):=by
 unfold putK stored;rw[r.any k]
 by_cases e:(vs.any fun kv=>decide (kv.1=k))=true
 ·rw[if_pos e,if_pos e]; exact r.repl k ry
 ·rw[if_neg e,if_neg e]; exact Paired.snoc r ⟨rfl,ry⟩
theorem KV.length {kvs:List (κ×V)}{vs:List (κ×Value)} (r:KV kvs vs):kvs.length=vs.length:=Paired.length r
end
theorem zf8 {P:Program}{w:World}{k:Key}{u:Value} (r:RelV (kV k) u):(zA P w).is k u=true:=by
 cases k with
 | inl i=>obtain⟨t,e⟩:=(show ∃t,u=Value.int i t from r); subst e; exact zaU P w i t
 | inr x=>obtain⟨t,e⟩:=(show ∃t,u=Value.str x t from r); subst e; exact zdI P w x t
theorem zdm {P:Program}{w:World}:∀{ks:List Key}{us:List Value},Vals (ks.map kV) us->ItemsAre (zA P w) ks us
 | [],_,r=>by rw[List.map_nil] at r; cases r; exact .nil
 | k::ks,_,r=>by
  rw[List.map_cons] at r;cases r with
  | cons h t=>exact .cons (zf8 h) (zdm t)
abbrev KT (H:Hp):List (List Key×V)->List (List Key×Addr×Value)->Prop:=Paired fun p q=>p.1=q.1/\H q.2.1=some (.tup (p.1.map kV))/\RelV p.2 q.2.2
theorem KT.val {H:Hp}{kvs:List (List Key×V)}{xs:List (List Key×Addr×Value)} (r:KT H kvs xs) (k:List Key):RelO (valV kvs k) ((atKey xs k).map (·.2)):=by
 induction r with
 | nil=>exact True.intro
 | @cons p q ps qs h t ih=>
  obtain⟨h1,_,h2⟩:=h
  by_cases e:p.1=k
  ·have e':q.1=k:=h1.symm.trans e
   have b:atKey (q::qs) k=some q.2:=by simp[atKey,List.find?_cons,e']
   rw[zbE e,b]; exact h2
  ·have e':¬ q.1=k:=fun z=>e (h1.trans z)
   have b:atKey (q::qs) k=atKey qs k:=by simp[atKey,List.find?_cons,e']
   rw[za0 e,b]; exact ih
theorem KT.repl {H:Hp}{kvs:List (List Key×V)}{xs:List (List Key×Addr×Value)} (r:KT H kvs xs) (k:List Key) {y:V}{u:Value} (ry:RelV y u) :
  KT H (kvs.map fun kv=>if kv.1=k then (kv.1,y) else kv) (xs.map (putAt k u)):=by
 induction r with
 | nil=>exact .nil
 | @cons p q ps qs h t ih=>
  rw[List.map_cons,List.map_cons];refine .cons ?_ ih;obtain⟨h1,h2,h3⟩:=h;unfold putAt
  by_cases e:p.1=k
  ·rw[if_pos e,if_pos (h1.symm.trans e)]; exact⟨h1,h2,ry⟩
  ·rw[if_neg e,if_neg (fun z=>e (h1.trans z))]; exact⟨h1,h2,h3⟩
theorem KT.put {H:Hp}{kvs:List (List Key×V)}{xs:List (List Key×Addr×Value)} (r:KT H kvs xs) (k:List Key) {b:Addr}{y:V}{u:Value} (hb:H b=some (.tup (k.map kV))) (ry:RelV y u) :
  KT H (putK kvs k y) (storedH xs k b u):=by
 have e:(kvs.any fun kv=>decide (kv.1=k))=(atKey xs k).isSome:=by
  rw[zbJ,(r.val k).isSome_eq,Option.isSome_map]
 unfold putK storedH;rw[e]
 by_cases q:(atKey xs k).isSome=true
 ·rw[if_pos q,if_pos q]; exact r.repl k ry
 ·rw[if_neg q,if_neg q]; exact Paired.snoc r ⟨rfl,hb,ry⟩
theorem KT.keeps {H H':Hp}{kvs:List (List Key×V)}{xs:List (List Key×Addr×Value)} (r:KT H kvs xs) (ht:∀b ys,H b=some (.tup ys)->H' b=some (.tup ys)):KT H' kvs xs:=
 Paired.mapP r fun _ _ z=>⟨z.1,ht _ _ z.2.1,z.2.2⟩
section
variable {P:Program}{w:World}{H:Hp}{h:Heap}{a:Addr}
theorem zjP {u:HO} (ok:HOk P w H h) (e:Rd H a u):zI P w H h a u:=e.ok ok
theorem zgo {kvs:List (Key×V)} (ok:HOk P w H h) (e:Rd H a (.dK kvs)):kvs.length<=sizeLine/\(a == sysModules)=false/\∃vs,KV kvs vs/\h.DictOf (zA P w) a vs:=
 show zI P w H h a (.dK kvs) from zjP ok e
theorem zjp {kvs:List (Key×V)} (ok:HOk P w H h) (e:H a=some (.dK kvs)):kvs.length<=sizeLine/\(a == sysModules)=false/\∃vs,KV kvs vs/\h.DictOf (zA P w) a vs:=zgo ok (.inl e)
theorem zdx {ks:List Key} (ok:HOk P w H h) (e:H a=some (.tup (ks.map kV))):(tupleKind (zA P w)).is h ks a:=by
 obtain⟨_,its,r,o,h1,h2,n,h3⟩:=(show zI P w H h a (.tup (ks.map kV)) from ok a _ e);exact⟨o,its.toArray,n,h1,h2,h3,by simpa using zdm r⟩
theorem zf1 {kvs:List (List Key×V)} (ok:HOk P w H h) (e:Rd H a (.dT kvs)):kvs.length<=sizeLine/\(a == sysModules)=false/\
  ∃xs,KT H kvs xs/\h.DictOfH (tupleKind (zA P w)) a xs:=by
 obtain⟨z,y,xs,r,o,es,ep,h1,h2,h3,h4,h5⟩:=(show zI P w H h a (.dT kvs) from zjP ok e);refine⟨z,y,xs,r,o,es,ep,h1,h2,h3,h4,fun x hx=>?_,h5⟩;have all:∀{l:List (List Key×V)} {m:List (List Key×Addr×Value)},KT H l m->∀x∈m,(tupleKind (zA P w)).is h x.1 x.2.1:=by
  intro l m q
  induction q with
  | nil=>intro x hx; exact nomatch hx
  | @cons p q ps qs hq t ih=>
   intro x hx;rcases List.mem_cons.mp hx with e | hx
   ·subst e
    exact zdx ok (by rw[<- hq.1]; exact hq.2.1)
   ·exact ih x hx
 exact all r x hx
theorem zkA {kvs:List (List Key×V)} (ok:HOk P w H h) (e:H a=some (.dT kvs)):kvs.length<=sizeLine/\(a == sysModules)=false/\
  ∃xs,KT H kvs xs/\h.DictOfH (tupleKind (zA P w)) a xs:=zf1 ok (.inl e)
end
def DGet (H:Hp) (a:Addr) (y:V) (r:Option V):Prop:=
 (∃kvs k,Rd H a (.dK kvs)/\y=kV k/\r=valV kvs k) \/ ∃kvs k b,Rd H a (.dT kvs)/\y=.ref b/\H b=some (.tup (k.map kV))/\r=valV kvs k
def DPut (H:Hp) (a:Addr) (y v:V) (H':Hp):Prop:=
 (∃kvs k,H a=some (.dK kvs)/\y=kV k/\kvs.length<sizeLine/\H'=upd H a (.dK (putK kvs k v))) \/
 ∃kvs k b,H a=some (.dT kvs)/\y=.ref b/\H b=some (.tup (k.map kV))/\kvs.length<sizeLine/\H'=upd H a (.dT (putK kvs k v))
theorem DGet.k {H:Hp}{a:Addr}{kvs:List (Key×V)}{k:Key} (e:H a=some (.dK kvs)):DGet H a (kV k) (valV kvs k):=.inl ⟨kvs,k,.inl e,rfl,rfl⟩
theorem DGet.t {H:Hp}{a b:Addr}{kvs:List (List Key×V)}{k:List Key} (e:H a=some (.dT kvs)) (eb:H b=some (.tup (k.map kV))):DGet H a (.ref b) (valV kvs k):=.inr ⟨kvs,k,b,.inl e,rfl,eb,rfl⟩
theorem DPut.k {H:Hp}{a:Addr}{kvs:List (Key×V)}{k:Key}{v:V} (e:H a=some (.dK kvs)) (hl:kvs.length<sizeLine):DPut H a (kV k) v (upd H a (.dK (putK kvs k v))):=.inl ⟨kvs,k,e,rfl,hl,rfl⟩
theorem DPut.t {H:Hp}{a b:Addr}{kvs:List (List Key×V)}{k:List Key}{v:V} (e:H a=some (.dT kvs)) (eb:H b=some (.tup (k.map kV))) (hl:kvs.length<sizeLine) :
  DPut H a (.ref b) v (upd H a (.dT (putK kvs k v))):=.inr ⟨kvs,k,b,e,rfl,eb,hl,rfl⟩
section
variable {X:Cx}{pins:List (Addr×Obj)}{σ:St}{H:Hp}{s:Shared}{a:Addr}{y v:V}{u r:Value}{o:Option V}{A:Around}{E:Value->Shared->Prop}
theorem Inv.big (I:Inv X pins σ H s):sysModules<s.heap.objs.size:=by
 have h:mainGlobals<s.heap.objs.size:=(I.mod.glob.keeps I.bk).lt;exact Nat.lt_trans (by decide) h
theorem zgF {Q:Value->Shared->Prop} (hu:A.units+1<cLine) (I:Inv X pins σ H s) (g:DGet H a y (some v)) (ry:RelV y u) (h:∀w' s',Inv X pins σ H s'->RelV v w'->Q w' s') :
  wpAny (model X.prog X.w) A (getItem (.ref a) u) Q E s:=by
 rcases g with ⟨kvs,k,e,ey,l⟩ | ⟨kvs,k,b,e,ey,eb,l⟩
 ·subst ey
  obtain⟨z,hd,vs,rel,dd⟩:=zgo I.hok e;obtain⟨w',hw,rw'⟩:=RelO.some_of (v:=v) (o:=valueAt vs k) (by rw[l]; exact rel.val k);exact wpAny_getItem_of (zf8 ry) dd.mapOf hw (h w' _ (I.tok _) rw')
 ·subst ey
  cases (show u=Value.ref b from ry);obtain⟨z,hd,xs,rel,dd⟩:=zf1 I.hok e;obtain⟨w',hw,rw'⟩:=RelO.some_of (v:=v) (o:=(atKey xs k).map (·.2)) (by rw[l]; exact rel.val k);obtain⟨p,hp,hp2⟩:=Option.map_eq_some_iff.mp hw;refine wpAny_getItem_heap (tupleKind_room_in1 hu) (zdx I.hok eb) dd hp ?_;rw[hp2];exact h w' _ (I.tok _) rw'
theorem d_in {Q:Value->Shared->Prop} (hu:A.units+1<cLine) (I:Inv X pins σ H s) (g:DGet H a y o) (ry:RelV y u) (h:∀s',Inv X pins σ H s'->Q (.bool o.isSome) s') :
  wpAny (model X.prog X.w) A (compareOp .In u (.ref a)) Q E s:=by
 rcases g with ⟨kvs,k,e,ey,l⟩ | ⟨kvs,k,b,e,ey,eb,l⟩
 ·subst ey
  obtain⟨z,hd,vs,rel,dd⟩:=zgo I.hok e;refine wpAny_in_of (zf8 ry) hd dd.mapOf ?_;rw[<- (rel.val k).isSome_eq,<- l];exact h _ (I.tok _)
 ·subst ey
  cases (show u=Value.ref b from ry);obtain⟨z,hd,xs,rel,dd⟩:=zf1 I.hok e;refine wpAny_in_heap (tupleKind_room_in1 hu) (zdx I.hok eb) hd dd ?_;have q:=(rel.val k).isSome_eq;rw[Option.isSome_map] at q;rw[<- q,<- l];exact h _ (I.tok _)
theorem ziD {Q:Value->Shared->Prop} (hu:A.units+1<cLine) (I:Inv X pins σ H s) (g:DGet H a y o) (ry:RelV y u) (h:∀s',Inv X pins σ H s'->Q (.bool (!o.isSome)) s') :
  wpAny (model X.prog X.w) A (compareOp .NotIn u (.ref a)) Q E s:=by
 rcases g with ⟨kvs,k,e,ey,l⟩ | ⟨kvs,k,b,e,ey,eb,l⟩
 ·subst ey
  obtain⟨z,hd,vs,rel,dd⟩:=zgo I.hok e;refine wpAny_notIn_of (zf8 ry) hd dd.mapOf ?_;rw[<- (rel.val k).isSome_eq,<- l];exact h _ (I.tok _)
 ·subst ey
  cases (show u=Value.ref b from ry);obtain⟨z,hd,xs,rel,dd⟩:=zf1 I.hok e;refine wpAny_notIn_heap (tupleKind_room_in1 hu) (zdx I.hok eb) hd dd ?_;have q:=(rel.val k).isSome_eq;rw[Option.isSome_map] at q;rw[<- q,<- l];exact h _ (I.tok _)
theorem zgw {h':Heap}{t':Nat}{ob:HO} (I:Inv X pins σ H s) (mu:Mut (H a)) (hs:Heap.SameBut a s.heap h') (he:∃q,h'.get? a=some q) (new:zI X.prog X.w (upd H a ob) h' a ob) :
  Inv X pins σ (upd H a ob) { s with heap:=h',toks:=t' }:=
 I.write (x:=a) (e:=a) mu (.inl rfl) (fun b q hb z=>(hs.2 b hb).trans z) he new
theorem dk_new {P:Program}{w:World}{H':Hp}{h':Heap}{kvs:List (Key×V)}{vs:List (Key×Value)} (z:kvs.length<=sizeLine) (hd:(a == sysModules)=false) (rel:KV kvs vs) (dd:h'.DictOf (zA P w) a vs) :
  zI P w H' h' a (.dK kvs):=⟨z,hd,vs,rel,dd⟩
theorem zgC {H':Hp}{Q:Unit->Shared->Prop} (hu:A.units+1<cLine) (I:Inv X pins σ H s) (g:DPut H a y v H') (ry:RelV y u) (rv:RelV v r) (h:∀s',Inv X pins σ H' s'->Q () s') :
  wpAny (model X.prog X.w) A (setItem (.ref a) u r) Q E s:=by
 rcases g with ⟨kvs,k,e,ey,l,eH⟩ | ⟨kvs,k,b,e,ey,eb,l,eH⟩
 ·subst ey eH
  obtain⟨z,hd,vs,rel,dd⟩:=zjp I.hok e;have hz:vs.length<=sizeLine:=by rw[<- rel.length]; exact z
  have hl:(putK kvs k v).length<=sizeLine:=by have:=zb3 kvs k v; omega
  refine wpAny_setItem_pairs (hsz:=hz) (zf8 ry) dd fun h' dd' hs=>h _ ?_;have he:∃q,h'.get? a=some q:=let ⟨q,_,_,hq,_⟩:=dd'; ⟨q,hq⟩;exact zgw I (by rw[e]; exact True.intro) hs he (dk_new hl hd (rel.put k rv) dd')
 ·subst ey eH
  cases (show u=Value.ref b from ry);obtain⟨z,hd,xs,rel,dd⟩:=zkA I.hok e;have hz:xs.length<=sizeLine:=by rw[<- Paired.length rel]; exact z
  have hl:(putK kvs k v).length<=sizeLine:=by have:=zb3 kvs k v; omega
  refine wpAny_setItem_heap (hsz:=hz) (tupleKind_room_in1 hu) (zdx I.hok eb) dd fun h' dd' hs=>h _ ?_;obtain⟨q,es,ep,hq,h2,h3,h4,_,h5⟩:=dd';refine zgw I (by rw[e]; exact True.intro) hs ⟨q,hq⟩ ⟨hl,hd,_,(rel.put k eb rv).keeps fun c ys ec=>?_,q,es,ep,hq,h2,h3,h4,h5⟩;rw[upd_ne (zbA ec e (fun z=>nomatch z))];exact ec
end
section
variable {X:Cx}{pins:List (Addr×Obj)}{σ:St}{H:Hp}{s:Shared}{a:Addr}{kvs:List (Key×V)}{k:Key}{u:Value}{A:Around}{E:Value->Shared->Prop}
end
def NoSl (i:Expr):Prop:=∀ov iv,subscripted i false ov iv=operate [ov,iv] (getItem ov iv)
theorem ziw {prog:Program}{w:World}{A:Around}{E:Value->Shared->Prop}{s:Shared}{env:Env}{value slice:Expr}{pos:Pos}{T id:String}{Q:Value->Shared->Prop}
  (hl:typeLookup (.type T) "__getitem__"=pure (some (.builtin id))) (hs:NoSl slice)
  (h:wpAny (model prog w) A (eval value env) (fun o s₁=>wpAny (model prog w) A (eval slice env) (fun i s₂=>s₂.TypeIs o T/\wpAny (model prog w) A (getItem o i) Q E s₂) E s₁) E s) :
  wpAny (model prog w) A (eval (.Subscript value slice pos) env) Q E s:=by
 refine Subscript_ (wpAny_mono h (fun o s₁ h₁=>wpAny_mono h₁ (fun i s₂ h₂=>?_) fun _ _ x=>x) fun _ _ x=>x);obtain⟨hT,h₂⟩:=h₂;unfold subscriptTail;refine wpAny_bind ?_;rw[getitemInPython_of_ne hT.not_modules];refine wpAny_bind (wpAny_specialOf hT hl ?_);have fin:wpAny (model prog w) A (subscripted slice false o i) (fun r s₃=>wpAny (model prog w) A (letTemporaryGo value o r >>= fun _=>pure r) Q E s₃) E s₂:=by
  rw[hs o i];exact wpAny_operating (wpAny_mono h₂ (fun r s₃ h₃=>wpAny_bind (wpAny_letTemporaryGo (wpAny_pure h₃))) fun _ _ x=>x)
 first
  | exact wpAny_pure (wpAny_bind fin)
  | exact wpAny_bind (wpAny_pure (wpAny_bind fin))
  | exact wpAny_bind fin
theorem zd0 {X:Cx}{pins:List (Addr×Obj)}{σ:St}{H:Hp}{s:Shared}{a:Addr}{y:V}{o:Option V} (I:Inv X pins σ H s) (g:DGet H a y o):s.TypeIs (.ref a) "dict":=by
 rcases g with ⟨kvs,k,e,_,_⟩ | ⟨kvs,k,b,e,_,_,_⟩
 ·obtain⟨_,_,vs,_,dd⟩:=zgo I.hok e
  exact dd.typeIs
 ·obtain⟨_,_,xs,_,dd⟩:=zf1 I.hok e
  exact dd.typeIs
def zkn (td ty:TE):TE:=fun σ H Q=>td σ H fun x H1=>ty σ H1 fun y H2=>∃a v,x=.ref a/\DGet H2 a y (some v)/\Q v H2
def tDIn (ty td:TE):TE:=fun σ H Q=>ty σ H fun y H1=>td σ H1 fun x H2=>∃a o,x=.ref a/\DGet H2 a y o/\Q (.bl o.isSome) H2
def ziQ (ty td:TE):TE:=fun σ H Q=>ty σ H fun y H1=>td σ H1 fun x H2=>∃a o,x=.ref a/\DGet H2 a y o/\Q (.bl (!o.isSome)) H2
def zkq (td ty tv:TE):TS:=fun D σ H=>tv σ H fun v H1=>td σ H1 fun x H2=>ty σ H2 fun y H3=>∃a H4,x=.ref a/\DPut H3 a y v H4/\D.nx σ H4
section
variable {X:Cx}{o i e value:Expr}{pos pos' tpos:Pos}{td ty tv:TE}
theorem ziB (hu:X.A.units+1<cLine) (ho:PE X o td) (hi:PE X i ty) (hs:NoSl i):PE X (.Subscript o i pos) (zkn td ty):=by
 intro pins s σ H Q I h;refine ziw PySem.F.slot_dict_getitem.lookup hs (thn (ho pins s σ H _ I h) fun u s1 ⟨x,H1,I1,rx,q1⟩=>thn (hi pins s1 σ H1 _ I1 q1) fun iv s2 ⟨y,H2,I2,ry,a,v,ex,g,q2⟩=>?_);subst ex;obtain rfl:u=Value.ref a:=rx;exact⟨zd0 I2 g,zgF hu I2 g ry fun w' s3 I3 rw'=>⟨v,H2,I3,rw',q2⟩⟩
theorem zhW (hu:X.A.units+1<cLine) (hi:PE X i ty) (ho:PE X o td):PC X .In i o (tDIn ty td):=by
 intro pins s σ H Q I h;refine thn (hi pins s σ H _ I h) fun iv s1 ⟨y,H1,I1,ry,q1⟩=>thn (ho pins s1 σ H1 _ I1 q1) fun u s2 ⟨x,H2,I2,rx,a,ov,ex,g,q2⟩=>?_;subst ex;obtain rfl:u=Value.ref a:=rx;exact d_in hu I2 g ry fun s3 I3=>⟨.bl ov.isSome,H2,I3,rfl,q2⟩
theorem zfW (hu:X.A.units+1<cLine) (hi:PE X i ty) (ho:PE X o td):PC X .NotIn i o (ziQ ty td):=by
 intro pins s σ H Q I h;refine thn (hi pins s σ H _ I h) fun iv s1 ⟨y,H1,I1,ry,q1⟩=>thn (ho pins s1 σ H1 _ I1 q1) fun u s2 ⟨x,H2,I2,rx,a,ov,ex,g,q2⟩=>?_;subst ex;obtain rfl:u=Value.ref a:=rx;exact ziD hu I2 g ry fun s3 I3=>⟨.bl (!ov.isSome),H2,I3,rfl,q2⟩
theorem zbd (hu:X.A.units+1<cLine) (ho:PE X o td) (hi:PE X i ty) (hv:PE X value tv) (hs:swapsWith value (some (.Subscript o i pos')) pos.line X.env=pure false) :
  PS X (.Assign [.Subscript o i pos'] value pos) (zkq td ty tv):=by
 intro pins s σ H D I h;refine wpAny_Assign_Subscript (thn (hv pins s σ H _ I h) fun r s1 ⟨v,H1,I1,rv,q1⟩=>thn (ho pins s1 σ H1 _ I1 q1) fun u s2 ⟨x,H2,I2,rx,q2⟩=>thn (hi pins s2 σ H2 _ I2 q2) fun iv s3 ⟨y,H3,I3,ry,a,H4,ex,g,q3⟩=>?_) hs;subst ex;obtain rfl:u=Value.ref a:=rx;exact zgC hu I3 g ry rv fun s4 I4=>⟨σ,H4,I4,q3⟩
end
theorem zhy {P:Program}{w:World}{H:Hp} (h:Heap) (hb:sysModules<h.objs.size):zI P w H (h.push { cls:=.type "dict",data:=.dict #[] }) h.objs.size (.dK []):=
 ⟨Nat.zero_le _,beq_eq_false_iff_ne.mpr (Ne.symm (Nat.ne_of_lt hb)),[],.nil,Heap.DictOf.new h⟩
theorem zhO {P:Program}{w:World}{H:Hp} (h:Heap) (hb:sysModules<h.objs.size):zI P w H (h.push { cls:=.type "dict",data:=.dict #[] }) h.objs.size (.dT []):=
 ⟨Nat.zero_le _,beq_eq_false_iff_ne.mpr (Ne.symm (Nat.ne_of_lt hb)),[],.nil,_,#[],0,Heap.get?_push_size _ rfl,⟨rfl,rfl,rfl⟩,rfl,rfl,List.nodup_nil⟩
def zjE:TE:=fun _ H Q=>∀p,H p=none->Q (.ref p) (upd H p (.dK []))
def zjq:TE:=fun _ H Q=>∀p,H p=none->Q (.ref p) (upd H p (.dT []))
section
variable {X:Cx}{pos:Pos}
theorem zhc:PE X (.Dict [] [] pos) zjE:=fun pins s σ H Q I h=>
 wpAny_Dict_empty ⟨.ref s.heap.objs.size,_,I.laid (a:=s.heap.objs.size) (o:=.dK []) (t':=s.toks) (fun _ _ q=>Heap.get?_push_of_some _ q) (Nat.le_refl _) (zhy s.heap I.big),rfl,h _ (I.hok.fresh (Nat.le_refl _))⟩
theorem zaY:PE X (.Dict [] [] pos) zjq:=fun pins s σ H Q I h=>
 wpAny_Dict_empty ⟨.ref s.heap.objs.size,_,I.laid (a:=s.heap.objs.size) (o:=.dT []) (t':=s.toks) (fun _ _ q=>Heap.get?_push_of_some _ q) (Nat.le_refl _) (zhO s.heap I.big),rfl,h _ (I.hok.fresh (Nat.le_refl _))⟩
end
structure M1 (X:Cx) (o:Expr) (m:Str) (apos:Pos) (e:Expr) (cpos:Pos):Prop where
 base:attributeBase o m X.env (eval o X.env)=eval o X.env
 few:((backTo cpos (starEach [e] X.env)).all (fun x=>!x.1) && (backToKw cpos (keywordEach [] X.env)).all (fun x=>x.1.isSome)
  && decide (([e]:List Expr).length+([]:List Keyword).length+(if ([]:List Keyword).isEmpty then 0 else 1)<30))=true
 line:(apos.endLine == cpos.line)=true
 trees:backTo cpos (starEach [e] X.env)=[(false,eval e X.env)]
structure M2 (X:Cx) (o:Expr) (m:Str) (apos:Pos) (e f:Expr) (cpos:Pos):Prop where
 base:attributeBase o m X.env (eval o X.env)=eval o X.env
 few:((backTo cpos (starEach [e,f] X.env)).all (fun x=>!x.1) && (backToKw cpos (keywordEach [] X.env)).all (fun x=>x.1.isSome)
  && decide (([e,f]:List Expr).length+([]:List Keyword).length+(if ([]:List Keyword).isEmpty then 0 else 1)<30))=true
 line:(apos.endLine == cpos.line)=true
 trees:backTo cpos (starEach [e,f] X.env)=[(false,eval e X.env),(false,eval f X.env)]
def IsD (H:Hp) (a:Addr):Prop:=(∃kvs,Rd H a (.dK kvs)) \/ ∃kvs,Rd H a (.dT kvs)
section
variable {X:Cx}{pins:List (Addr×Obj)}{σ:St}{H:Hp}{s:Shared}{a:Addr}{y d:V}{u r:Value}{o:Option V}{A:Around}{E:Value->Shared->Prop}
end
section
variable {X:Cx}{o e f:Expr}{apos cpos:Pos}{td ty tx:TE}
end
section
variable {X:Cx}{pins:List (Addr×Obj)}{σ:St}{H:Hp}{s:Shared}{a:Addr}{kvs:List (Key×V)}{A:Around}{E:Value->Shared->Prop}
end
section
variable {X:Cx}{pins:List (Addr×Obj)}{σ:St}{H:Hp}{s:Shared}{a:Addr}{y:V}{u:Value}{A:Around}{E:Value->Shared->Prop}
end
end L2
namespace Att
open PySem PySem.W PySem.Calls PyProof.Rows
theorem zca {P:Params}{h:Heap}:∀(ns:List Int) (vs:List Value),WellAll P h vs (ns.map WData.int)->IntsAre vs ns:=by
 intro ns
 induction ns with
 | nil=>
  intro vs w;rw[List.map_nil] at w;cases w;exact .nil
 | cons n ns ih=>
  intro vs w;rw[List.map_cons] at w;cases w with
  | cons a b=>
   cases a;exact .cons _ _ (ih _ b)
theorem zfN {l:OpenLaw}{n:Nat} (hn:l.most=some n) {P:Params}{h:Heap}{args:List WData}{vals:List Value}
  (hpre:l.row.toRowW.claim.pre args=true) (hwl:WellAll P h vals args) :
  ∃a vs ns,vals=[Value.ref a]/\args=[WData.list (ns.map WData.int)]/\h.get? a=some { cls:=.type "list",data:=.seq vs.toArray }/\IntsAre vs ns/\ns.length<=n:=by
 have hsh:WShape.hasAll [] args [.list .int]=true:=(pre_splitW hpre).1;have hc:l.pre.holds [] { args:=args }=true:=(pre_splitW hpre).2;obtain⟨d,r,rfl,h1,h2⟩:=hasAllW_cons hsh;obtain rfl:=hasAllW_nil h2;obtain⟨xs,rfl,h3⟩:=hasW_list h1;obtain⟨ns,rfl⟩:=items_int h3;have hlen:ns.length<=n:=by
  unfold OpenLaw.pre at hc;have h4:(WTm.not (.lt (.lit (.int (n:Int))) (.len (.arg 0)))).holds [] { args:=[.list (ns.map .int)] }=true:=by
   have h4:=(holds_andW hc).1;rw[hn] at h4;exact h4
  have h5:=condW_of h4 (w_not (w_lt w_lit (w_len_list (w_arg rfl))));rw[List.length_map] at h5;refine Nat.le_of_not_lt fun q=>?_;have q':(n:Int)<((ns.length:Nat):Int):=by omega
  first
   | (rw[decide_eq_true q'] at h5; exact absurd h5 (by decide))
   | (simp at h5; omega)
 cases hwl with
 | cons w1 w2=>
  cases w2;cases w1 with
  | list ho hall=>exact⟨_,_,ns,rfl,rfl,ho,zca ns _ hall,hlen⟩
theorem zgA (l:OpenLaw) (args:List WData):l.row.toRowW.claim.post args (.bool true) args=true:=
 postW_of (r:=l.row.toRowW) (X:=(true == true))
  (show WShape.has [] (.bool true) .bool=true by first | rfl | decide | simp[WShape.has,WShape.arms,WShape.armsAll])
  (show (WTm.eq .res (.lit (.bool true))).value [] { args:=args,res:=some (.bool true),after:=args }=some (.bool (true == true)) from w_eq_bool (w_res rfl) w_lit) rfl
theorem zd8 {l:OpenLaw}{n:Nat}{q:Program}{loose:List Str}{XP:(Str->Option Value)->Heap->Prop}{YP:World->Heap->Prop}{d:DefRec}
  (hn:l.most=some n) (hdf:d.params.defaults=[])
  (call:∀(w:World) (s₀ s₁:Shared) (mg mb:Str->Option Value) (fa:Addr) (o:Obj) (pm cd doc:Value) (a:Addr) (vs:List Value) (ns:List Int),
   Ground q loose [] XP w s₀ mg mb s₁.heap->YP w s₁.heap->
   s₁.heap.get? fa=some o->o.data=.func (docDef d.name d.params d.body d.scope pm cd doc)->s₁.heap.CodeRec cd d.name->mg d.name=some (.ref fa)->
   s₁.heap.get? a=some { cls:=.type "list",data:=.seq vs.toArray }->IntsAre vs ns->ns.length<=n->s₁.gens=#[]->
   codeAny (model l.prog w) callerA (.call (.ref fa) ⟨[.ref a],[]⟩) (fun r s'=>r=.ok (.ret (.bool true))/\OldK s₁.heap s'.heap/\s'.os=s₁.os/\AllBare s'.gens) s₁) :
  WalkO q loose XP YP l.row.toRowW d [] (fun f vs=>PySem.call f vs):=by
 intro w s₀ s₁ mg mb G Y fa o pm cd doc dV kV ho hd hcd hD hmg hg args vals as hpre hlay hrd hwl hlo;obtain rfl:dV=.none:=Dflts.none hD hdf;obtain rfl:kV=.none:=Dflts.noKw hD;obtain⟨a,vs,ns,rfl,rfl,hobj,hints,hlen⟩:=zfN hn hpre hwl;refine enter_call (codeAny_mono (call w s₀ s₁ mg mb fa o pm cd doc a vs ns G Y ho (fd_plain hd) hcd hmg hobj hints hlen hg) fun r s' hq=>?_);obtain⟨rfl,h2,h3,h4⟩:=hq;exact⟨.inl ⟨.bool true,.bool true,[],rfl,fun _=>rfl,.bool true,zgA l _,fun _=>⟨List.Pairwise.nil,fun _ hm=>(nomatch hm)⟩⟩,h2,h3,h4⟩
section
variable {prog:Program}{w:World}{A:Around}{E:Value->Shared->Prop}{s:Shared}{K:Frag}
def ledger (h:Heap) (L d:Addr):List (Addr×Obj):=(List.range h.objs.size).filterMap fun a=>if a=L \/ a=d then none else (h.get? a).map fun o=>(a,o)
end
end Att
namespace L2
open PySem PySem.Spec PyProof.Rows
theorem zdk:∀{vs:List Value}{ns:List Int},IntsAre vs ns->Vals (ns.map V.int) vs
 | _,_,.nil=>.nil
 | _,_,.cons n t h=>.cons ⟨t,rfl⟩ (zdk h)
def Only (H:Hp):Prop:=∀b,H b=none \/ ∃o xs,H b=some (.frz o (.lst xs))
theorem zg2 {P:Program}{w:World}{K:PySem.W.Frag}{mg mb:Str->Option Value}{CX:CXT}{k:Nat}{fa a:Addr}{fd:FuncData}{x:Str}{sp:Sp}{s₁:Shared}{vs:List Value}{ns:List Int}
  (KX:K.In s₁.heap) (hns:s₁.heap.Ns mainGlobals mg) (hb:s₁.heap.Ns builtinsNs mb) (hbb:∀x:Str,x≠"__name__"->mb x=bootBuiltins x) (hlim:s₁.heap.NoLimit) (hg:s₁.gens=#[])
  (ha:s₁.heap.get? a=some { cls:=.type "list",data:=.seq vs.toArray }) (hi:IntsAre vs ns) (hl:ns.length<=sizeLine) (hr:Room k callerA)
  (F:∀base:Heap,K.In base->base.Ns mainGlobals mg->FnOk P w K mg base CX k fa fd [x] sp) (hbind:∀(s:Shared) (u:Value),BindsTo s fd ⟨[u],[]⟩ [(x,u)])
  (hsp:∀H:Hp,Only H->SqL K H a (ns.map V.int)->sp [.ref a] H (fun v _=>v=.bl true) fun _ _ _=>False)
  (hCX:∀H e s',CX [] H s₁ (fun _ _ _=>False) e s'->False) :
  codeAny (model P w) callerA (.call (.ref fa) ⟨[.ref a],[]⟩) (fun r s'=>r=.ok (.ret (.bool true))/\OldK s₁.heap s'.heap/\s'.os=s₁.os/\AllBare s'.gens) s₁:=by
 have rv:=zdk hi;have lenV:=hi.length;have core:∀H:Hp,Only H->SqL K H a (ns.map V.int)->HOk P w H s₁.heap->(∀b,H b≠none->b=a)->(H a≠none->K.lookup a=none)->
   codeAny (model P w) callerA (.call (.ref fa) ⟨[.ref a],[]⟩) (fun r s'=>r=.ok (.ret (.bool true))/\OldK s₁.heap s'.heap/\s'.os=s₁.os/\AllBare s'.gens) s₁:=by
  intro H hO hS hok hA hK;have base_of:∀{b:Addr} {o:Obj},s₁.heap.get? b=some o->H b=none->(hidT s₁.heap H).get? b=some o:=fun e n=>zgW e n;have noA:∀{b:Addr} {o:Obj} {es:Array DictEntry} {ep:Nat},s₁.heap.get? b=some o->o.data=.dict es ep->H b=none:=fun {b o es ep} e d=>by
   cases q:H b with
   | none=>rfl
   | some u=>
    have e':b=a:=hA b (by rw[q]; simp);subst e';rw[ha] at e; cases e;have d':Data.seq vs.toArray _=Data.dict es ep:=d;cases d'
  have nsK:∀{b:Addr} {m:Str->Option Value},s₁.heap.Ns b m->(hidT s₁.heap H).Ns b m:=fun {b m} ⟨o,es,ep,e,d,r⟩=>⟨o,es,ep,base_of e (noA e d),d,r⟩;have hKb:K.In (hidT s₁.heap H):=fun b o e=>base_of (KX b o e) (by
   cases q:H b with
   | none=>rfl
   | some u=>
    have e':b=a:=hA b (by rw[q]; simp);subst e';rw[hK (by rw[q]; simp)] at e; cases e)
  have hM:Mod K mg (hidT s₁.heap H):=⟨hKb,nsK hns,⟨mb,nsK hb,hbb⟩,let ⟨mc,h1,h2⟩:=hlim; ⟨mc,nsK h1,h2⟩⟩;have e0:Env0 P w K mg (hidT s₁.heap H) callerA [] s₁ H:=⟨rfl,hM,fun b o e=>ziI e,Nat.le_of_eq (zgu _ _),trivial,fun b hb=>absurd (show b∈([]:List Addr) from hb) (by simp),hok,.of_eq hg⟩;refine codeAny_mono ((F _ hKb (nsK hns)).run callerA [] s₁ H ⟨[.ref a],[]⟩ [.ref a] [.ref a] _ _ hr e0 (hbind s₁ (.ref a)) (.cons rfl .nil) (hsp H hO hS)) fun r s' h=>?_;cases r with
  | error e=>exact (hCX H e s' h).elim
  | ok fl=>
   cases fl with
   | next=>exact False.elim h
   | brk=>exact False.elim h
   | cont=>exact False.elim h
   | ret u=>
    obtain⟨v,H',os,bare,un,hok',r',q⟩:=h;have q':v=.bl true:=q;subst q';obtain rfl:u=Value.bool true:=r';refine⟨rfl,OldK.of_keep fun b o e=>?_,os,bare⟩;cases q:H b with
    | none=>exact un.keep b o e q (by intro z; exact absurd (show b∈([]:List Addr) from z) (by simp)) (by simp)
    | some u=>
     rcases hO b with z | ⟨ob,xs,z⟩
     ·rw[q] at z; cases z
     ·have z2:=un.frzs b ob _ z
      obtain⟨e1,_⟩:=hok b _ z;obtain⟨e2,_⟩:=hok' b _ z2;rw[e] at e1; cases e1;exact e2
 cases hk:K.lookup a with
 | some o=>
  have e:=KX a o hk;rw[ha] at e;cases e;refine core (fun _=>none) (fun _=>.inl rfl) (.inr ⟨_,vs.toArray,_,hk,rfl,rfl,rfl,by rw[List.size_toArray,lenV]; exact hl,by simpa using rv⟩) (fun b u z=>by have z':(none:Option HO)=some u:=z; cases z') (fun b z=>absurd rfl z) fun z=>absurd rfl z
 | none=>
  refine core (fun b=>if b=a then some (.frz { cls:=.type "list",data:=.seq vs.toArray } (.lst (ns.map V.int))) else none) (fun b=>?_) (.inl (.inr ⟨{ cls:=.type "list",data:=.seq vs.toArray },if_pos rfl⟩)) (fun b u z=>?_) (fun b z=>?_) fun _=>hk
  ·by_cases hb:b=a
   ·exact .inr ⟨_,_,if_pos hb⟩
   ·exact .inl (if_neg hb)
  ·by_cases hb:b=a
   ·have z':=(if_pos hb).symm.trans z
    cases z';subst hb;exact⟨ha,by rw[List.length_map]; exact hl,vs,_,rv,ha⟩
   ·have z':=(if_neg hb).symm.trans z
    cases z'
  ·by_cases hb:b=a
   ·exact hb
   ·exact absurd (if_neg hb) z
end L2
namespace L2
open PySem PySem.Spec PyProof.Rows
abbrev KOf {K:PySem.W.Frag}{h:Heap} (_:K.In h):PySem.W.Frag:=K
theorem zfC {l:PySem.W.OpenLaw}{n k:Nat}{q:Program}{loose:List Str}{XP:(Str->Option Value)->Heap->Prop}{YP:World->Heap->Prop}{d:DefRec}{K:Params->PySem.W.Frag}{CX:World->CXT}{sp:World->Sp}{x:Str}
  (hn:l.most=some n) (hn2:n<=sizeLine) (hdf:d.params.defaults=[]) (hr:Room k callerA)
  (hY:∀(w:World) (h:Heap),YP w h->(K w.params).In h)
  (F:∀(w:World) (mg:Str->Option Value) (fa:Addr) (h:Heap),(K w.params).In h->h.Ns mainGlobals mg->mg d.name=some (.ref fa)->
   ∃fd:FuncData,(∀(s:Shared) (u:Value),BindsTo s fd ⟨[u],[]⟩ [(x,u)])/\
    ∀base:Heap,(K w.params).In base->base.Ns mainGlobals mg->FnOk l.prog w (K w.params) mg base (CX w) k fa fd [x] (sp w))
  (hsp:∀(w:World) (H:Hp) (a:Addr) (ns:List Int),ns.length<=n->Only H->SqL (K w.params) H a (ns.map V.int)->sp w [.ref a] H (fun v _=>v=.bl true) fun _ _ _=>False)
  (hCX:∀(w:World) (H:Hp) (s:Shared) (e:Value) (s':Shared),CX w [] H s (fun _ _ _=>False) e s'->False) :
  PySem.W.WalkO q loose XP YP l.row.toRowW d [] (fun f vs=>PySem.call f vs):=by
 refine Att.zd8 hn hdf fun w s₀ s₁ mg mb fa o pm cd doc a vs ns G Y ho hd hcd hmg hobj hints hlen hg=>?_;have KX:=hY w _ Y;obtain⟨fd,hb,hF⟩:=F w mg fa _ KX G.T.g hmg;exact zg2 KX G.T.g G.T.b G.T.builtins G.T.nolimit hg hobj hints (Nat.le_trans hlen hn2) hr hF hb (fun H hO hS=>hsp w H a ns hlen hO hS) fun H e s'=>hCX w H s₁ e s'
end L2
/- THE LAST THEOREM (shape; LID,My.* are yours):
  My.Adr: a structure of the addresses that your layer names (classes,functions); My.Txt K t: a structure (Prop) of the equations over K;
  My.txt_mk:{K} {implicit addresses ..} (e1:nsIn K mainGlobals "law"=some (some (.ref f))) (e2:K.lookup f=some ⟨oc,od,.func (fnOf "law" "law" params body scope dV kV doc pm an cdv ct),sl⟩) (e3:codeIn K cdv "law"=true) ..:∃t,My.Txt K t
set_option maxRecDepth 100000 in
set_option maxHeartbeats 0 in
theorem PySem.Challenge.cw_LID_holds:PySem.Challenge.rw_LID.Holds := by
 w_on; o_law; k_head; (case hw=>w_witness2)
 k_fill
 refine L2.zfC (l:=PySem.Challenge.rw_LID) (n:=63) (k:=40) (x:="script") (CX:=fun w=>..) (sp:=fun _=>My.sp_law) rfl (by decide) rfl ⟨rfl,by decide,by decide⟩ (fun w h Y=>PySem.W.kIn_of Y) ?F ?S ?C
 case F=>
  intro w mg fa h KX G hmg;have T:∃t,My.Txt (L2.KOf KX) t:=by
   dsimp only[L2.KOf]                          -- K must stand as «<heap const> w.params» for k_is
   refine' My.txt_mk ?e1 ?e2 ?e3 ..
   (case e1 => PySem.W.k_is)                    -- in the order: a name -> its address -> its object -> its parts
   (case e2=>PySem.W.k_is)
   ..
  obtain⟨t,T⟩:=T;have e0:=hmg.symm.trans (PySem.W.mg_of KX G T.law);cases e0                                       -- fa is the law's own address
  exact⟨_,fun s u => .of_eq rfl,fun base kb nb => My.law_fn T kb nb⟩     -- if «.of_eq rfl» comes too early: refine' ⟨_,?b,fun base kb nb => My.law_fn T kb nb⟩; exact fun s u => .of_eq rfl
 case S=>exact fun w H a ns hl hO hS=>..
 case C=>exact ..
(the tactic k_is has no namespace: write k_is) -/
namespace L2
open PySem PySem.Spec PyProof.Rows
def zu (s:Stmt):Arguments:=match s with
 | .FunctionDef _ a _ _ _ _ _ _ _ _=>a
 | _=>{ posonlyargs:=[],args:=[],vararg:=none,kwonlyargs:=[],kw_defaults:=[],kwarg:=none,defaults:=[] }
def zm (s:Stmt):List Stmt:=match s with
 | .FunctionDef _ _ b _ _ _ _ _ _ _=>b
 | _=>[]
def zf (s:Stmt):Scope:=match s with
 | .FunctionDef _ _ _ _ _ _ sc _ _ _=>sc
 | _=>{ kind:=.function,names:=[],isGenerator:=false,isCoroutine:=false }
abbrev CX0:CXT:=fun _ _ _ _ _ _=>False
abbrev E0:XK:=fun _ _ _=>False
theorem pass0 {X:Cx}:Passes CX0 X E0:=fun _ _ _ _ _ _ _ h=>h.elim
structure Fun (K:PySem.W.Frag) (x qual:Str) (st:Stmt) (f:Addr) (fd:FuncData):Prop where
 ex:∃(oc:Value) (od:Option Addr) (kV doc pm:Value) (an:Option Addr) (cdv ct:Value) (osl:Array (Option Value)),
  fd=PySem.W.fnOf x qual (zu st) (zm st) (zf st) .none kV doc pm an cdv ct/\K.lookup f=some ⟨oc,od,.func fd,osl⟩/\PySem.W.codeIn K cdv qual=true
 kp:PySem.W.keepIn K (.ref f)=true
section
variable {P:Program}{w:World}{K:PySem.W.Frag}{mg:Str->Option Value}{base:Heap}
theorem Fun.ok {x qual:Str}{st:Stmt}{f:Addr}{fd:FuncData}{N ps:List Str}{k:Nat}{sp:Sp} (F:Fun K x qual st f fd) (S:zv N ps (zf st)) (len:∀vs H Q E,sp vs H Q E->vs.length=ps.length)
  (hbody:∀(cdv:Value) (A:Around) (outer:List Env) (s:Shared) (H:Hp) (vs:List V) (Q:VK) (E:XK),Room k (A.deeper (envOfC qual (zf st) s.heap.objs.size f cdv))->sp vs H Q E->
   ∃t,PSs (cxOf CX0 P w K mg base N qual (zf st) f cdv A outer s H E).nox (zm st) t/\t { nx:=fun _ H'=>Q .non H',rt:=Q } (start N vs) H):FnOk P w K mg base CX0 (k+1) f fd ps sp:=by
 obtain⟨oc,od,kV,doc,pm,an,cdv,ct,osl,rfl,lk,hcd⟩:=F.ex;refine zkE lk hcd S len fun A outer s H vs Q E hr hsp=>?_;obtain⟨t,h,q⟩:=hbody cdv A outer s H vs Q E hr hsp;exact⟨t,h.nox,q⟩
theorem Fun.binds {x qual:Str}{st:Stmt}{f:Addr}{fd:FuncData}{ps:List Str} (F:Fun K x qual st f fd)
  (h:∀(kV doc pm:Value) (an:Option Addr) (cdv ct:Value) (us:List Value),us.length=ps.length->bindArgs (PySem.W.fnOf x qual (zu st) (zm st) (zf st) .none kV doc pm an cdv ct) ⟨us,[]⟩=pure (ps.zip us)):Binds K fd ps []:=by
 obtain⟨oc,od,kV,doc,pm,an,cdv,ct,osl,rfl,lk,hcd⟩:=F.ex;exact .all (h kV doc pm an cdv ct)
theorem zy {x qual:Str}{st:Stmt}{f:Addr}{oc:Value}{od an:Option Addr}{osl:Array (Option Value)}{kV doc pm cdv ct:Value} (l:K.lookup f=some ⟨oc,od,.func (PySem.W.fnOf x qual (zu st) (zm st) (zf st) .none kV doc pm an cdv ct),osl⟩)
  (c:PySem.W.codeIn K cdv qual=true) (k:PySem.W.keepIn K (.ref f)=true):Fun K x qual st f (PySem.W.fnOf x qual (zu st) (zm st) (zf st) .none kV doc pm an cdv ct):=⟨⟨oc,od,kV,doc,pm,an,cdv,ct,osl,rfl,l,c⟩,k⟩
end
theorem ze6 {A:Around}{k:Nat} (hr:Room k A):A.units+1<cLine:=Nat.lt_of_le_of_lt (Nat.add_le_add_left (by decide:1<=64) _) hr.units
section
variable {X:Cx}
theorem pv (i:Nat) {x:Str}{pos:Pos} (hN:X.N[i]?=some x:=by rfl) (hv:Vis X.env.scope x:=by first | exact Or.inl rfl | exact Or.inr (Or.inl rfl) | exact Or.inr (Or.inr rfl)) (hd:(x == ("__debug__":Str))=false:=by decide)
  (hcd:(x == ("__classdict__":Str))=false:=by decide):PE X (.Name x pos) (tVar i):=zj6 hN hv hd hcd
end
theorem iteF {A B:Prop} (h:B):if false=true then A else B:=by
 rw[if_neg Bool.false_ne_true];exact h
theorem iteT {A B:Prop} (h:A):if true=true then A else B:=by
 rw[if_pos rfl];exact h
theorem ite2 {c A B:Prop} [Decidable c] (h1:c->A) (h2:¬ c->B):if c then A else B:=by
 by_cases h:c
 ·rw[if_pos h]
  exact h1 h
 ·rw[if_neg h]
  exact h2 h
def Same (H H':Hp):Prop:=∀b o,H b=some o->H' b=some o
theorem Same.refl (H:Hp):Same H H:=fun _ _ h=>h
theorem Same.trans {H H1 H2:Hp} (a:Same H H1) (b:Same H1 H2):Same H H2:=fun c o h=>b c o (a c o h)
theorem Same.free {H H':Hp} (e:Same H H') {l:Addr} (h:H' l=Option.none):H l=Option.none:=by
 cases q:H l with
 | none=>rfl
 | some o=>
  rw[e l o q] at h;cases h
theorem Same.seq {K:PySem.W.Frag}{H H':Hp}{a:Addr}{xs:List V} (e:Same H H') (h:SqL K H a xs):SqL K H' a xs:=by
 rcases h with (h | ⟨o,h⟩) | h
 ·exact .inl (.inl (e _ _ h))
 ·exact .inl (.inr ⟨o,e _ _ h⟩)
 ·exact .inr h
section
variable {X:Cx}
end
section
variable {κ:Type} [DecidableEq κ]
end
end L2
end
section
namespace Tim
open PySem PyProof.Rows
def R (ρ:Keyed->Int) (xs:Array Keyed) (i:Nat):Int:=match xs[i]? with
 | some p=>ρ p
 | none=>0
theorem zce {ρ:Keyed->Int}{xs ys:Array Keyed}{i j:Nat} (h:xs[i]?=ys[j]?):R ρ xs i=R ρ ys j:=by unfold R; rw[h]
theorem R_at {ρ:Keyed->Int}{xs:Array Keyed}{i:Nat}{p:Keyed} (h:xs[i]?=some p):R ρ xs i=ρ p:=by unfold R; rw[h]
def Srt (ρ:Keyed->Int) (xs:Array Keyed) (lo hi:Nat):Prop:=∀i j,lo<=i->i<=j->j<hi->R ρ xs i<=R ρ xs j
def Dsc (ρ:Keyed->Int) (xs:Array Keyed) (lo hi:Nat):Prop:=∀i j,lo<=i->i<=j->j<hi->R ρ xs j<=R ρ xs i
theorem zcz {ρ:Keyed->Int}{xs:Array Keyed}{i j:Nat} (hj:j<=xs.size) (k:Nat) :
  R ρ (mirror xs i j ((j - i) / 2)) k=if i<=k/\k<j then R ρ xs (i+j - 1 - k) else R ρ xs k:=by
 have e:=getElem?_mirror_all (i:=i) hj k
 by_cases h1:i<=k/\k<j
 ·rw[if_pos h1] at e ⊢; exact zce e
 ·rw[if_neg h1] at e ⊢; exact zce e
theorem zQ {ρ:Keyed->Int}{xs:Array Keyed}{i j:Nat} (hj:j<=xs.size) (heq:∀k,i<=k->k<j->R ρ xs k=R ρ xs (j - 1)) (k:Nat) :
  R ρ (mirror xs i j ((j - i) / 2)) k=R ρ xs k:=by
 rw[zcz hj];split
 ·rw[heq _ (by omega) (by omega),heq k (by omega) (by omega)]
 ·rfl
theorem zek {ρ:Keyed->Int}{xs:Array Keyed}{src d:Nat} (hs:src<xs.size) (hd:d<=src) (k:Nat) :
  R ρ (bubble xs src d) k=if k=src - d then R ρ xs src else if src - d<k/\k<=src then R ρ xs (k - 1) else R ρ xs k:=by
 have e:=getElem?_bubble hs d hd k
 by_cases h1:k=src - d
 ·rw[if_pos h1] at e ⊢; exact zce e
 ·rw[if_neg h1] at e ⊢
  by_cases h2:src - d<k/\k<=src
  ·rw[if_pos h2] at e ⊢; exact zce e
  ·rw[if_neg h2] at e ⊢; exact zce e
structure Cmp (prog:Program) (w:World) (A:Around) (s:Shared) (κ:SortKind) (a₀:Array Keyed) (ρ:Keyed->Int):Prop where
 lt:∀x y,x∈a₀.toList->y∈a₀.toList->∀(Q:Bool->Shared->Prop) (E:Value->Shared->Prop),Q (decide (ρ x<ρ y)) s->wpAny (model prog w) A (keyLt' κ x.1 y.1) Q E s
structure B (κ:SortKind) (a₀:Array Keyed) (st:SortSt):Prop where
 perm:(arrOf st).Perm a₀
 kind:kindOf st=κ
 failed:failedOf st=none
theorem B.size {κ:SortKind}{a₀:Array Keyed}{st:SortSt} (h:B κ a₀ st):(arrOf st).size=a₀.size:=h.perm.size_eq
theorem B.setArr {κ:SortKind}{a₀:Array Keyed}{st:SortSt} (h:B κ a₀ st) {xs:Array Keyed} (hp:xs.Perm (arrOf st)):B κ a₀ (setArr st xs):=⟨hp.trans h.perm,h.kind,h.failed⟩
theorem B.mem {κ:SortKind}{a₀:Array Keyed}{st:SortSt} (h:B κ a₀ st) {p:Keyed} (hp:p∈(arrOf st).toList):p∈a₀.toList:=(Array.perm_iff_toList_perm.mp h.perm).mem_iff.mp hp
theorem zif {xs:Array Keyed}{i:Nat} (hi:i<xs.size):∃p,xs[i]?=some p/\p∈xs.toList:=⟨xs[i],getElem?_pos _ i hi,by simp⟩
structure Pre (lo:Nat) (st st':SortSt):Prop where
 arr:∀k,k<lo->(arrOf st')[k]?=(arrOf st)[k]?
 pend:pendingOf st'=pendingOf st
theorem Pre.refl {lo:Nat}{st:SortSt}:Pre lo st st:=⟨fun _ _=>rfl,rfl⟩
theorem Pre.trans {lo:Nat}{a b c:SortSt} (x:Pre lo a b) (y:Pre lo b c):Pre lo a c:=⟨fun k h=>(y.arr k h).trans (x.arr k h),y.pend.trans x.pend⟩
theorem Pre.mir {lo i j:Nat}{st:SortSt} (hj:j<=(arrOf st).size) (hi:lo<=i):Pre lo st (setArr st (mirror (arrOf st) i j ((j - i) / 2))):=
 ⟨fun k h=>by show (mirror _ _ _ _)[k]?=_; rw[getElem?_mirror_all hj,if_neg (by omega)],rfl⟩
theorem Pre.bub {lo src d:Nat}{st:SortSt} (hs:src<(arrOf st).size) (hd:d<=src) (hl:lo<=src - d):Pre lo st (setArr st (bubble (arrOf st) src d)):=
 ⟨fun k h=>by show (bubble _ _ _)[k]?=_; rw[getElem?_bubble hs d hd,if_neg (by omega),if_neg (by omega)],rfl⟩
section
variable {prog:Program}{w:World}{A:Around}{E:Value->Shared->Prop}{s:Shared}{κ:SortKind}{a₀:Array Keyed}{ρ:Keyed->Int}
theorem zkH (C:Cmp prog w A s κ a₀ ρ) {st:SortSt} (hB:B κ a₀ st) {x y:Keyed} (hx:x∈a₀.toList) (hy:y∈a₀.toList) {Q:Option Bool->SortSt->Prop} (h:Q (some (decide (ρ x<ρ y))) st) :
  wpS (model prog w) A E s (lt' x y) Q st:=by
 rw[lt'_eq];refine wpS_bind (wpS_get ?_);rw[hB.kind];refine wpS_bind (wpS_lift (wpAny_attempt (C.lt x y hx hy _ _ ⟨rfl,?_⟩)));exact wpS_pure h
theorem zgz {st:SortSt}{xs:Array Keyed}{i:Nat}{p:Keyed} (h:xs[i]?=some p) {Q:Keyed->SortSt->Prop} (hq:Q p st):wpS (model prog w) A E s (elem' xs i) Q st:=by
 rw[elem'_eq,h];exact wpS_pure hq
theorem zbZ (C:Cmp prog w A s κ a₀ ρ) {st:SortSt} (hB:B κ a₀ st) {i j:Nat} (hi:i<a₀.size) (hj:j<a₀.size) {Q:Option Bool->SortSt->Prop}
  (h:Q (some (decide (R ρ (arrOf st) i<R ρ (arrOf st) j))) st):wpS (model prog w) A E s (ltAt' i j) Q st:=by
 obtain⟨p,e1,m1⟩:=zif (xs:=arrOf st) (i:=i) (by rw[hB.size]; exact hi);obtain⟨q,e2,m2⟩:=zif (xs:=arrOf st) (i:=j) (by rw[hB.size]; exact hj);rw[ltAt'_eq];refine wpS_bind (wpS_get ?_);show wpS _ _ _ _ (do let x <- elem' (arrOf st) i; let y <- elem' (arrOf st) j; lt' x y) Q st;refine wpS_bind (zgz e1 (wpS_bind (zgz e2 (zkH C hB (hB.mem m1) (hB.mem m2) ?_))));rw[R_at e1,R_at e2] at h;exact h
def asc (lo a nrem:Nat):StateT SortSt Sem AscSt:=
 forIn [a:nrem] ((none,a):AscSt) fun _ __s=>do
  let __x <- ltAt' (lo+__s.snd) (lo+__s.snd - 1)
  match __x with
  | some smaller=>if smaller=true then pure (ForInStep.done (none,__s.snd)) else pure (ForInStep.yield (none,__s.snd+1))
  | _=>pure (ForInStep.done (some none,__s.snd))
def tl3 (lo n nrem:Nat):StateT SortSt Sem (Option Nat):=do
 reverseSlice' lo (lo+n)
 let __s <- asc lo n nrem
 match __s.fst with
 | some r=>pure r
 | none=>pure (some __s.snd)
def dsc (lo n nrem:Nat):StateT SortSt Sem DescSt:=
 forIn [n:nrem] ((none,n,0):DescSt) fun _ __s=>do
  let __x <- ltAt' (lo+__s.snd.fst) (lo+__s.snd.fst - 1)
  match __x with
  | some smaller=>
   if smaller=true then
    if __s.snd.snd > 0 then do
     reverseSlice' (lo+__s.snd.fst - (__s.snd.snd+1)) (lo+__s.snd.fst)
     pure (ForInStep.yield (none,__s.snd.fst+1,0))
    else pure (ForInStep.yield (none,__s.snd.fst+1,0))
   else do
    let __x <- ltAt' (lo+__s.snd.fst - 1) (lo+__s.snd.fst)
    match __x with
    | some larger=>
     if larger=true then pure (ForInStep.done (none,__s.snd.fst,__s.snd.snd))
     else pure (ForInStep.yield (none,__s.snd.fst+1,__s.snd.snd+1))
    | _=>pure (ForInStep.done (some none,__s.snd.fst,__s.snd.snd))
  | _=>pure (ForInStep.done (some none,__s.snd.fst,__s.snd.snd))
def zfT (lo n nrem:Nat):StateT SortSt Sem (Option Nat):=do
 liftM (rule "list.sort.descending-run")
 let __s <- dsc lo (n+1) nrem
 match __s.fst with
 | some r=>pure r
 | none=>
  if __s.snd.snd > 0 then do
   reverseSlice' (lo+__s.snd.fst - (__s.snd.snd+1)) (lo+__s.snd.fst)
   tl3 lo __s.snd.fst nrem
  else tl3 lo __s.snd.fst nrem
theorem bindc {α β:Type}{m:StateT SortSt Sem α}{f g:α->StateT SortSt Sem β} (h:∀a,f a=g a):(m >>= f)=(m >>= g):=by
 have e:f=g:=funext h;rw[e]
theorem zdQ (lo nrem:Nat):countRun' lo nrem=(do
  let __s <- asc lo 1 nrem
  match __s.fst with
  | some r=>pure r
  | none=>
   if (__s.snd == nrem)=true then pure (some __s.snd)
   else if __s.snd > 1 then do
    let __x <- ltAt' lo (lo+__s.snd - 1)
    match __x with
    | some rose=>if rose=true then pure (some __s.snd) else do
      reverseSlice' lo (lo+__s.snd)
      zfT lo __s.snd nrem
    | _=>pure none
   else zfT lo __s.snd nrem):=by
 rw[countRun'_eq];unfold zfT tl3 dsc asc;refine bindc fun s1=>?_;obtain⟨r,n⟩:=s1;cases r with
 | some r=>rfl
 | none=>
  dsimp only;split
  ·rfl
  ·split
   ·refine bindc fun x=>?_
    cases x with
    | none=>rfl
    | some rose=>
     dsimp only;split
     ·rfl
     ·refine bindc fun _r=>bindc fun _u=>bindc fun s2=>?_
      obtain⟨r2,n2,q2⟩:=s2;cases r2 with
      | some r2=>rfl
      | none=>
       dsimp only;split
       ·refine bindc fun _v=>bindc fun _w=>bindc fun s3=>?_
        obtain⟨r3,n3⟩:=s3; cases r3 <;> rfl
       ·refine bindc fun _w=>bindc fun s3=>?_
        obtain⟨r3,n3⟩:=s3; cases r3 <;> rfl
   ·refine bindc fun _u=>bindc fun s2=>?_
    obtain⟨r2,n2,q2⟩:=s2;cases r2 with
    | some r2=>rfl
    | none=>
     dsimp only;split
     ·refine bindc fun _v=>bindc fun _w=>bindc fun s3=>?_
      obtain⟨r3,n3⟩:=s3; cases r3 <;> rfl
     ·refine bindc fun _w=>bindc fun s3=>?_
      obtain⟨r3,n3⟩:=s3; cases r3 <;> rfl
theorem zhQ (C:Cmp prog w A s κ a₀ ρ) {st:SortSt}{lo a nrem:Nat}{Q:AscSt->SortSt->Prop} (hn:lo+nrem<=a₀.size) (ha:1<=a) (han:a<=nrem) (hB:B κ a₀ st) (hs:Srt ρ (arrOf st) lo (lo+a))
  (h:∀n,a<=n->n<=nrem->Srt ρ (arrOf st) lo (lo+n)->(n=nrem \/ R ρ (arrOf st) (lo+n)<R ρ (arrOf st) (lo+n - 1))->Q (none,n) st) :
  wpS (model prog w) A E s (asc lo a nrem) Q st:=by
 unfold asc;refine wpS_forRange (I:=fun x c st'=>st'=st/\c=(none,x)/\Srt ρ (arrOf st) lo (lo+x)) ?step ?fin ⟨rfl,rfl,hs⟩
 case fin=>
  rintro c st' ⟨rfl,rfl,hs'⟩;rw[show max a nrem=nrem by omega] at hs' ⊢;exact h nrem han (Nat.le_refl _) hs' (.inl rfl)
 case step=>
  rintro x c st' hax hxn ⟨rfl,rfl,hs'⟩;dsimp only;refine wpS_bind (zbZ C hB (by omega) (by omega) ?_)
  by_cases hless:R ρ (arrOf st') (lo+x)<R ρ (arrOf st') (lo+x - 1)
  ·simp only[hless,decide_true,if_true]
   exact wpS_pure (h x hax (by omega) hs' (.inr hless))
  ·simp only[hless,decide_false,Bool.false_eq_true,if_false]
   refine wpS_pure ⟨rfl,rfl,fun i j hl hij hj=>?_⟩
   by_cases hjx:j<lo+x
   ·exact hs' i j hl hij hjx
   ·have hj':j=lo+x:=by omega
    subst hj'
    by_cases hi':i=lo+x
    ·subst hi'; exact Int.le_refl _
    ·exact Int.le_trans (hs' i (lo+x - 1) hl (by omega) (by omega)) (Int.not_lt.mp hless)
theorem zeB {st:SortSt}{i j:Nat}{Q:Unit->SortSt->Prop} (h:Q () (setArr st (mirror (arrOf st) i j ((j - i) / 2)))):wpS (model prog w) A E s (reverseSlice' i j) Q st:=by
 rw[reverseSlice'_eq]; exact wpS_modify h
abbrev Got (κ:SortKind) (a₀:Array Keyed) (ρ:Keyed->Int) (lo nrem:Nat) (st:SortSt) (Q:Option Nat->SortSt->Prop):Prop:=
 ∀m st',B κ a₀ st'->Pre lo st st'->1<=m->m<=nrem->Srt ρ (arrOf st') lo (lo+m)->Q (some m) st'
theorem zh0 (C:Cmp prog w A s κ a₀ ρ) {st st₀:SortSt}{lo n nrem:Nat}{Q:Option Nat->SortSt->Prop} (hn:lo+nrem<=a₀.size) (h1:1<=n) (hnn:n<=nrem) (hB:B κ a₀ st) (hP:Pre lo st₀ st)
  (hs:Dsc ρ (arrOf st) lo (lo+n)) (h:Got κ a₀ ρ lo nrem st₀ Q):wpS (model prog w) A E s (tl3 lo n nrem) Q st:=by
 unfold tl3;have hsz:lo+n<=(arrOf st).size:=by rw[hB.size]; omega
 refine wpS_bind (zeB ?_);have hB':B κ a₀ (setArr st (mirror (arrOf st) lo (lo+n) ((lo+n - lo) / 2))):=hB.setArr (mirror_perm _ _ _ _);refine wpS_bind (zhQ C hn h1 hnn hB' ?_ fun m hm1 hm2 hsm _=>wpS_pure (h m _ hB' (hP.trans (.mir hsz (Nat.le_refl _))) (by omega) hm2 hsm));intro i j hl hij hj;show R ρ (mirror (arrOf st) lo (lo+n) ((lo+n - lo) / 2)) i<=R ρ (mirror (arrOf st) lo (lo+n) ((lo+n - lo) / 2)) j;rw[zcz hsz,zcz hsz,if_pos (by omega),if_pos (by omega)];exact hs _ _ (by omega) (by omega) (by omega)
theorem zjm (C:Cmp prog w A s κ a₀ ρ) {st st₀:SortSt}{lo n nrem:Nat}{Q:DescSt->SortSt->Prop} (hn:lo+nrem<=a₀.size) (h1:1<=n) (hnn:n<=nrem) (hB:B κ a₀ st) (hP:Pre lo st₀ st)
  (hs:Dsc ρ (arrOf st) lo (lo+n))
  (h:∀m neq st',B κ a₀ st'->Pre lo st₀ st'->n<=m->m<=nrem->Dsc ρ (arrOf st') lo (lo+m)->neq+1<=m->(∀i,lo+m - (neq+1)<=i->i<lo+m->R ρ (arrOf st') i=R ρ (arrOf st') (lo+m - 1))->Q (none,m,neq) st') :
  wpS (model prog w) A E s (dsc lo n nrem) Q st:=by
 unfold dsc;refine wpS_forRange (I:=fun x c st'=>∃neq,c=(none,x,neq)/\B κ a₀ st'/\Pre lo st₀ st'/\Dsc ρ (arrOf st') lo (lo+x)/\neq+1<=x/\
   (∀i,lo+x - (neq+1)<=i->i<lo+x->R ρ (arrOf st') i=R ρ (arrOf st') (lo+x - 1))) ?step ?fin ⟨0,rfl,hB,hP,hs,by omega,fun i h1 h2=>by congr 1; omega⟩
 case fin=>
  rintro c st' ⟨neq,rfl,hB',hP',hs',hq,he⟩;rw[show max n nrem=nrem by omega] at hs' hq he ⊢;exact h nrem neq st' hB' hP' hnn (Nat.le_refl _) hs' hq he
 case step=>
  rintro x c st' hax hxn ⟨neq,rfl,hB',hP',hs',hq,he⟩;dsimp only;have hsz:lo+x<=(arrOf st').size:=by rw[hB'.size]; omega
  refine wpS_bind (zbZ C hB' (by omega) (by omega) ?_)
  by_cases hless:R ρ (arrOf st') (lo+x)<R ρ (arrOf st') (lo+x - 1)
  ·simp only[hless,decide_true,if_true]
   have step1:∀xs:Array Keyed,(∀k,R ρ xs k=R ρ (arrOf st') k)->Dsc ρ xs lo (lo+(x+1)):=by
    intro xs hk i j hl hij hj;rw[hk,hk]
    by_cases hjx:j<lo+x
    ·exact hs' i j hl hij hjx
    ·have hj':j=lo+x:=by omega
     subst hj'
     by_cases hi':i=lo+x
     ·subst hi'; exact Int.le_refl _
     ·exact Int.le_trans (Int.le_of_lt hless) (hs' i (lo+x - 1) hl (by omega) (by omega))
   by_cases hneq:neq > 0
   ·rw[if_pos hneq]
    refine wpS_bind (zeB (wpS_pure ⟨0,rfl,hB'.setArr (mirror_perm _ _ _ _),hP'.trans (.mir hsz (by omega)),step1 _ (zQ hsz he),by omega,fun i h1 h2=>by congr 1; omega⟩))
   ·rw[if_neg hneq]
    exact wpS_pure ⟨0,rfl,hB',hP',step1 _ (fun _=>rfl),by omega,fun i h1 h2=>by congr 1; omega⟩
  ·simp only[hless,decide_false,Bool.false_eq_true,if_false]
   refine wpS_bind (zbZ C hB' (by omega) (by omega) ?_)
   by_cases hlarger:R ρ (arrOf st') (lo+x - 1)<R ρ (arrOf st') (lo+x)
   ·simp only[hlarger,decide_true,if_true]
    exact wpS_pure (h x neq st' hB' hP' hax (by omega) hs' hq he)
   ·simp only[hlarger,decide_false,Bool.false_eq_true,if_false]
    have heqx:R ρ (arrOf st') (lo+x)=R ρ (arrOf st') (lo+x - 1):=by omega
    refine wpS_pure ⟨neq+1,rfl,hB',hP',fun i j hl hij hj=>?_,by omega,fun i h1 h2=>?_⟩
    ·by_cases hjx:j<lo+x
     ·exact hs' i j hl hij hjx
     ·have hj':j=lo+x:=by omega
      subst hj'
      by_cases hi':i=lo+x
      ·subst hi'; exact Int.le_refl _
      ·rw[heqx]; exact hs' i (lo+x - 1) hl (by omega) (by omega)
    ·rw[show lo+(x+1) - 1=lo+x by omega]
     by_cases hix:i=lo+x
     ·subst hix; rfl
     ·rw[heqx]; exact he i (by omega) (by omega)
theorem zeP (C:Cmp prog w A s κ a₀ ρ) {st st₀:SortSt}{lo n nrem:Nat}{Q:Option Nat->SortSt->Prop} (hn:lo+nrem<=a₀.size) (hnn:n+1<=nrem) (hB:B κ a₀ st) (hP:Pre lo st₀ st)
  (hs:Dsc ρ (arrOf st) lo (lo+(n+1))) (h:Got κ a₀ ρ lo nrem st₀ Q):wpS (model prog w) A E s (zfT lo n nrem) Q st:=by
 unfold zfT;refine wpS_bind (wpS_lift (wpAny_rule ⟨rfl,?_⟩));refine wpS_bind (zjm C hn (by omega) hnn hB hP hs fun m neq st' hB' hP' hm1 hm2 hs' hq he=>?_);dsimp only;have hsz:lo+m<=(arrOf st').size:=by rw[hB'.size]; omega
 by_cases hneq:neq > 0
 ·rw[if_pos hneq]
  refine wpS_bind (zeB (zh0 C hn (by omega) hm2 (hB'.setArr (mirror_perm _ _ _ _)) (hP'.trans (.mir hsz (by omega))) ?_ h));intro i j hl hij hj;show R ρ (mirror (arrOf st') _ _ _) j<=R ρ (mirror (arrOf st') _ _ _) i;rw[zQ hsz he,zQ hsz he];exact hs' i j hl hij hj
 ·rw[if_neg hneq]
  exact zh0 C hn (by omega) hm2 hB' hP' hs' h
theorem zea (C:Cmp prog w A s κ a₀ ρ) {st:SortSt}{lo nrem:Nat}{Q:Option Nat->SortSt->Prop} (hn:lo+nrem<=a₀.size) (h1:1<=nrem) (hB:B κ a₀ st)
  (h:Got κ a₀ ρ lo nrem st Q):wpS (model prog w) A E s (countRun' lo nrem) Q st:=by
 rw[zdQ];refine wpS_bind (zhQ C hn (Nat.le_refl 1) h1 hB (fun i j hl hij hj=>by have:i=j:=(by omega); subst this; exact Int.le_refl _) fun n hn1 hn2 hsn hor=>?_);dsimp only
 by_cases hnn:n=nrem
 ·rw[if_pos (by simpa using hnn)]
  exact wpS_pure (h n st hB .refl hn1 hn2 hsn)
 ·rw[if_neg (by simpa using hnn)]
  have hlt:R ρ (arrOf st) (lo+n)<R ρ (arrOf st) (lo+n - 1):=hor.resolve_left hnn
  by_cases hgt:n > 1
  ·rw[if_pos hgt]
   refine wpS_bind (zbZ C hB (by omega) (by omega) ?_)
   by_cases hrose:R ρ (arrOf st) lo<R ρ (arrOf st) (lo+n - 1)
   ·simp only[hrose,decide_true,if_true]
    exact wpS_pure (h n st hB .refl hn1 hn2 hsn)
   ·simp only[hrose,decide_false,Bool.false_eq_true,if_false]
    have hsz:lo+n<=(arrOf st).size:=by rw[hB.size]; omega
    have hall:∀k,lo<=k->k<lo+n->R ρ (arrOf st) k=R ρ (arrOf st) (lo+n - 1):=by
     intro k hl hk;have a1:=hsn lo k (by omega) hl hk;have a2:=hsn k (lo+n - 1) hl (by omega) (by omega);omega
    refine wpS_bind (zeB (zeP C hn (by omega) (hB.setArr (mirror_perm _ _ _ _)) (.mir hsz (Nat.le_refl _)) ?_ h));intro i j hl hij hj;show R ρ (mirror (arrOf st) _ _ _) j<=R ρ (mirror (arrOf st) _ _ _) i;rw[zQ hsz hall,zQ hsz hall]
    by_cases hjn:j<lo+n
    ·rw[hall i (by omega) (by omega),hall j (by omega) hjn]; exact Int.le_refl _
    ·have hj':j=lo+n:=by omega
     subst hj'
     by_cases hi':i=lo+n
     ·subst hi'; exact Int.le_refl _
     ·rw[hall i (by omega) (by omega)]; exact Int.le_of_lt hlt
  ·rw[if_neg hgt]
   have hn1':n=1:=by omega
   subst hn1';refine zeP C hn (by omega) hB .refl ?_ h;intro i j hl hij hj
   by_cases hi':i=j
   ·subst hi'; exact Int.le_refl _
   ·have hi0:i=lo:=by omega
    have hj1:j=lo+1:=by omega
    subst hi0; subst hj1;exact Int.le_of_lt hlt
theorem zcO (C:Cmp prog w A s κ a₀ ρ) {st:SortSt}{lo n ok:Nat}{Q:Bool->SortSt->Prop} (hn:lo+n<=a₀.size) (hok:ok<=n) (hB:B κ a₀ st) (hs:Srt ρ (arrOf st) lo (lo+ok))
  (h:∀st',B κ a₀ st'->Pre lo st st'->Srt ρ (arrOf st') lo (lo+n)->Q true st'):wpS (model prog w) A E s (binarySort' lo n ok) Q st:=by
 rw[binarySort'_eq];refine wpS_bind (wpS_mono (wpS_forRange (I:=fun k c st'=>c=(none,())/\B κ a₀ st'/\Pre lo st st'/\Srt ρ (arrOf st') lo (lo+min k n))
  (Q:=fun c st'=>c=(none,())/\B κ a₀ st'/\Pre lo st st'/\Srt ρ (arrOf st') lo (lo+n)) ?step ?fin ?init) ?post)
 case post=>
  rintro c st' ⟨rfl,hB',hP',hs'⟩;exact wpS_pure (h st' hB' hP' hs')
 case init=>
  refine⟨rfl,hB,.refl,fun i j hl hij hj=>?_⟩
  by_cases h1:ok=0
  ·have:i=j:=by omega
   subst this; exact Int.le_refl _
  ·exact hs i j hl hij (by omega)
 case fin=>
  rintro c st' ⟨hc,hB',hP',hs'⟩;refine⟨hc,hB',hP',?_⟩
  rwa [show min (max (max ok 1) n) n=n by omega] at hs'
 case step=>
  rintro k c st' hak hkn ⟨rfl,hB',hP',hs'⟩;rw[show min k n=k by omega] at hs';have hk:lo+k<a₀.size:=by omega
  refine wpS_bind (wpS_mono (wpS_forRange (I:=fun x c st''=>st''=st'/\∃l r,c=(none,l,r)/\l<=r/\r<=k/\r - l<=k - x/\
    (∀i,i<l->R ρ (arrOf st') (lo+i)<=R ρ (arrOf st') (lo+k))/\(∀i,r<=i->i<k->R ρ (arrOf st') (lo+k)<R ρ (arrOf st') (lo+i)))
   (Q:=fun c st''=>st''=st'/\∃l r,c=(none,l,r)/\l<=k/\
    (∀i,i<l->R ρ (arrOf st') (lo+i)<=R ρ (arrOf st') (lo+k))/\(∀i,l<=i->i<k->R ρ (arrOf st') (lo+k)<R ρ (arrOf st') (lo+i))) ?istep ?ifin ?iinit) ?ipost)
  case iinit=>exact⟨rfl,0,k,rfl,by omega,by omega,by omega,fun i hi=>by omega,fun i h1 h2=>by omega⟩
  case ifin=>
   rintro c st'' ⟨rfl,l,r,rfl,hlr,hrk,hm,hlo,hhi⟩;have:l=r:=by omega
   subst this;exact⟨rfl,l,l,rfl,hrk,hlo,hhi⟩
  case istep=>
   rintro x c st'' _ hxk ⟨rfl,l,r,rfl,hlr,hrk,hm,hlo,hhi⟩;dsimp only
   by_cases hge:l ≥ r
   ·rw[if_pos hge]
    have:l=r:=by omega
    subst this;exact wpS_pure ⟨rfl,l,l,rfl,hrk,hlo,hhi⟩
   ·rw[if_neg hge]
    refine wpS_bind (zbZ C hB' hk (by omega) ?_)
    by_cases hless:R ρ (arrOf st'') (lo+k)<R ρ (arrOf st'') (lo+(l+r) / 2)
    ·simp only[hless,decide_true,if_true]
     refine wpS_pure ⟨rfl,l,(l+r) / 2,rfl,by omega,by omega,by omega,hlo,fun i h1 h2=>?_⟩;exact Int.lt_of_lt_of_le hless (hs' _ _ (by omega) (by omega) (by omega))
    ·simp only[hless,decide_false,Bool.false_eq_true,if_false]
     refine wpS_pure ⟨rfl,(l+r) / 2+1,r,rfl,by omega,by omega,by omega,fun i h1=>?_,hhi⟩;exact Int.le_trans (hs' (lo+i) (lo+(l+r) / 2) (by omega) (by omega) (by omega)) (Int.not_lt.mp hless)
  case ipost=>
   rintro c st'' ⟨rfl,l,r,rfl,hlk,hlo,hhi⟩;show wpS _ _ _ _ (do moveDown' (lo+k) (lo+l); pure (ForInStep.yield (none,()))) _ _;rw[moveDown'_eq];have hks:lo+k<(arrOf st'').size:=by rw[hB'.size]; exact hk
   refine wpS_bind (wpS_modify (wpS_pure ⟨rfl,hB'.setArr (bubble_perm _ _ _),hP'.trans (.bub hks (by omega) (by omega)),?_⟩));rw[show min (k+1) n=k+1 by omega];intro i j hl hij hj;show R ρ (bubble (arrOf st'') (lo+k) (lo+k - (lo+l))) i<=R ρ (bubble (arrOf st'') (lo+k) (lo+k - (lo+l))) j;rw[zek hks (by omega),zek hks (by omega),show lo+k - (lo+k - (lo+l))=lo+l by omega];have q1:∀i,lo<=i->i<lo+l->R ρ (arrOf st'') i<=R ρ (arrOf st'') (lo+k):=fun i h1 h2=>by
    have:=hlo (i - lo) (by omega); rwa [show lo+(i - lo)=i by omega] at this
   have q2:∀i,lo+l<=i->i<lo+k->R ρ (arrOf st'') (lo+k)<R ρ (arrOf st'') i:=fun i h1 h2=>by
    have:=hhi (i - lo) (by omega) (by omega); rwa [show lo+(i - lo)=i by omega] at this
   repeat' split
   all_goals first
    | (exfalso; omega)
    | exact Int.le_refl _
    | exact q1 _ (by omega) (by omega)
    | exact Int.le_of_lt (q2 _ (by omega) (by omega))
    | exact hs' _ _ (by omega) (by omega) (by omega)
end
end Tim
end
section
namespace Tim
open PySem PyProof.Rows
section
variable {prog:Program}{w:World}{A:Around}{E:Value->Shared->Prop}{s:Shared}{κ:SortKind}{a₀:Array Keyed}{ρ:Keyed->Int}
theorem zdV (C:Cmp prog w A s κ a₀ ρ) {st:SortSt}{Q:Unit->SortSt->Prop} (hB:B κ a₀ st) (hp:pendingOf st=#[]) (h1:1<=a₀.size) (h64:a₀.size<64)
  (h:∀st',B κ a₀ st'->Srt ρ (arrOf st') 0 a₀.size->Q () st'):wpS (model prog w) A E s sortRuns' Q st:=by
 rw[sortRuns'_eq];refine wpS_bind (wpS_get ?_);dsimp only;have hmr:minRun' a₀.size a₀.size 0=a₀.size:=by
  obtain⟨f,hf⟩:∃f,a₀.size=f+1:=⟨a₀.size - 1,by omega⟩;have:minRun' (f+1) a₀.size 0=a₀.size:=by rw[minRun'_succ,if_pos h64]; rfl
  rwa [<- hf] at this
 simp only[hB.size,hmr];refine wpS_bind (wpS_mono (wpS_forRange
  (I:=fun x c st'=>(x=0/\c=(none,0)/\B κ a₀ st'/\pendingOf st'=#[]) \/ (1<=x/\c=(none,a₀.size)/\B κ a₀ st'/\(pendingOf st').size<=1/\Srt ρ (arrOf st') 0 a₀.size))
  (Q:=fun c st'=>c=(none,a₀.size)/\B κ a₀ st'/\(pendingOf st').size<=1/\Srt ρ (arrOf st') 0 a₀.size) ?step ?fin (.inl ⟨rfl,rfl,hB,hp⟩)) ?post)
 case fin=>
  rintro c st' (⟨hx,_,_⟩ | ⟨_,hc,hD⟩)
  ·omega
  ·exact⟨hc,hD⟩
 case step=>
  rintro x c st' _ hx (⟨rfl,rfl,hB',hp'⟩ | ⟨hx1,rfl,hD⟩)
  ·dsimp only
   rw[if_neg (by omega)];simp only[Nat.sub_zero,Nat.min_self];refine wpS_bind (zea C (by omega) (by omega) hB' fun m st2 hB2 P2 m1 m2 sr2=>?_);dsimp only;have tl:∀st3,B κ a₀ st3->pendingOf st3=#[]->Srt ρ (arrOf st3) 0 a₀.size->B κ a₀ (setPending st3 ((pendingOf st3).push (0,a₀.size,0)))/\(pendingOf (setPending st3 ((pendingOf st3).push (0,a₀.size,0)))).size<=1/\Srt ρ (arrOf (setPending st3 ((pendingOf st3).push (0,a₀.size,0)))) 0 a₀.size:=
    fun st3 b p q=>⟨⟨b.perm,b.kind,b.failed⟩,by show ((pendingOf st3).push _).size<=1; rw[p]; exact Nat.le_refl 1,q⟩
   by_cases hlt:m<a₀.size
   ·rw[if_pos hlt]
    refine wpS_bind (wpS_lift (wpAny_rule ⟨rfl,?_⟩));refine wpS_bind (zcO C (by omega) m2 hB2 sr2 fun st3 hB3 P3 sr3=>?_);simp only[Bool.not_true,Bool.false_eq_true,if_false];refine wpS_bind (wpS_get ?_);have hp3:pendingOf st3=#[]:=by rw[P3.pend,P2.pend]; exact hp'
    have hb:(pendingOf st3).back?=none:=by rw[hp3]; rfl
    rw[hb];dsimp only;simp only[Nat.zero_add] at sr3 ⊢;exact wpS_bind (wpS_modify (wpS_pure (.inr ⟨by omega,rfl,tl st3 hB3 hp3 sr3⟩)))
   ·rw[if_neg hlt]
    have hm:m=a₀.size:=by omega
    subst hm;refine wpS_bind (wpS_get ?_);have hp2:pendingOf st2=#[]:=by rw[P2.pend]; exact hp'
    have hb:(pendingOf st2).back?=none:=by rw[hp2]; rfl
    rw[hb];dsimp only;simp only[Nat.zero_add] at sr2 ⊢;exact wpS_bind (wpS_modify (wpS_pure (.inr ⟨by omega,rfl,tl st2 hB2 hp2 sr2⟩)))
  ·dsimp only
   rw[if_pos (Nat.le_refl _)];exact wpS_pure ⟨rfl,hD⟩
 case post=>
  rintro c st' ⟨rfl,hB',hs1,sr⟩;dsimp only;refine wpS_bind (wpS_mono (wpS_forRange (I:=fun _ c st''=>st''=st'/\c=(none,())) (Q:=fun c st''=>st''=st'/\c=(none,())) ?_ (fun _ _ hh=>hh) ⟨rfl,rfl⟩) ?_)
  ·rintro x c st'' _ _ ⟨rfl,rfl⟩
   refine wpS_bind (wpS_get ?_);rw[if_pos hs1];exact wpS_pure ⟨rfl,rfl⟩
  ·rintro c st'' ⟨rfl,rfl⟩
   exact wpS_pure (h _ hB' sr)
end
end Tim
end
section
namespace Srt
open PySem PyProof.Rows HT
theorem zdD:∀a:List Int,lexLt a a=false
 | []=>rfl
 | x::a=>by rw[zG,if_pos rfl]; exact zdD a
theorem zan:∀{a b c:List Int},lexLt a b=true->lexLt b c=true->lexLt a c=true
 | [],[],_,h,_=>by cases h
 | [],_::_,[],_,h=>by cases h
 | [],_::_,_::_,_,_=>rfl
 | _::_,[],_,h,_=>by cases h
 | _::_,_::_,[],_,h=>by cases h
 | x::a,y::b,z::c,h1,h2=>by
  rw[zG] at h1 h2 ⊢
  by_cases e1:x=y
  ·rw[if_pos e1] at h1
   by_cases e2:y=z
   ·rw[if_pos e2] at h2
    rw[if_pos (e1.trans e2)];exact zan h1 h2
   ·rw[if_neg e2] at h2
    rw[if_neg (by omega)];have:=of_decide_eq_true h2;exact decide_eq_true (by omega)
  ·rw[if_neg e1] at h1
   have q1:=of_decide_eq_true h1
   by_cases e2:y=z
   ·rw[if_neg (by omega)]
    exact decide_eq_true (by omega)
   ·rw[if_neg e2] at h2
    have q2:=of_decide_eq_true h2;rw[if_neg (by omega)];exact decide_eq_true (by omega)
theorem zfG:∀{a b:List Int},lexLt a b=false->lexLt b a=false->a=b
 | [],[],_,_=>rfl
 | [],_::_,h,_=>by cases h
 | _::_,[],_,h=>by cases h
 | x::a,y::b,h1,h2=>by
  rw[zG] at h1 h2
  by_cases e:x=y
  ·subst e
   rw[if_pos rfl] at h1 h2;rw[zfG h1 h2]
  ·rw[if_neg e] at h1
   rw[if_neg (Ne.symm e)] at h2;have:=of_decide_eq_false h1;have:=of_decide_eq_false h2;omega
def rk (ls:List (List Int)) (l:List Int):Int:=((ls.filter fun m=>lexLt m l).length:Nat)
theorem zkf {ls:List (List Int)}{l m:List Int} (hl:l∈ls) (hm:m∈ls):decide (rk ls l<rk ls m)=lexLt l m:=by
 have mono:∀{a b:List Int},(∀x,lexLt x a=true->lexLt x b=true)->∀k:List (List Int),(k.filter fun x=>lexLt x a).length<=(k.filter fun x=>lexLt x b).length:=by
  intro a b hab k
  induction k with
  | nil=>exact Nat.le_refl _
  | cons x k ih=>
   rw[List.filter_cons,List.filter_cons]
   by_cases q:lexLt x a=true
   ·rw[if_pos q,if_pos (hab x q),List.length_cons,List.length_cons]; omega
   ·rw[if_neg q]
    split
    ·rw[List.length_cons]; omega
    ·exact ih
 have strict:∀{a b:List Int},(∀x,lexLt x a=true->lexLt x b=true)->lexLt a b=true->∀k:List (List Int),a∈k->(k.filter fun x=>lexLt x a).length<(k.filter fun x=>lexLt x b).length:=by
  intro a b hab h k
  induction k with
  | nil=>intro q; cases q
  | cons x k ih=>
   intro hk;rw[List.filter_cons,List.filter_cons];rcases List.mem_cons.mp hk with e | e
   ·subst e
    rw[if_neg (by rw[zdD]; exact Bool.false_ne_true),if_pos h,List.length_cons];have:=mono hab k;omega
   ·have:=ih e
    by_cases q:lexLt x a=true
    ·rw[if_pos q,if_pos (hab x q),List.length_cons,List.length_cons]; omega
    ·rw[if_neg q]
     split
     ·rw[List.length_cons]; omega
     ·exact this
 unfold rk;cases q:lexLt l m with
 | true=>
  have:=strict (a:=l) (b:=m) (fun x hx=>zan hx q) q ls hl;exact decide_eq_true (by omega)
 | false=>
  have:=mono (a:=m) (b:=l) (fun x hx=>by
   cases z:lexLt x l with
   | true=>rfl
   | false=>
    cases z2:lexLt l x with
    | true=>rw[zan z2 hx] at q; cases q
    | false=>rw[zfG z z2] at hx; rw[hx] at q; cases q) ls
  exact decide_eq_false (by omega)
structure By (prog:Program) (w:World) (A:Around) (good:Heap->Prop) (us:List Value) (ls:List (List Int)):Prop where
 len:us.length=ls.length
 fn:∀(i j:Nat) u l m,us[i]?=some u->us[j]?=some u->ls[i]?=some l->ls[j]?=some m->l=m
 ask:2<=us.length->∃κ:SortKind,(∀(s:Shared) (Q:SortKind->Shared->Prop) (E:Value->Shared->Prop),good s.heap->Q κ s->wpAny (model prog w) A (keyKind' us.toArray) Q E s)/\
  ∀(i j:Nat) u v l m,us[i]?=some u->us[j]?=some v->ls[i]?=some l->ls[j]?=some m->∀(s:Shared) (Q:Bool->Shared->Prop) (E:Value->Shared->Prop),good s.heap->Q (lexLt l m) s->wpAny (model prog w) A (keyLt' κ u v) Q E s
open Classical in
noncomputable def lof (us:List Value) (ls:List (List Int)) (u:Value):List Int:=if h:∃l,∃i:Nat,us[i]?=some u/\ls[i]?=some l then h.choose else []
theorem zc6 {us:List Value}{ls:List (List Int)} (fn:∀(i j:Nat) u l m,us[i]?=some u->us[j]?=some u->ls[i]?=some l->ls[j]?=some m->l=m) {i:Nat}{u:Value}{l:List Int} (h1:us[i]?=some u) (h2:ls[i]?=some l):lof us ls u=l:=by
 unfold lof;have h:∃l,∃i:Nat,us[i]?=some u/\ls[i]?=some l:=⟨l,i,h1,h2⟩;rw[dif_pos h];obtain⟨j,e1,e2⟩:=h.choose_spec;exact fn j i u _ l e1 h1 e2 h2
noncomputable def ze4 (us:List Value) (ls:List (List Int)) (p:Keyed):Int:=rk ls (lof us ls p.1)
section
variable {prog:Program}{w:World}{A:Around}{E:Value->Shared->Prop}{s:Shared}{good:Heap->Prop}{us vs:List Value}{ls:List (List Int)}
theorem zeD (h:us.length=vs.length) {p:Keyed} (hp:p∈(us.toArray.zip vs.toArray).toList):∃i:Nat,us[i]?=some p.1/\vs[i]?=some p.2:=by
 have e:(us.toArray.zip vs.toArray).toList=us.zip vs:=by simp
 rw[e] at hp;obtain⟨i,hi,e2⟩:=List.mem_iff_getElem.mp hp;rw[List.getElem_zip] at e2;rw[List.length_zip] at hi;refine⟨i,?_,?_⟩
 ·rw[List.getElem?_eq_getElem (by omega),<- e2]
 ·rw[List.getElem?_eq_getElem (by omega),<- e2]
theorem zkk (B:By prog w A good us ls) (hl:us.length=vs.length) (hg:good s.heap) {κ:SortKind} (h2:2<=us.length) (h64:us.length<64)
  (hk:∀(i j:Nat) u v l m,us[i]?=some u->us[j]?=some v->ls[i]?=some l->ls[j]?=some m->∀(s:Shared) (Q:Bool->Shared->Prop) (E:Value->Shared->Prop),good s.heap->Q (lexLt l m) s->wpAny (model prog w) A (keyLt' κ u v) Q E s)
  {Q:Unit->SortSt->Prop} (h:∀st',(arrOf st').Perm (us.toArray.zip vs.toArray)->failedOf st'=none->Tim.Srt (ze4 us ls) (arrOf st') 0 vs.length->Q () st') :
  wpS (model prog w) A E s sortRuns' Q (SortSt.mk' κ (us.toArray.zip vs.toArray) #[] 7 none):=by
 have hz:(us.toArray.zip vs.toArray).size=vs.length:=by simp; omega
 refine Tim.zdV (κ:=κ) (a₀:=us.toArray.zip vs.toArray) (ρ:=ze4 us ls) ⟨fun x y hx hy Q' E' hq=>?_⟩ ⟨Array.Perm.refl _,rfl,rfl⟩ rfl (by rw[hz]; omega) (by rw[hz]; omega) fun st' b sr=>h st' b.perm b.failed (by rw[<- hz]; exact sr);obtain⟨i,e1,_⟩:=zeD hl hx;obtain⟨j,e2,_⟩:=zeD hl hy;have hi:i<ls.length:=by rw[<- B.len]; exact (List.getElem?_eq_some_iff.mp e1).1
 have hj:j<ls.length:=by rw[<- B.len]; exact (List.getElem?_eq_some_iff.mp e2).1
 have f1:ls[i]?=some ls[i]:=List.getElem?_eq_getElem hi;have f2:ls[j]?=some ls[j]:=List.getElem?_eq_getElem hj;refine hk i j _ _ _ _ e1 e2 f1 f2 s Q' E' hg ?_;unfold ze4 at hq;rw[zc6 B.fn e1 f1,zc6 B.fn e2 f2,zkf (List.getElem_mem hi) (List.getElem_mem hj)] at hq;exact hq
theorem zipget {α β:Type}:∀(l:List α) (m:List β) (i:Nat),(l.zip m)[i]?=(l[i]?).bind fun x=>(m[i]?).map fun y=>(x,y)
 | [],m,i=>by simp
 | x::l,[],i=>by cases h:(x::l)[i]? <;> simp
 | x::l,y::m,0=>rfl
 | x::l,y::m,i+1=>by
  rw[List.zip_cons_cons,List.getElem?_cons_succ,List.getElem?_cons_succ,List.getElem?_cons_succ];exact zipget l m i
theorem zjv (B:By prog w A good us ls) (hl:us.length=vs.length) {xs:Array Keyed} (hp:xs.Perm (us.toArray.zip vs.toArray)) (hs:Tim.Srt (ze4 us ls) xs 0 vs.length) :
  ∃ps:List (List Int×Value),ps.Perm (ls.zip vs)/\xs.toList.map (·.2)=ps.map (·.2)/\ps.Pairwise fun (a b:List Int×Value)=>HT.lexLt b.1 a.1=false:=by
 have pl:xs.toList.Perm (us.zip vs):=by
  have:=Array.perm_iff_toList_perm.mp hp
  simpa using this
 refine⟨xs.toList.map fun p=>(lof us ls p.1,p.2),?_,by rw[List.map_map]; rfl,?_⟩
 ·have e:(us.zip vs).map (fun p:Keyed=>(lof us ls p.1,p.2))=ls.zip vs:=by
   apply List.ext_getElem?;intro i;rw[List.getElem?_map,zipget,zipget];cases e1:us[i]? with
   | none=>
    have:ls[i]?=none:=List.getElem?_eq_none (by rw[<- B.len]; exact List.getElem?_eq_none_iff.mp e1);rw[this]; rfl
   | some u=>
    have hi:i<ls.length:=by rw[<- B.len]; exact (List.getElem?_eq_some_iff.mp e1).1
    have f1:ls[i]?=some ls[i]:=List.getElem?_eq_getElem hi;rw[f1];cases e2:vs[i]? with
    | none=>rfl
    | some v=>
     show some (lof us ls u,v)=some (ls[i],v);rw[zc6 B.fn e1 f1]
  rw[<- e];exact pl.map _
 ·rw[List.pairwise_map,List.pairwise_iff_getElem]
  intro i j hi hj hij;have hsz:xs.size=vs.length:=by
   have:=pl.length_eq;rw[Array.length_toList,List.length_zip] at this;omega
  rw[Array.length_toList] at hi hj;have q:=hs i j (Nat.zero_le _) (Nat.le_of_lt hij) (by omega);have a1:xs[i]?=some xs[i]:=getElem?_pos xs i hi;have a2:xs[j]?=some xs[j]:=getElem?_pos xs j hj;rw[Tim.R_at a1,Tim.R_at a2] at q;simp only[Array.getElem_toList];obtain⟨i',g1,_⟩:=zeD hl (p:=xs[i]) (by
   have:=pl.mem_iff.mp (show xs[i]∈xs.toList by simp)
   simpa using this)
  obtain⟨j',g2,_⟩:=zeD hl (p:=xs[j]) (by
   have:=pl.mem_iff.mp (show xs[j]∈xs.toList by simp)
   simpa using this)
  have hi':i'<ls.length:=by rw[<- B.len]; exact (List.getElem?_eq_some_iff.mp g1).1
  have hj':j'<ls.length:=by rw[<- B.len]; exact (List.getElem?_eq_some_iff.mp g2).1
  have f1:ls[i']?=some ls[i']:=List.getElem?_eq_getElem hi';have f2:ls[j']?=some ls[j']:=List.getElem?_eq_getElem hj';unfold ze4 at q;rw[zc6 B.fn g1 f1,zc6 B.fn g2 f2] at q ⊢;have:=zkf (ls:=ls) (List.getElem_mem hj') (List.getElem_mem hi');rw[<- this];exact decide_eq_false (by omega)
end
end Srt
end
section
namespace Srt
open PySem PyProof.Rows PySem.W
section
variable {prog:Program}{w:World}{A:Around}{E:Value->Shared->Prop}{s:Shared}{good:Heap->Prop}{us vs:List Value}{ls:List (List Int)}
theorem zix {ns:List Int} (hi:IntsAre us ns):By prog w A (fun _=>True) us (ns.map fun n=>[n]):=by
 have hlen:=hi.length;have at_:∀(i:Nat) u l,us[i]?=some u->(ns.map fun n=>[n])[i]?=some l->∃n t,u=.int n t/\l=[n]:=fun i u l h1 h2=>by
  obtain⟨t,e⟩:=IntsAre.int_at hi i u h1;rw[List.getElem?_map] at h2;cases e2:ns[i]? with
  | none=>rw[e2] at h2; cases h2
  | some n=>
   rw[e2] at h2;have e3:ns.getD i 0=n:=by rw[List.getD_eq_getElem?_getD,e2]; rfl
   rw[e3] at e;exact⟨n,t,e,(Option.some.inj h2).symm⟩
 refine⟨by rw[List.length_map,hlen],fun i j u l m h1 h2 h3 h4=>?_,fun h2=>⟨oneType',fun s Q E _ hq=>?_,fun i j u v l m h1 h2 h3 h4 s Q E _ hq=>?_⟩⟩
 ·obtain⟨n,t,e1,rfl⟩:=at_ i u l h1 h3
  obtain⟨n',t',e2,rfl⟩:=at_ j u m h2 h4;rw[e1] at e2;cases e2
  rfl
 ·match us,hi,h2 with
  | [],_,h2=>simp at h2
  | [_],_,h2=>simp at h2
  | v₁::v₂::rest,hi,_=>
   rw[keyKind_ints hi];exact wpAny_pure hq
 ·obtain⟨n,t,rfl,rfl⟩:=at_ i u l h1 h3
  obtain⟨n',t',rfl,rfl⟩:=at_ j v m h2 h4;refine kat_lt_int ?_;have:HT.lexLt [n] [n']=decide (n<n'):=by
   rw[HT.zG]
   by_cases e:n=n'
   ·rw[if_pos e,HT.za3]; exact (decide_eq_false (by omega)).symm
   ·rw[if_neg e]
  rw[this] at hq;exact hq
def IsPr (h:Heap) (u:Value) (l:List Int):Prop:=∃(a b:Addr) (n:Int) (t:Tok) (its:List Value) (ps:List Int),u=.ref a/\l=n::ps/\IsTup h a #[.int n t,.ref b]/\IsTup h b its.toArray/\IntsAre its ps
theorem IsTup.inj {h:Heap}{a:Addr}{xs ys:Array Value} (h1:IsTup h a xs) (h2:IsTup h a ys):xs=ys:=by
 obtain⟨o,e,_,n,d⟩:=h1;obtain⟨o',e',_,n',d'⟩:=h2;rw[e] at e'; cases e';rw[d] at d';injection d'
theorem IntsAre.inj {vs:List Value}{ns ms:List Int} (h:IntsAre vs ns) (g:IntsAre vs ms):ns=ms:=by
 induction h generalizing ms with
 | nil=>cases g; rfl
 | cons n t h ih=>cases g with | cons _ _ h'=>rw[ih h']
theorem IsPr.inj {h:Heap}{u:Value}{l m:List Int} (h1:IsPr h u l) (h2:IsPr h u m):l=m:=by
 obtain⟨a,b,n,t,its,ps,rfl,rfl,t1,t2,i1⟩:=h1;obtain⟨a',b',n',t',its',ps',e,rfl,t1',t2',i1'⟩:=h2;cases e;have:=Srt.IsTup.inj t1 t1';cases this;have e2:=Srt.IsTup.inj t2 t2';have e3:its=its':=by simpa using e2
 subst e3;rw[IntsAre.inj i1 i1']
theorem zkx {x y:Value}{l m:List Int}{Q:Bool->Shared->Prop} (h1:IsPr s.heap x l) (h2:IsPr s.heap y m) (hu:A.units<cLine) (hq:Q (HT.lexLt l m) s):wpAny (model prog w) A (keyLt' (tuples' true) x y) Q E s:=by
 obtain⟨a,b,n,t,its,ps,rfl,rfl,t1,t2,i1⟩:=h1;obtain⟨a',b',n',t',its',ps',rfl,rfl,t1',t2',i1'⟩:=h2;obtain⟨o,e,hc,k,d⟩:=id t1;obtain⟨o',e',hc',k',d'⟩:=id t1';refine kat_lt e d e' d' ?_;show KatLex prog w A true (decide (2<2)) Q [(.int n t,.int n' t'),(.ref b,.ref b')] 0 s;rw[HT.zG] at hq;refine kat_cons (wpAny_mono (SeqAt.EqAt.int_int n t n' t' prog w (fun _ _=>False) _ ⟨rfl,rfl⟩:wpAny (model prog w) A (eqBool (.int n t) (.int n' t')) (fun e s'=>e=(n == n')/\s'=s) (fun _ _=>False) s) (fun e1 s1 he=>?_) fun _ _ z=>z);obtain⟨rfl,rfl⟩:=he
 by_cases en:n=n'
 ·have eb:(n == n')=true:=by simpa using en
  rw[eb];rw[if_pos en] at hq;refine kat_yes (kat_cons ?_);have ktup:∀{c:Addr} {cs:List Value} {qs:List Int},IsTup s1.heap c cs.toArray->IntsAre cs qs->IsTupleKey (L2.zA prog w) s1.heap (qs.map Sum.inl) c:=fun {c cs qs} hc hi=>by
   obtain⟨o,e,hcl,k,d⟩:=hc;refine⟨o,cs.toArray,k,e,hcl,d,?_⟩;have:∀{cs:List Value} {qs:List Int},IntsAre cs qs->ItemsAre (L2.zA prog w) (qs.map Sum.inl) cs:=by
    intro cs qs hi
    induction hi with
    | nil=>exact .nil
    | cons n t h ih=>exact .cons (L2.zaU prog w n t) ih
   simpa using this hi
  refine wpAny_eqBool_tuple (knd:=L2.zA prog w) hu (ktup t2 i1) (ktup t2' i1') ?_
  by_cases ep:ps=ps'
  ·subst ep
   rw[decide_eq_true rfl];rw[zdD] at hq;exact kat_yes (kat_nil hq)
  ·have:¬ (ps.map Sum.inl:List L2.Key)=ps'.map Sum.inl:=fun z=>ep (List.map_inj_right (f:=(Sum.inl:Int->L2.Key)) (fun x y h=>Sum.inl.inj h) |>.mp z)
   rw[decide_eq_false this];refine kat_no ?_;show wpAny (model prog w) A (oneLt' false (.ref b) (.ref b')) Q (fun _ _=>False) s1;exact kat_one _ _ (HT.zfb t2 t2' (by simpa using i1) (by simpa using i1') hu hq)
 ·have eb:(n == n')=false:=by simpa using en
  rw[eb];rw[if_neg en] at hq;refine kat_no ?_;show wpAny (model prog w) A (oneLt' true (.int n t) (.int n' t')) Q (fun _ _=>False) s1;exact oneLt_int hq
theorem zfH {h:Heap}:∀{us:List Value}{ls:List (List Int)},us.length=ls.length->(∀(i:Nat) u l,us[i]?=some u->ls[i]?=some l->IsPr h u l)->∃fs,KatTups h us fs/\fs.length=us.length/\∀f∈fs,∃n t,f=Value.int n t
 | [],[],_,_=>⟨[],.nil,rfl,fun f hf=>nomatch hf⟩
 | u::us,l::ls,hl,hp=>by
  obtain⟨fs,a1,a2,a3⟩:=zfH (us:=us) (ls:=ls) (by simpa using hl) fun i u l h1 h2=>hp (i+1) u l (by simpa using h1) (by simpa using h2);obtain⟨a,b,n,t,its,ps,rfl,rfl,t1,t2,i1⟩:=hp 0 u l rfl rfl;obtain⟨o,e,hc,k,d⟩:=id t1;refine⟨.int n t::fs,.cons e hc d rfl a1,by simp[a2],fun f hf=>?_⟩;rcases List.mem_cons.mp hf with rfl | hf
  ·exact⟨n,t,rfl⟩
  ·exact a3 f hf
 | [],_::_,h,_=>by simp at h
 | _::_,[],h,_=>by simp at h
theorem zh7 (hl:us.length=ls.length) (hu:A.units<cLine) (hg:∃h,good h) (hp:∀h,good h->∀(i:Nat) u l,us[i]?=some u->ls[i]?=some l->IsPr h u l):By prog w A good us ls:=by
 refine⟨hl,fun i j u l m h1 h2 h3 h4=>?_,fun h2=>⟨tuples' true,fun s Q E gs hq=>?_,fun i j u v l m h1 h2 h3 h4 s Q E gs hq=>?_⟩⟩
 ·obtain⟨h,gh⟩:=hg
  exact (hp h gh i u l h1 h3).inj (hp h gh j u m h2 h4)
 ·obtain⟨fs,a1,a2,a3⟩:=zfH hl (hp _ gs)
  refine kat_kind (T:=.type "int") a1 (by omega) (fun f hf=>?_) (by decide) hq;obtain⟨n,t,rfl⟩:=a3 f hf;exact Looks.of_pure rfl
 ·exact zkx (hp _ gs i u l h1 h3) (hp _ gs j v m h2 h4) hu hq
end
end Srt
end
section
namespace Srt
open PySem PyProof.Rows PySem.W
def Out (ls:List (List Int)) (vs out:List Value):Prop:=∃ps:List (List Int×Value),ps.Perm (ls.zip vs)/\out=ps.map (·.2)/\ps.Pairwise fun (a b:List Int×Value)=>HT.lexLt b.1 a.1=false
section
variable {prog:Program}{w:World}{A:Around}{E:Value->Shared->Prop}{s:Shared}{good:Heap->Prop}{us vs:List Value}{ls:List (List Int)}
theorem zfF (hl:ls.length=vs.length) (hu:us.length=vs.length) (h2:vs.length<2):Out ls vs ((us.toArray.zip vs.toArray).map (·.2)).toList:=by
 have e:((us.toArray.zip vs.toArray).map (·.2)).toList=vs:=by
  rw[Array.toList_map,show (us.toArray.zip vs.toArray).toList=us.zip vs by simp,List.map_snd_zip (by omega)]
 rw[e];refine⟨ls.zip vs,List.Perm.refl _,by rw[List.map_snd_zip (by omega)],?_⟩;have hz:(ls.zip vs).length<2:=by rw[List.length_zip]; omega
 match ls.zip vs,hz with
 | [],_=>exact List.Pairwise.nil
 | [x],_=>simp
 | _::_::_,h=>simp only[List.length_cons] at h; omega
theorem zem (B:By prog w A good us ls) (hl:us.length=vs.length) (h64:vs.length<64) (hg:good s.heap) {P:PySem.Fin->Shared->Prop}{G:Unit×SortSt->Sem PySem.Fin}
  (h:∀st',Out ls vs ((arrOf st').map (·.2)).toList->(arrOf st').size=vs.length->failedOf st'=none->wpAny (model prog w) A (G (PUnit.unit,st')) P E s) :
  wpAny (model prog w) A (if vs.toArray.size<2 then (pure general' >>= fun kind=>(if vs.toArray.size<2 then pure () else sortRuns').run (SortSt.mk' kind (us.toArray.zip vs.toArray) #[] 7 none) >>= G)
   else (keyKind' us.toArray >>= fun kind=>(if vs.toArray.size<2 then pure () else sortRuns').run (SortSt.mk' kind (us.toArray.zip vs.toArray) #[] 7 none) >>= G)) P E s:=by
 have hzs:(us.toArray.zip vs.toArray).size=vs.length:=by rw[Array.size_zip,List.size_toArray,List.size_toArray]; omega
 by_cases h2:vs.toArray.size<2
 ·rw[if_pos h2]
  refine wpAny_bind (wpAny_pure ?_);rw[if_pos h2];rw[StateT.run_pure];refine wpAny_bind (wpAny_pure ?_)
  try dsimp only
  rw[List.size_toArray] at h2;exact h (SortSt.mk' general' (us.toArray.zip vs.toArray) #[] 7 none) (zfF (by rw[<- B.len]; exact hl) hl h2) hzs rfl
 ·rw[if_neg h2,if_neg h2]
  rw[List.size_toArray] at h2;obtain⟨κ,k1,k2⟩:=B.ask (by omega);refine wpAny_bind (k1 s _ E hg ?_);refine wpAny_bind (wpAny_mono (zkk (Q:=fun _ st'=>(arrOf st').Perm (us.toArray.zip vs.toArray)/\failedOf st'=none/\Tim.Srt (ze4 us ls) (arrOf st') 0 vs.length) B hl hg (by omega) (by omega) k2 fun st' a1 a2 a3=>⟨a1,a2,a3⟩) ?_ fun _ _ e=>e);rintro⟨⟨⟩,st'⟩ s' ⟨rfl,hp,hf,hs⟩
  try dsimp only
  exact h st' (by
   obtain⟨ps,a1,a2,a3⟩:=zjv B hl hp hs;exact⟨ps,a1,by rw[Array.toList_map]; exact a2,a3⟩) (by rw[hp.size_eq]; exact hzs) hf
theorem zdr {a:Addr}{n:Nat}{P:PySem.Fin->Shared->Prop} (ho:s.heap.get? a=some (seqObj "list" vs.toArray n)) (B:By prog w A good vs ls)
  (hg:∀h',(∀b o,b≠a->s.heap.get? b=some o->h'.get? b=some o)->good h') (hz:vs.length<=sizeLine) (h64:vs.length<64)
  (h:∀out:Array Value,Out ls vs out.toList->P (.done (.ret .none)) { s with heap:=sortedHeap s.heap a vs out }) :
  wpAny (model prog w) A (Builtin.«list.sort» ⟨[.ref a],[]⟩) P E s:=by
 rw[list_sort_plain];have ha:a<s.heap.objs.size:=Heap.lt_size ho;refine wpAny_bind (listItems_at ho rfl ?_);refine wpAny_bind (listUpdate_at ho rfl ?_ (by rw[List.size_toArray]; exact hz) (Nat.zero_le _));obtain⟨e1,ho1⟩:∃e1,(s.heap.update a (Obj.mapSeq fun _=>#[])).get? a=some (seqObj "list" #[] e1):=⟨_,get?_update_seq ho (fun _=>#[])⟩;refine wpAny_bind (seqEpoch_at ho1 rfl ?_);refine wpAny_bind (wpAny_newTuple ?_ (by show vs.length<=_; exact hz));refine wpAny_bind (wpAny_newList ?_ (Nat.zero_le _));refine wpAny_holding ?_;have ho6:(((s.heap.update a (Obj.mapSeq fun _=>#[])).push (seqObj "tuple" vs.toArray 0)).push (seqObj "list" #[] 0)).get? a=some (seqObj "list" #[] e1):=by
  rw[Heap.get?_push_ne _ _ _ (by rw[size_push',Heap.size_update]; exact Nat.ne_of_lt (Nat.lt_succ_of_lt ha)),Heap.get?_push_ne _ _ _ (by rw[Heap.size_update]; exact Nat.ne_of_lt ha)];exact ho1
 show wpAny (model prog w) A _ P E { s with heap:=((s.heap.update a (Obj.mapSeq fun _=>#[])).push (seqObj "tuple" vs.toArray 0)).push (seqObj "list" #[] 0) };dsimp only;refine zem (s:={ s with heap:=((s.heap.update a (Obj.mapSeq fun _=>#[])).push (seqObj "tuple" vs.toArray 0)).push (seqObj "list" #[] 0) }) B rfl h64 (hg _ fun b o hb e=>Heap.get?_push_of_some _ (Heap.get?_push_of_some _ (by rw[Heap.get?_update_ne _ _ _ _ hb]; exact e))) fun st' ho hsz hf=>?_;dsimp only;refine wpAny_bind (seqEpoch_at ho6 rfl ?_);refine wpAny_bind (listUpdate_at ho6 rfl ?_ (Nat.zero_le _) (Nat.le_trans (Nat.le_of_eq ((Array.size_map ..).trans hsz)) (Nat.le_succ_of_le hz)));rw[hf];simp only[bne_self_eq_false,Bool.false_eq_true,if_false];exact wpAny_pure (h _ ho)
theorem zdh {l:Addr}{Q:Value->Shared->Prop} (hl:s.heap.IsList l vs.toArray) (B:By prog w A.in1.in1 good vs ls)
  (hg:∀h',(∀b o,s.heap.get? b=some o->h'.get? b=some o)->good h') (hz:vs.length<=sizeLine) (h64:vs.length<64)
  (h:∀out:Array Value,Out ls vs out.toList->Q (.ref (s.heap.objs.size+1)) { s with heap:=sortedAll s.heap vs out }) :
  wpAny (model prog w) A (call (.builtin "sorted") [.ref l]) Q E s:=by
 refine Calls.call_function_entry kind_sorted plain_sorted entry_sorted (args_sorted1 _) ?_;unfold Builtin.«sorted»;refine wpAny_bind (m:=checkCount "sorted" 1 1 _) (wpAny_pure ?_);refine wpAny_bind (collect_list hl ?_ hz);refine wpAny_bind (wpAny_newList ?_ hz);have hsz:((s.heap.push (seqObj "list" #[] 0)).update s.heap.objs.size (Obj.mapSeq (·++vs.toArray))).objs.size=s.heap.objs.size+1:=by
  rw[Heap.size_update,size_push']
 have hoL:(((s.heap.push (seqObj "list" #[] 0)).update s.heap.objs.size (Obj.mapSeq (·++vs.toArray))).push (seqObj "list" vs.toArray 0)).get? (s.heap.objs.size+1)=some (seqObj "list" vs.toArray 0):=by
  rw[<- hsz]; exact Heap.get?_push_size _ rfl
 have keep:∀b o,s.heap.get? b=some o->(((s.heap.push (seqObj "list" #[] 0)).update s.heap.objs.size (Obj.mapSeq (·++vs.toArray))).push (seqObj "list" vs.toArray 0)).get? b=some o:=fun b o q=>by
  have hlt:b<s.heap.objs.size:=Heap.lt_size q;rw[Heap.get?_push_ne _ _ _ (by rw[hsz]; exact Nat.ne_of_lt (Nat.lt_succ_of_lt hlt)),Heap.get?_update_ne _ _ _ _ (Nat.ne_of_lt hlt),Heap.get?_push_ne _ _ _ (Nat.ne_of_lt hlt)];exact q
 show wpAny _ _ _ _ _ { s with heap:=((s.heap.push (seqObj "list" #[] 0)).update s.heap.objs.size (Obj.mapSeq (·++vs.toArray))).push (seqObj "list" vs.toArray 0) };rw[hsz];refine wpAny_bind (wpAny_holding (wpAny_call_entry slot_list_sort ⟨_,hoL,rfl⟩ entry_list_sort (zdr (s:={ s with heap:=((s.heap.push (seqObj "list" #[] 0)).update s.heap.objs.size (Obj.mapSeq (·++vs.toArray))).push (seqObj "list" vs.toArray 0) }) hoL B (fun h' hk=>hg h' fun b o q=>hk b o (Nat.ne_of_lt (Nat.lt_succ_of_lt (Heap.lt_size q))) (keep b o q)) hz h64 fun out ho=>⟨_,rfl,?_⟩) (args_list_sort _)));exact wpAny_pure ⟨_,rfl,h out ho⟩
theorem ziv {a kS:Addr}{keys:Array Value}{e e1:Nat}{st:SortSt}{P:PySem.Fin->Shared->Prop} (nk:s.heap.get? kS=some (seqObj "list" keys e)) (na:s.heap.get? a=some (seqObj "list" #[] e1)) (hka:kS≠a)
  (hks:keys.size<=sizeLine) (ho:Out ls vs ((arrOf st).map (·.2)).toList) (hsz:(arrOf st).size=vs.length) (hz:vs.length<=sizeLine) (hfl:failedOf st=none)
  (h:∀h' out c,(∀b o,b≠kS->b≠a->s.heap.get? b=some o->h'.get? b=some o)->h'.get? a=some (seqObj "list" out c)->(∃o,h'.get? kS=some o)->Out ls vs out.toList->h'.objs.size=s.heap.objs.size->P (.done (.ret .none)) { s with heap:=h' }) :
  wpAny (model prog w) A (ksk_tail a false e1 (.ref kS) st) P E s:=by
 have s1:=Heap.SameBut.update s.heap kS (Obj.mapSeq fun _=>(#[]:Array Value));have na1:(s.heap.update kS (Obj.mapSeq fun _=>(#[]:Array Value))).get? a=some (seqObj "list" #[] e1):=(s1.2 a hka.symm).trans na;have s2:=Heap.SameBut.update (s.heap.update kS (Obj.mapSeq fun _=>(#[]:Array Value))) a (Obj.mapSeq fun _=>(arrOf st).map (·.2));obtain⟨c2,hc2⟩:∃c2,((s.heap.update kS (Obj.mapSeq fun _=>(#[]:Array Value))).update a (Obj.mapSeq fun _=>(arrOf st).map (·.2))).get? a=some (seqObj "list" ((arrOf st).map (·.2)) c2):=
  ⟨_,get?_update_seq na1 fun _=>(arrOf st).map (·.2)⟩
 unfold ksk_tail
 try dsimp only
 simp only[Bool.false_eq_true,if_false];refine wpAny_bind (listUpdate_at nk rfl ?_ hks (Nat.zero_le _));refine wpAny_bind (wpAny_letGo ?_);refine wpAny_bind (seqEpoch_at na1 rfl ?_);refine wpAny_bind (listUpdate_at na1 rfl ?_ (Nat.zero_le _) (Nat.le_trans (Nat.le_of_eq ((Array.size_map ..).trans hsz)) (Nat.le_succ_of_le hz)));rw[hfl];simp only[bne_self_eq_false,Bool.false_eq_true,if_false];refine wpAny_pure (h _ _ c2 (fun b o h1 h2 q=>(s2.2 b h2).trans ((s1.2 b h1).trans q)) hc2 ⟨_,(s2.2 kS hka).trans (get?_update_seq nk fun _=>#[])⟩ ho (by rw[Heap.size_update,Heap.size_update]))
end
end Srt
end
section
namespace L2
open PySem PySem.Spec PyProof.Rows
def clOf (cells:List (Str×Addr)):List (Str×NameKind)->List (Str×Addr)->List (Str×Addr)
 | [],acc=>acc
 | (n,k)::r,acc=>if (k == .free)=true then clOf cells r ((n,(cells.lookup n).getD 0)::acc) else clOf cells r acc
theorem zfA {env:Env}:∀(names:List (Str×NameKind)) (acc:List (Str×Addr)),(∀x∈names,x.2=.free->∃c,env.cells.lookup x.1=some c)->
  (forIn names acc fun x (r:List (Str×Addr))=>if (x.2 == .free)=true then do let c <- cellOf env x.1; pure (ForInStep.yield ((x.1,c)::r)) else pure (ForInStep.yield r):Sem (List (Str×Addr)))=pure (clOf env.cells names acc)
 | [],acc,_=>rfl
 | (n,k)::r,acc,h=>by
  rw[List.forIn_cons];have ih:=fun a=>zfA (env:=env) r a fun x hx=>h x (List.mem_cons_of_mem _ hx);unfold clOf
  by_cases hk:(k == NameKind.free)=true
  ·have hk':k=.free:=by cases k <;> first | rfl | cases hk
   obtain⟨c,hc⟩:=h (n,k) List.mem_cons_self hk';simp only[hk,if_true];unfold cellOf;rw[hc];simp only[pure_bind,Option.getD_some];exact ih _
  ·simp only[hk,Bool.false_eq_true,if_false,pure_bind]
   exact ih _
theorem ze0 {scope:Scope}{env:Env} (h:∀x∈scope.names,x.2=.free->∃c,env.cells.lookup x.1=some c):closureFor scope env=pure (clOf env.cells scope.names []):=by
 rw[<- zfA scope.names [] h];unfold closureFor;simp
theorem zdL {cells:List (Str×Addr)}{x:Str}{c:Addr}:∀{names:List (Str×NameKind)}{acc:List (Str×Addr)},(∀y∈names,y.2=.free->∃d,cells.lookup y.1=some d)->(∀p∈acc,cells.lookup p.1=some p.2)->(clOf cells names acc).lookup x=some c->cells.lookup x=some c
 | [],acc,_,ha,h=>ha (x,c) (PySem.mem_of_lookup h)
 | (n,k)::r,acc,hn,ha,h=>by
  unfold clOf at h;have hn':∀y∈r,y.2=.free->∃d,cells.lookup y.1=some d:=fun y hy=>hn y (List.mem_cons_of_mem _ hy)
  by_cases hk:(k == NameKind.free)=true
  ·have hk':k=.free:=by cases k <;> first | rfl | cases hk
   obtain⟨d,hd⟩:=hn (n,k) List.mem_cons_self hk';rw[if_pos hk] at h;refine zdL hn' (fun p hp=>?_) h;rcases List.mem_cons.mp hp with rfl | hp
   ·show cells.lookup n=some ((cells.lookup n).getD 0)
    have hd':cells.lookup n=some d:=hd;rw[hd']; rfl
   ·exact ha p hp
  ·rw[if_neg hk] at h
   exact zdL hn' ha h
theorem zV {x:Str}{c:Addr}:∀{l:List (Str×Addr)},(x,c)∈l->∃d,l.lookup x=some d
 | [],h=>nomatch h
 | (y,d)::l,h=>by
  rw[List.lookup_cons]
  by_cases e:x=y
  ·subst e; exact⟨d,by simp⟩
  ·have hb:(x == y)=false:=by simpa using e
   rw[hb];rcases List.mem_cons.mp h with q | q
   ·cases q; exact absurd rfl e
   ·exact zV q
theorem zbG {cells:List (Str×Addr)}{x:Str}:∀{names:List (Str×NameKind)}{acc:List (Str×Addr)},((x,NameKind.free)∈names \/ ∃c,(x,c)∈acc)->∃c,(x,c)∈clOf cells names acc
 | [],acc,h=>h.elim (fun q=>nomatch q) id
 | (n,k)::r,acc,h=>by
  unfold clOf
  by_cases hk:(k == NameKind.free)=true
  ·rw[if_pos hk]
   refine zbG ?_;rcases h with h | ⟨c,h⟩
   ·rcases List.mem_cons.mp h with q | q
    ·cases q; exact .inr ⟨_,List.mem_cons_self⟩
    ·exact .inl q
   ·exact .inr ⟨c,List.mem_cons_of_mem _ h⟩
  ·rw[if_neg hk]
   refine zbG ?_;rcases h with h | h
   ·rcases List.mem_cons.mp h with q | q
    ·cases q; exact absurd rfl hk
    ·exact .inl q
   ·exact .inr h
def cxC (X:Cx) (scope:Scope) (N:List Str) (cl:List (Str×Addr)) (C:Addr) (s₀:Shared) (H₀:Hp) (ex:List Addr):Cx where
 prog:=X.prog
 w:=X.w
 K:=X.K
 mg:=X.mg
 base:=X.base
 A:=X.A
 N:=N
 s₀:=s₀
 H₀:=H₀
 env:=compEnvC scope cl C X.env
 outer:=X.stack
 stack:=X.stack
 ex:=ex
 fn:=fun _=>false
 calm:=X.calm
 pn:=X.pn
 xe:=fun _ _=>False
def PTL (X:Cx) (ifs:List Expr) (t:TT):Prop:=
 ∀(pins:List (Addr×Obj)) (s:Shared) (σ:St) (H:Hp) (Q:Bool->Hp->Prop),Inv X pins σ H s->t σ H Q->
  wpAny (model X.prog X.w) X.A (forIn ifs true fun c r=>if r=true then do let ok <- isTrue c X.env (eval c X.env); pure (ForInStep.yield ok) else pure (ForInStep.yield r)) (TP X pins σ Q) X.xe s
def tYes:TT:=fun _ H Q=>Q true H
theorem zak {X:Cx}:PTL X [] tYes:=fun _ _ _ H _ I h=>wpAny_tests_nil ⟨H,I,h⟩
theorem zbm {X:Cx}{c:Expr}{t:TT} (h:PT X c t):PTL X [c] t:=fun pins s σ H Q I hw=>wpAny_tests_one (h pins s σ H Q I hw)
def zgs (caps:List (Option Nat)) (σ:St):St:=caps.map fun c=>match c with
 | none=>none
 | some j=>(σ[j]?).getD none
def zap (J:It) (g:TG) (tc:TT) (te:TE) (σ:St) (H1:Hp) (D:Addr) (Q:VK):Prop:=
 ∃W:Nat->Nat->St->Hp->Prop,(∃m,W 0 m σ (upd H1 D (.lst [])))/\
 ∀i m σ2 H2,W i m σ2 H2->(J.stop i H2/\Q (.ref D) H2) \/ (J.go i H2/\∀x H3,J.yld i H2 x H3->g x σ2 H3 fun σ3 H4=>tc σ3 H4 fun b H5=>
  if b=true then te σ3 H5 fun y H6=>∃ys m',H6 D=some (.lst ys)/\ys.length<sizeLine/\m'<m/\W (i+1) m' σ3 (upd H6 D (.lst (ys++[y])))
  else ∃m',m'<m/\W (i+1) m' σ3 H5)
def tLC (wi:TI) (caps:List (Option Nat)) (g:TG) (tc:TT) (te:TE):TE:=fun σ H Q=>wi σ H fun J H1=>∀D,H1 D=none->zap J g tc te (zgs caps σ) H1 D Q
def zhg (N N':List Str) (caps:List (Option Nat)) (scope:Scope):Prop:=
 caps.length=N'.length/\∀i j:Nat,caps[i]?=some (some j)->∃x:Str,N'[i]?=some x/\N[j]?=some x/\scope.names.lookup x=some .free
section
variable {X:Cx}{scope:Scope}{N':List Str}{caps:List (Option Nat)}{tg iter elt:Expr}{ifs:List Expr}{wi:TI}{g:TG}{tc:TT}{te:TE}{pos:Pos}
theorem zby {scope:Scope}{env:Env}{x:Str}:∀{names:List (Str×NameKind)},(names.lookup x=some .free \/ names.lookup x=some .cell)->
  ((names.map fun (n,k)=>if (k == NameKind.free && env.scope.kind == .function && env.kindOf n == some .cell) then (n,NameKind.cell) else (n,k)).lookup x=some .free \/
   (names.map fun (n,k)=>if (k == NameKind.free && env.scope.kind == .function && env.kindOf n == some .cell) then (n,NameKind.cell) else (n,k)).lookup x=some .cell)
 | [],h=>by simp at h
 | (n,k)::r,h=>by
  have ih:=@zby scope env x r;show List.lookup x ((if (k == NameKind.free && env.scope.kind == .function && env.kindOf n == some .cell)=true then (n,NameKind.cell) else (n,k))::_)=_ \/ List.lookup x ((if (k == NameKind.free && env.scope.kind == .function && env.kindOf n == some .cell)=true then (n,NameKind.cell) else (n,k))::_)=_;cases hx:x == n with
  | true=>
   simp only[List.lookup_cons,hx] at h
   by_cases hc:(k == NameKind.free && env.scope.kind == .function && env.kindOf n == some .cell)=true
   ·rw[if_pos hc]; simp[List.lookup_cons,hx]
   ·rw[if_neg hc]; simp only[List.lookup_cons,hx]; exact h
  | false=>
   simp only[List.lookup_cons,hx] at h
   by_cases hc:(k == NameKind.free && env.scope.kind == .function && env.kindOf n == some .cell)=true
   ·rw[if_pos hc]; simp only[List.lookup_cons,hx]; exact ih h
   ·rw[if_neg hc]; simp only[List.lookup_cons,hx]; exact ih h
theorem zbn {env:Env}{x:Str}{kd:NameKind}:∀{names:List (Str×NameKind)},(names.map fun (n,k)=>if (k == NameKind.free && env.scope.kind == .function && env.kindOf n == some .cell) then (n,NameKind.cell) else (n,k)).lookup x=some kd->
  ∃k',names.lookup x=some k'/\(kd=k' \/ (k'=.free/\kd=.cell))
 | [],h=>by simp at h
 | (n,k)::r,h=>by
  have ih:=@zbn env x kd r;have h':List.lookup x ((if (k == NameKind.free && env.scope.kind == .function && env.kindOf n == some .cell)=true then (n,NameKind.cell) else (n,k))::_)=some kd:=h;cases hx:x == n with
  | true=>
   simp only[List.lookup_cons,hx]
   by_cases hc:(k == NameKind.free && env.scope.kind == .function && env.kindOf n == some .cell)=true
   ·rw[if_pos hc] at h'
    simp only[List.lookup_cons,hx] at h';cases h';have hk:k=.free:=by
     rw[Bool.and_eq_true,Bool.and_eq_true] at hc;cases k <;> first | rfl | exact absurd hc.1.1 (by decide)
    exact⟨k,rfl,.inr ⟨hk,rfl⟩⟩
   ·rw[if_neg hc] at h'
    simp only[List.lookup_cons,hx] at h';cases h';exact⟨_,rfl,.inl rfl⟩
  | false=>
   simp only[List.lookup_cons,hx]
   by_cases hc:(k == NameKind.free && env.scope.kind == .function && env.kindOf n == some .cell)=true
   ·rw[if_pos hc] at h'; simp only[List.lookup_cons,hx] at h'; exact ih h'
   ·rw[if_neg hc] at h'; simp only[List.lookup_cons,hx] at h'; exact ih h'
structure Left (X:Cx) (pins:List (Addr×Obj)) (σ:St) (H':Hp) (s4:Shared) (C:Addr):Prop where
 ns:∃m,s4.heap.Ns C m
 far:X.s₀.heap.objs.size<=C
 nl:C≠X.env.locals
 nc:∀x c,X.env.cells.lookup x=some c->c≠C
 np:∀p∈X.pn++pins,p.1≠C
 no:H' C=none
 back:∀h',Heap.SameBut C s4.heap h'->Inv X pins σ H' { s4 with heap:=h' }
theorem zc5 {use:Option (Value->Sem Unit)}{R:Value->Shared->Prop}{pp:Pos} (hc:X.calm=true) (hk:scope.kind=.function) (hcell:∀y∈scope.names,y.2≠.cell) (hnames:∀y∈scope.names,y.2=.local->scope.names.lookup y.1=some .local)
  (hfr:∀y∈scope.names,y.2=.free->X.env.kindOf y.1=some .cell \/ X.env.kindOf y.1=some .free) (hcap:zhg X.N N' caps scope)
  (hi:PI X tg iter wi) (hg:∀cl C s₀ H₀ ex,PG (cxC X scope N' cl C s₀ H₀ ex) tg g) (ht:∀cl C s₀ H₀ ex,PTL (cxC X scope N' cl C s₀ H₀ ex) ifs tc) (he:∀cl C s₀ H₀ ex,PE (cxC X scope N' cl C s₀ H₀ ex) elt te)
  (hs:∀x,foldedSetIterable iter X.env x=pure x) {pins:List (Addr×Obj)} {s:Shared} {σ:St} {H:Hp} {Q:VK} (I:Inv X pins σ H s) (h:tLC wi caps g tc te σ H Q)
  (fin:∀(D C:Addr) (H':Hp) (s4:Shared) (f:Flow),Left X pins σ H' s4 C->Q (.ref D) H'->compPost (model X.prog X.w) X.A X.xe use R (.ref D) C (.ok f) s4) :
  wpAny (model X.prog X.w) X.A (comprehension (.ListComp elt [⟨tg,iter,ifs,0⟩] scope pos) scope X.env pp (newList []) (firstAsync [⟨tg,iter,ifs,0⟩]) (firstIter [⟨tg,iter,ifs,0⟩] X.env) use) R X.xe s:=by
 have hcl:∀y∈scope.names,y.2=.free->∃c,X.env.cells.lookup y.1=some c:=fun y hy e=>I.ok.has y.1 (hfr y hy e);refine wpAny_comprehension_free (use:=use) rfl hs (ze0 hcl) hk hnames ?_;refine thn (hi pins s σ H _ I h) fun xv s1 h1=>thn h1 fun itv s2 h2=>?_;obtain⟨it,fp,tn,J,H2,e,I2,T,st2,f2,q⟩:=h2;subst e;have hf2:H2 s2.heap.objs.size=none:=I2.hok.fresh (Nat.le_refl _);obtain⟨W,⟨m0,w0⟩,turn⟩:=q s2.heap.objs.size hf2;refine wpAny_newObj_type (wpAny_newFunctionEnv hcell (by intro y hy; simp at hy) (fun h₁ hns₁ hsb₁=>?_) hk);dsimp only at hns₁ hsb₁ ⊢;generalize hD:s2.heap.objs.size=D at *;obtain⟨s3,e3⟩:∃s3:Shared,s3={ s2 with heap:=s2.heap.push { cls:=.type "list",dict:=none,data:=.seq ([]:List Value).toArray } }:=⟨_,rfl⟩;have h3:s3.heap=s2.heap.push { cls:=.type "list",dict:=none,data:=.seq ([]:List Value).toArray }:=by rw[e3]
 rw[<- h3] at hns₁ hsb₁ ⊢;have hD3:s3.heap.objs.size=D+1:=by rw[h3,Heap.size_push,hD]
 have I3:Inv X pins σ (upd H2 D (.lst [])) s3:=by
  rw[e3,<- hD];exact I2.lnew (t':=s2.toks) (ys:=[]) .nil (Nat.zero_le _)
 obtain⟨Xc,eX⟩:∃Xc,Xc=cxC X scope N' (clOf X.env.cells scope.names []) s3.heap.objs.size s3 (upd H2 D (.lst [])) fp:=⟨_,rfl⟩;have hg':PG Xc tg g:=by rw[eX]; exact hg _ _ _ _ _
 have ht':PTL Xc ifs tc:=by rw[eX]; exact ht _ _ _ _ _
 have he':PE Xc elt te:=by rw[eX]; exact he _ _ _ _ _
 have xP:Xc.prog=X.prog:=by rw[eX]; rfl
 have xw:Xc.w=X.w:=by rw[eX]; rfl
 have xK:Xc.K=X.K:=by rw[eX]; rfl
 have xA:Xc.A=X.A:=by rw[eX]; rfl
 have xc:Xc.calm=true:=by rw[eX]; exact hc
 have xe:Xc.env=compEnvC scope (clOf X.env.cells scope.names []) s3.heap.objs.size X.env:=by rw[eX]; rfl
 have xE:Xc.xe=fun _ _=>False:=by rw[eX]; rfl
 have hcin:∀x c,(clOf X.env.cells scope.names []).lookup x=some c->X.env.cells.lookup x=some c:=fun x c e=>zdL hcl (fun p hp=>absurd hp (by simp)) e;have hfd:∀b∈fp,b≠D/\b<D:=fun b hb=>by
  obtain⟨ob,eb,_⟩:=T.obj 0 _ st2 b hb;have:=Heap.lt_size eb;rw[hD] at this;exact⟨Nat.ne_of_lt this,this⟩
 have hfs:∀b∈frs X.stack,b<D:=fun b hb=>by
  obtain⟨_,ob,eb,_⟩:=I2.stack.mem hb;have:=Heap.lt_size eb;rw[hD] at this;exact this
 have hold:∀b o,s3.heap.get? b=some o->h₁.get? b=some o:=fun b o e=>by
  have hb:b≠s3.heap.objs.size:=Nat.ne_of_lt (Heap.lt_size e);exact (hsb₁.2 b hb).trans (Heap.get?_push_of_some _ e)
 have hCf:(upd H2 D (.lst [])) s3.heap.objs.size=none:=I3.hok.fresh (Nat.le_refl _);have Ic:Inv Xc pins (zgs caps σ) (upd H2 D (.lst [])) { s3 with heap:=h₁ }:=by
  have okc:Xc.Ok:=by
   rw[eX];refine⟨I.ok.mod,hk,I.ok.glob,I.ok.blt,Nat.le_refl _,fun x y c a b=>I.ok.inj x y c (hcin x c a) (hcin y c b),fun x hx=>?_,(fun x c a=>absurd a Bool.false_ne_true),I.ok.hd,I.ok.frames,.inl rfl,fun b hb=>⟨?_,fun x c e=>?_⟩,fun b o e=>?_,?_,fun b o e z=>?_,fun b hb z=>?_,?_,fun b hb=>?_⟩
   ·have hx':(relabel scope X.env).names.lookup x=some .cell \/ (relabel scope X.env).names.lookup x=some .free:=hx
    have key:∃k',scope.names.lookup x=some k'/\(k'=.free \/ k'=.cell):=by
     rcases hx' with q | q
     ·obtain⟨k',e1,e2⟩:=zbn q
      rcases e2 with e2 | ⟨e2,_⟩
      ·exact⟨k',e1,.inr e2.symm⟩
      ·exact⟨k',e1,.inl e2⟩
     ·obtain⟨k',e1,e2⟩:=zbn q
      rcases e2 with e2 | ⟨e2,_⟩
      ·exact⟨k',e1,.inl e2.symm⟩
      ·exact⟨k',e1,.inl e2⟩
    obtain⟨k',e1,e2⟩:=key;have hm:=PySem.mem_of_lookup e1;rcases e2 with rfl | rfl
    ·obtain⟨c,hc'⟩:=zbG (cells:=X.env.cells) (acc:=[]) (.inl hm)
     exact zV hc'
    ·exact absurd rfl (hcell _ hm)
   ·show b≠s3.heap.objs.size
    exact Nat.ne_of_lt (by rw[hD3]; exact Nat.lt_succ_of_lt (hfd b hb).2)
   ·exact (f2 b hb).2.2.2.2.1 x c (hcin x c e)
   ·exact I3.bs b o e
   ·exact Nat.le_trans I.ok.bsz I3.sz
   ·obtain⟨f,_,_,fx,_,_⟩:=f2 b z
    rcases fx with fx | fx
    ·exact I.ok.noex b o e fx
    ·have:=Nat.lt_of_lt_of_le (Heap.lt_size e) I.ok.bsz
     omega
   ·rcases List.mem_cons.mp (I2.stkSub b z) with r | r
    ·exact (f2 b hb).2.1 r
    ·exact (f2 b hb).2.2.1 r
   ·exact I3.stack
   ·exact I3.stkFree b hb
  refine⟨okc,(by rw[eX]; rfl),I3.bare,?_,?_,fun x c e=>?_,?_,fun x c e=>?_,fun p hp=>?_,?_,?_⟩
  ·rw[eX]
   exact Un.kept hold
  ·rw[xe]
   refine⟨_,hns₁,fun i x v e1 e2 e3=>?_⟩;obtain⟨c1,c2⟩:=hcap;unfold zgs at e2;rw[List.getElem?_map] at e2;cases e4:caps[i]? with
   | none=>rw[e4] at e2; cases e2
   | some cc=>
    rw[e4] at e2;cases cc with
    | none=>cases e2
    | some j=>
     obtain⟨y,d1,d2,d3⟩:=c2 i j e4;have e1':N'[i]?=some x:=by rw[eX] at e1; exact e1
     rw[d1] at e1';have exy:y=x:=Option.some.inj e1';subst exy;have e5:σ[j]?=some (some v):=by
      simp only[Option.map_some,Option.some.injEq] at e2;cases e6:σ[j]? with
      | none=>rw[e6] at e2; cases e2
      | some ov=>rw[e6] at e2; simp only[Option.getD_some] at e2; rw[e2]
     have hm:=PySem.mem_of_lookup d3;have vis:Vis X.env.scope y:=by
      rcases hfr _ hm rfl with q | q
      ·exact .inr (.inl q)
      ·exact .inr (.inr q)
     obtain⟨m,_,hl⟩:=I3.loc;obtain⟨u,ru,lk⟩:=hl j y v d2 e5 vis;refine⟨u,ru,?_⟩;have lk2:∃c,X.env.cells.lookup y=some c/\s3.heap.IsCell c (some u):=by
      rcases lk with ⟨k1,_⟩ | ⟨_,c,k2,k3⟩
      ·rcases hfr _ hm rfl with q | q
       ·rw[k1] at q; cases q
       ·rw[k1] at q; cases q
      ·exact⟨c,k2,k3⟩
     obtain⟨c,k2,k3⟩:=lk2;obtain⟨d,hd'⟩:=zbG (cells:=X.env.cells) (acc:=[]) (.inl hm);obtain⟨d',hd2⟩:=zV hd';have:c=d':=by
      have:=hcin y d' hd2;rw[k2] at this;exact Option.some.inj this
     subst this;refine .inr ⟨?_,c,hd2,k3.keeps hold⟩;have rl:=zby (scope:=scope) (env:=X.env) (x:=y) (names:=scope.names) (.inl d3);rcases rl with q | q
     ·exact .inr q
     ·exact .inl q
  ·rw[xe] at e
   obtain⟨v,k3⟩:=I3.cell x c (hcin x c e);exact⟨v,k3.keeps hold⟩
  ·rw[xe]; exact hCf
  ·rw[xe] at e
   exact I3.freeC x c (hcin x c e)
  ·have hp':p∈X.pn++pins:=by rw[eX] at hp; exact hp
   obtain⟨a1,a2,a3,a4,a5⟩:=I3.pin p hp';refine⟨hold _ _ a1,a2,?_,?_,a5⟩
   ·rw[xe]
    show p.1≠s3.heap.objs.size;exact Nat.ne_of_lt (Heap.lt_size a1)
   ·rw[eX]
    intro z;rcases List.mem_cons.mp (I3.stkSub p.1 z) with r | r
    ·exact a3 r
    ·exact a4 r
  ·rw[xP,xw]
   exact I3.hok.kept hold
  ·unfold zgs
   rw[List.length_map,hcap.1,eX]
   rfl
 have leave:∀{σ':St} {H':Hp} {s4:Shared} {h':Heap},Inv Xc pins σ' H' s4->Heap.SameBut s3.heap.objs.size s4.heap h'->Inv X pins σ H' { s4 with heap:=h' }:=fun {σ' H' s4 h'} I4 hs'=>by
  have hlt:∀b o,s2.heap.get? b=some o->b≠D/\b≠s3.heap.objs.size:=fun b o e=>by
   have hb:=Heap.lt_size e;rw[hD] at hb;exact⟨Nat.ne_of_lt hb,Nat.ne_of_lt (by rw[hD3]; exact Nat.lt_succ_of_lt hb)⟩
  have up3:∀b o,s2.heap.get? b=some o->s3.heap.get? b=some o:=fun b o e=>by rw[h3]; exact Heap.get?_push_of_some _ e
  have base:Un (frs X.stack) fp (upd H2 D (.lst [])) H' s3.heap s4.heap:=by
   have:=I4.base;rw[eX] at this;exact this
  have hCn:H' s3.heap.objs.size=none:=by
   have:=I4.free;rw[xe] at this;exact this
  have os4:s4.os=s2.os:=by
   have:=I4.os;rw[eX] at this;rw[this];show s3.os=s2.os;rw[e3]
  refine I2.call' (s':={ s4 with heap:=h' }) (ch:=fp) os4 ⟨fun b o q n hb hx=>?_,fun b o q n hb hx=>?_,fun b o q n hx=>?_,fun b o q hx=>?_,fun b xs q=>?_,fun b o u q=>?_,fun b ps q=>?_⟩ ?_ I4.bare fun b hb=>?_
  ·obtain⟨n1,n2⟩:=hlt b o q
   exact (hs'.2 b n2).trans (base.keep b o (up3 b o q) (by rw[upd_ne n1]; exact n) hb hx)
  ·obtain⟨n1,n2⟩:=hlt b o q
   obtain⟨sl,e⟩:=base.slot b o (up3 b o q) (by rw[upd_ne n1]; exact n) hb hx;exact⟨sl,(hs'.2 b n2).trans e⟩
  ·obtain⟨n1,n2⟩:=hlt b o q
   exact base.free b o (up3 b o q) (by rw[upd_ne n1]; exact n) hx
  ·obtain⟨n1,n2⟩:=hlt b o q
   obtain⟨o',e⟩:=base.there b o (up3 b o q) hx;exact⟨o',(hs'.2 b n2).trans e⟩
  ·exact base.tups b xs (by rw[upd_ne (zj q hf2)]; exact q)
  ·exact base.frzs b o u (by rw[upd_ne (zj q hf2)]; exact q)
  ·exact base.tbls b ps (by rw[upd_ne (zj q hf2)]; exact q)
  ·intro b u e
   have hk4:=I4.hok b u e;rw[xP,xw] at hk4;refine hk4.stay (fun c v hc q=>(hs'.2 c ?_).trans q) (fun _ q=>q) fun _ _ q=>q;rintro rfl;rcases hc with z | z
   ·rw[<- z,hCn] at e; cases e
   ·rw[hCn] at z; cases z
  ·obtain⟨f0,f1,f3,f4,f5,f6⟩:=f2 b hb
   exact⟨f4,f1,f5,f6⟩
 have stat:∀{H':Hp},(∀b∈fp,H' b=none)->∀b∈fp,FpOk Xc pins H' b:=fun {H'} hn b hb=>by
  obtain⟨f0,f1,f3,f4,f5,f6⟩:=f2 b hb;refine⟨hn b hb,?_,?_,.inl (by rw[eX]; exact hb),fun x c e=>?_,fun p hp=>?_⟩
  ·rw[xe]
   show b≠s3.heap.objs.size;exact Nat.ne_of_lt (by rw[hD3]; exact Nat.lt_succ_of_lt (hfd b hb).2)
  ·rw[eX]
   intro z;rcases List.mem_cons.mp (I2.stkSub b z) with r | r
   ·exact f1 r
   ·exact f3 r
  ·rw[xe] at e
   exact f5 x c (hcin x c e)
  ·rw[eX] at hp
   exact f6 p hp
 subst eX;have loop:∀n s',(∃i σ' H',Inv (cxC X scope N' (clOf X.env.cells scope.names []) s3.heap.objs.size s3 (upd H2 D (.lst [])) fp) pins σ' H' s'/\tn i s'.heap/\(∀b∈fp,H' b=none)/\W i n σ' H')->
   codeAny (model X.prog X.w) X.A (.compLoop (.ListComp elt [⟨tg,iter,ifs,0⟩] scope pos) 0 (.ref it) (.ref D) (compEnvC scope (clOf X.env.cells scope.names []) s3.heap.objs.size X.env)) (compPost (model X.prog X.w) X.A X.xe use R (.ref D) s3.heap.objs.size) s':=by
  intro n0 s0' hI0;refine codeAny_loop rfl (fun n s'=>∃i σ' H',Inv (cxC X scope N' (clOf X.env.cells scope.names []) s3.heap.objs.size s3 (upd H2 D (.lst [])) fp) pins σ' H' s'/\tn i s'.heap/\(∀b∈fp,H' b=none)/\W i n σ' H') (fun n s' hI=>?_) n0 hI0;obtain⟨i,σ',H',I',st',fr',w'⟩:=hI;show wpAny _ X.A ((compTurn (.ListComp elt [⟨tg,iter,ifs,0⟩] scope pos) 0 (.ref it) (.ref D) (compEnvC scope (clOf X.env.cells scope.names []) s3.heap.objs.size X.env)).onRaise (fun x=>do noteFrame x (compEnvC scope (clOf X.env.cells scope.names []) s3.heap.objs.size X.env); theTreesLotGoes x)) _ _ s';refine wpAny_noted ?_;rw[compTurn_list];refine wpAny_bind (wpAny_standAt (wpAny_bind ?_));rcases turn i n σ' H' w' with ⟨stop,qn⟩ | ⟨go,step⟩
  ·refine thn (T.done (cxC X scope N' (clOf X.env.cells scope.names []) s3.heap.objs.size s3 (upd H2 D (.lst [])) fp) rfl rfl rfl hc i pins s' σ' H' _ I' (stat fr') st' stop) fun r s4 ⟨hr,I4⟩=>?_
   subst hr;refine wpAny_pure ?_;obtain⟨m,hn,_⟩:=id I4.loc;refine fin D _ H' s4 _ ⟨⟨m,hn⟩,I3.sz,fun e=>?_,fun x c e=>?_,fun p hp=>Nat.ne_of_lt (Heap.lt_size (I3.pin p hp).1),I4.free,fun h' hs'=>leave I4 hs'⟩ qn
   ·obtain⟨m3,hn3,_⟩:=I3.loc
    obtain⟨o3,_,_,ho3,_⟩:=hn3;exact absurd e.symm (Nat.ne_of_lt (Heap.lt_size ho3))
   ·obtain⟨v,hv⟩:=I3.cell x c e
    obtain⟨o3,ho3,_⟩:=hv;exact Nat.ne_of_lt (Heap.lt_size ho3)
  ·refine thn (T.item (cxC X scope N' (clOf X.env.cells scope.names []) s3.heap.objs.size s3 (upd H2 D (.lst [])) fp) rfl rfl rfl hc i pins s' σ' H' _ I' (stat fr') st' go) fun r s4 ⟨u,hr,h4⟩=>?_
   subst hr;refine wpAny_bind (thn h4 fun _ s5 ⟨x,H5,I5,r5,y5,st5,fr5⟩=>?_);have I5':=I5.pinned (stat fr5) (T.obj _ _ st5);refine wpAny_bind (wpAny_mono (hg' _ s5 σ' H5 x u _ I5' r5 (step x H5 y5)) (fun _ s6 h6=>?_) fun _ _ z=>z.elim);obtain⟨σ6,H6,I6,q6⟩:=h6;refine wpAny_bind (wpAny_mono (ht' _ s6 σ6 H6 _ I6 q6) (fun ok s7 h7=>?_) fun _ _ z=>z.elim);obtain⟨H7,I7,q7⟩:=h7;have again:∀{σ8:St} {H8:Hp} {s8:Shared} {m':Nat},Inv (cxC X scope N' (clOf X.env.cells scope.names []) s3.heap.objs.size s3 (upd H2 D (.lst [])) fp) (pins++zdf fp s5.heap) σ8 H8 s8->m'<n->W (i+1) m' σ8 H8->
     ∃m,m<n/\∃i σ' H',Inv (cxC X scope N' (clOf X.env.cells scope.names []) s3.heap.objs.size s3 (upd H2 D (.lst [])) fp) pins σ' H' s8/\tn i s8.heap/\(∀b∈fp,H' b=none)/\W i m σ' H':=fun {σ8 H8 s8 m'} I8 hm w8=>by
    refine⟨m',hm,i+1,σ8,H8,I8.unpinned,T.keep _ _ _ st5 fun b hb o e=>(I8.pin (b,o) (List.mem_append_right _ (List.mem_append_right _ (zaI hb e)))).1,fun b hb=>?_,w8⟩;obtain⟨o,e,d⟩:=T.obj _ _ st5 b hb;exact (I8.pin (b,o) (List.mem_append_right _ (List.mem_append_right _ (zaI hb e)))).2.1
   cases ok with
   | false=>
    obtain⟨m',hm,w7⟩:=q7;exact wpAny_pure ⟨rfl,again I7 hm w7⟩
   | true=>
    refine wpAny_bind (wpAny_bind (wpAny_mono (he' _ s7 σ6 H7 _ I7 q7) (fun v s8 h8=>?_) fun _ _ z=>z.elim));obtain⟨y,H8,I8,r8,ys,m',hD8,hl8,hm8,w8⟩:=h8;refine wpAny_bind (wpAny_mono (zac (X:=cxC X scope N' (clOf X.env.cells scope.names []) s3.heap.objs.size s3 (upd H2 D (.lst [])) fp) _ s8 σ6 H8 (.ref D) [y] (.ref D) [v] (fun _ H9=>H9=upd H8 D (.lst (ys++[y]))) I8 rfl (.cons r8 .nil) ⟨D,ys,y,rfl,rfl,hD8,hl8,rfl⟩) (fun _ s9 h9=>?_) fun _ _ z=>z.elim);obtain⟨_,H9,I9,_,e9⟩:=h9;subst e9;exact wpAny_pure (wpAny_pure ⟨rfl,again I9 hm8 w8⟩)
 have start:∃i σ' H',Inv (cxC X scope N' (clOf X.env.cells scope.names []) s3.heap.objs.size s3 (upd H2 D (.lst [])) fp) pins σ' H' { s3 with heap:=h₁ }/\tn i ({ s3 with heap:=h₁ }:Shared).heap/\(∀b∈fp,H' b=none)/\W i m0 σ' H':=by
  refine⟨0,zgs caps σ,upd H2 D (.lst []),Ic,T.keep 0 _ _ st2 fun b hb o e=>hold b o (by rw[h3]; exact Heap.get?_push_of_some _ e),fun b hb=>?_,w0⟩;rw[upd_ne (hfd b hb).1];exact (f2 b hb).1
 have es:({ s2 with heap:=h₁,toks:=s2.toks+([]:List (Str×Value)).length }:Shared)={ s3 with heap:=h₁ }:=by rw[e3]; rfl
 show codeAny (model X.prog X.w) X.A _ _ ({ s2 with heap:=h₁,toks:=s2.toks+([]:List (Str×Value)).length }:Shared);rw[es];refine codeAny_compStart_list (loop m0 _ start) (T.self _ 0 _ _ _ ?_ (loop m0 _ start));exact T.keep 0 _ _ st2 fun b hb o e=>hold b o (by rw[h3]; exact Heap.get?_push_of_some _ e)
theorem zil (hc:X.calm=true) (hk:scope.kind=.function) (hcell:∀y∈scope.names,y.2≠.cell) (hnames:∀y∈scope.names,y.2=.local->scope.names.lookup y.1=some .local)
  (hfr:∀y∈scope.names,y.2=.free->X.env.kindOf y.1=some .cell \/ X.env.kindOf y.1=some .free) (hcap:zhg X.N N' caps scope)
  (hi:PI X tg iter wi) (hg:∀cl C s₀ H₀ ex,PG (cxC X scope N' cl C s₀ H₀ ex) tg g) (ht:∀cl C s₀ H₀ ex,PTL (cxC X scope N' cl C s₀ H₀ ex) ifs tc) (he:∀cl C s₀ H₀ ex,PE (cxC X scope N' cl C s₀ H₀ ex) elt te)
  (hs:∀x,foldedSetIterable iter X.env x=pure x:=by intro _; rfl):PE X (.ListComp elt [⟨tg,iter,ifs,0⟩] scope pos) (tLC wi caps g tc te):=by
 intro pins s σ H Q I h;rw[eval_ListComp];refine zc5 (use:=none) hc hk hcell hnames hfr hcap hi hg ht he hs I h fun D C H' s4 f L q=>?_;obtain⟨m,hn⟩:=L.ns;exact⟨m,hn,fun h' hs'=>⟨.ref D,H',L.back h' hs',rfl,q⟩⟩
end
end L2
end
section
namespace Zp
open PySem PySem.Spec PyProof.Rows
section
variable {prog:Program}{w:World}{A:Around}{E:Value->Shared->Prop}{s:Shared}
theorem zgM {it t:Addr}{i:Nat}{items:Array Value}{x:Value}{Q:Value->Shared->Prop} (hit:s.heap.IsTupleIter it t i) (ht:s.heap.IsTuple t items) (hx:items[i]?=some x)
  (hQ:∀h',h'.IsTupleIter it t (i+1)->Heap.SameBut it s.heap h'->Q x { s with heap:=h' }):wpAny (model prog w) A (Builtin.SmallTypes.nextOf (.ref it)) Q E s:=by
 obtain⟨o,ho,hc,hd⟩:=id hit;obtain⟨ol,hol,_,nl,hdl⟩:=ht;unfold Builtin.SmallTypes.nextOf;refine wpAny_bind (wpAny_callSpecial?_slot (name:=Str.ofString "__next__") hit.typeIs F.slot_tuple_iterator_next (wpAny_call_entry F.slot_tuple_iterator_next hit.typeIs F.entry_tuple_iterator_next ?_ (F.args_tuple_iterator_next_1 _)));show wpAny _ _ (field (.ref it) 0 >>= _) _ _ s;refine wpAny_bind (wpAny_field ho hd (x:=.ref t) rfl ?_);show wpAny _ _ (if (Value.ref t == Value.none)=true then _ else _) _ _ s;rw[if_neg (show ¬ ((Value.ref t == Value.none)=true) from Bool.false_ne_true)];show wpAny _ _ (field (.ref it) 1 >>= _) _ _ s;refine wpAny_bind (wpAny_field ho hd (x:=.int i 0) rfl ?_);show wpAny _ _ (seqItems? (.ref t) >>= _) _ _ s;refine wpAny_bind (wpAny_seqItems hol hdl ?_);simp only[Int.toNat_natCast,hx];refine wpAny_bind (wpAny_setField ho hd (by simp) (wpAny_pure ⟨x,rfl,wpAny_pure (hQ _ ?_ (Heap.SameBut.update ..))⟩));exact⟨_,Heap.get?_update_self _ ho (Obj.isFreed_of_fields (Obj.data_mapFields hd _)),(Obj.cls_mapFields ..).trans hc,by
  rw[Obj.data_mapFields hd]; simp[rawInt]⟩
theorem zjf {it t:Addr}{i:Nat}{items:Array Value}{Q:Value->Shared->Prop} (hh:A.handled=none) (hit:s.heap.IsTupleIter it t i) (ht:s.heap.IsTuple t items) (hx:items[i]?=none)
  (hE:∀h' e,Heap.ExtBut it s.heap h'->(∃o,h'.get? e=some o/\o.cls=.type "StopIteration")->E (.ref e) { s with heap:=h' }):wpAny (model prog w) A (Builtin.SmallTypes.nextOf (.ref it)) Q E s:=by
 obtain⟨o,ho,hc,hd⟩:=id hit;obtain⟨ol,hol,_,nl,hdl⟩:=ht;unfold Builtin.SmallTypes.nextOf;refine wpAny_bind (wpAny_callSpecial?_slot (name:=Str.ofString "__next__") hit.typeIs F.slot_tuple_iterator_next (wpAny_call_entry F.slot_tuple_iterator_next hit.typeIs F.entry_tuple_iterator_next ?_ (F.args_tuple_iterator_next_1 _)));show wpAny _ _ (field (.ref it) 0 >>= _) _ _ s;refine wpAny_bind (wpAny_field ho hd (x:=.ref t) rfl ?_);show wpAny _ _ (if (Value.ref t == Value.none)=true then _ else _) _ _ s;rw[if_neg (show ¬ ((Value.ref t == Value.none)=true) from Bool.false_ne_true)];show wpAny _ _ (field (.ref it) 1 >>= _) _ _ s;refine wpAny_bind (wpAny_field ho hd (x:=.int i 0) rfl ?_);show wpAny _ _ (seqItems? (.ref t) >>= _) _ _ s;refine wpAny_bind (wpAny_seqItems hol hdl ?_);simp only[Int.toNat_natCast,hx];refine wpAny_bind (wpAny_rule (wpAny_bind (wpAny_setField ho hd (by simp) ?_)));show wpAny _ _ (newExc (.type "StopIteration") [] >>= _) _ _ _;refine wpAny_bind ?_;simp only[newExc,newTuple];refine wpAny_bind (wpAny_newObj_type ?_ (by size_fits));refine wpAny_bind (m:=firstArgMember _ _) (wpAny_of_eq (a:=Value.none) (by first | rfl | (simp only[firstArgMember]; rfl)) ?_);refine wpAny_newObj_type ?_ (by size_fits);simp only[raiseNew];refine wpAny_bind (wpAny_handled ?_)
 first | rw[show A.in1.handled=none from hh] | rw[hh]
 refine wpAny_bind (wpAny_pure (wpAny_throw ?_));exact hE _ _ (((Heap.SameBut.update ..).extBut.push _).push _) ⟨_,Heap.get?_push_size _ rfl,rfl⟩
end
theorem zhv {h h':Heap}{a:Addr}{items:Array Value} (x:h.IsTuple a items) (e:∀o,h.get? a=some o->h'.get? a=some o):h'.IsTuple a items:=let ⟨o,ho,r⟩:=x; ⟨o,e o ho,r⟩
theorem zc3 {prog:Program}{w:World}{A:Around} (hh:A.handled=none) (it t:Addr) (hne:t≠it) (items:Array Value) :
  Draws prog w A it [it,t] items.size (fun i v=>items[i]?=some v) (fun i h=>h.IsTupleIter it t i/\h.IsTuple t items) where
 live:=fun _ _ st=>let ⟨o,ho,_⟩:=st.1; ⟨o,ho⟩
 frame:=fun _ _ _ st hk=>⟨st.1.at fun o e=>hk it (by simp) o e,zhv st.2 fun o e=>hk t (by simp) o e⟩
 item:=fun i s Q E hi st hQ=>by
  refine zgM st.1 st.2 (x:=items[i]) (by simp[hi]) fun h' hit' hs'=>?_;exact hQ _ h' s.toks (by simp[hi]) ⟨hit',st.2.extBut hs'.extBut hne⟩ hs'
 done:=fun s Q E st hE=>zjf hh st.1 st.2 (by simp) hE
structure Apart (z TI TO i1 i2:Addr) (fp1 fp2:List Addr):Prop where
 z1:z∉fp1
 z2:z∉fp2
 o1:TO∉fp1
 o2:TO∉fp2
 m1:i1∈fp1
 m2:i2∈fp2
 x12:i1∉fp2
 x21:i2∉fp1
 TIz:TI≠z
 TOz:TO≠z
 TITO:TI≠TO
 TIi1:TI≠i1
 TIi2:TI≠i2
section
variable {prog:Program}{w:World}{A:Around}{E:Value->Shared->Prop}{s:Shared}{z TI TO i1 i2:Addr}{fp1 fp2:List Addr}{n1 n2 i:Nat}{P1 P2:Nat->Value->Prop}{S1 S2:Nat->Heap->Prop}{a b:Value}
theorem zhz {Q:Value->Shared->Prop} (D1:Draws prog w A i1 fp1 n1 P1 S1) (D2:Draws prog w A i2 fp2 n2 P2 S2) (D:Apart z TI TO i1 i2 fp1 fp2)
  (hz:IsZip s.heap z TI TO .none) (hTI:IsPair s.heap TI (.ref i1) (.ref i2)) (hTO:IsPair s.heap TO a b) (h1:S1 i s.heap) (h2:S2 i s.heap) (l1:i<n1) (l2:i<n2)
  (hQ:∀x y h' tk,P1 i x->P2 i y->IsZip h' z TI TO (rawInt s.heap.objs.size)->IsPair h' TO x y->S1 (i+1) h'->S2 (i+1) h'->IsPair h' s.heap.objs.size x y->h'.objs.size=s.heap.objs.size+1->
   (∀c o,c≠z->c≠TO->c≠i1->c≠i2->s.heap.get? c=some o->h'.get? c=some o)->Q (.ref s.heap.objs.size) { s with heap:=h',toks:=tk }) :
  wpAny (model prog w) A (Builtin.«zip.__next__» ⟨[.ref z],[]⟩) (fun fin s'=>∃v,fin=.done (.ret v)/\Q v s') E s:=by
 have ne1:∀c∈fp1,c≠z:=fun c hc e=>D.z1 (e ▸ hc);have ne2:∀c∈fp2,c≠z:=fun c hc e=>D.z2 (e ▸ hc);have no1:∀c∈fp1,c≠TO:=fun c hc e=>D.o1 (e ▸ hc);have no2:∀c∈fp2,c≠TO:=fun c hc e=>D.o2 (e ▸ hc);have n12:∀c∈fp2,c≠i1:=fun c hc e=>D.x12 (e ▸ hc);have n21:∀c∈fp1,c≠i2:=fun c hc e=>D.x21 (e ▸ hc);have i1z:i1≠z:=ne1 _ D.m1;have i2z:i2≠z:=ne2 _ D.m2;have TOi1:TO≠i1:=(no1 _ D.m1).symm;have TOi2:TO≠i2:=(no2 _ D.m2).symm;show wpAny _ _ (field (.ref z) 2 >>= _) _ _ _;refine wpAny_bind (wpAny_field hz rfl (x:=.bool false) rfl ?_);show wpAny _ _ (field (.ref z) 3 >>= _) _ _ _;refine wpAny_bind (wpAny_field hz rfl (x:=.ref TI) rfl ?_);refine wpAny_bind (wpAny_seqItems hTI rfl ?_);show wpAny _ _ (Builtin.SmallTypes.ownedTupleIsFree (.ref z) >>= _) _ _ _;refine wpAny_bind ?_;unfold Builtin.SmallTypes.ownedTupleIsFree;refine wpAny_bind (wpAny_field hz rfl (x:=.none) rfl (wpAny_pure ?_));simp only[if_true];refine wpAny_bind (wpAny_rule ?_);refine wpAny_bind (wpAny_field hz rfl (x:=.ref TO) rfl ?_);refine wpAny_bind (wpAny_setField_rec hz (by simp) fun g1 hz1 k1=>?_);replace hz1:IsZip g1 z TI TO .ellipsis:=hz1;refine wpAny_bind ?_;simp only[List.zipIdx_cons,List.zipIdx_nil,List.forIn_cons,List.forIn_nil];refine wpAny_bind (wpAny_bind (wpAny_onRaise ?_));show wpAny _ _ (Builtin.SmallTypes.nextOf (.ref i1) >>= _) _ _ _;refine wpAny_bind (D1.item i _ _ _ l1 (D1.frame _ _ _ h1 fun c hc o e=>k1.extBut c o (ne1 c hc) e) fun x g2 tk2 px s2 k2=>wpAny_pure ?_);have t2:IsPair g2 TO a b:=k2.extBut _ _ TOi1 (k1.extBut _ _ D.TOz hTO);refine wpAny_bind (wpAny_seqItems t2 rfl ?_);refine wpAny_bind (wpAny_updateSeq_pair t2 fun g3 t3 k3=>?_);replace t3:IsPair g3 TO x b:=t3;refine wpAny_bind (wpAny_letGo (wpAny_pure ?_));refine wpAny_bind (wpAny_bind (wpAny_onRaise ?_));show wpAny _ _ (Builtin.SmallTypes.nextOf (.ref i2) >>= _) _ _ _;refine wpAny_bind (D2.item i _ _ _ l2 (D2.frame _ _ _ h2 fun c hc o e=>k3.extBut c o (no2 c hc) (k2.extBut c o (n12 c hc) (k1.extBut c o (ne2 c hc) e))) fun y g4 tk4 py s4 k4=>wpAny_pure ?_);have t4:IsPair g4 TO x b:=k4.extBut _ _ TOi2 t3;refine wpAny_bind (wpAny_seqItems t4 rfl ?_);refine wpAny_bind (wpAny_updateSeq_pair t4 fun g5 t5 k5=>?_);replace t5:IsPair g5 TO x y:=t5;refine wpAny_bind (wpAny_letGo (wpAny_pure (wpAny_pure ?_)));refine wpAny_bind (wpAny_seqItems t5 rfl ?_);refine wpAny_bind (wpAny_newTuple ?_);have hsz:g5.objs.size=s.heap.objs.size:=by rw[k5.1,k4.1,k3.1,k2.1,k1.1]
 have z5:IsZip g5 z TI TO .ellipsis:=k5.extBut _ _ D.TOz.symm (k4.extBut _ _ i2z.symm (k3.extBut _ _ D.TOz.symm (k2.extBut _ _ i1z.symm hz1)));have kk:∀c o,c≠z->c≠TO->c≠i1->c≠i2->s.heap.get? c=some o->g5.get? c=some o:=fun c o c1 c2 c3 c4 e=>
  k5.extBut _ _ c2 (k4.extBut _ _ c4 (k3.extBut _ _ c2 (k2.extBut _ _ c3 (k1.extBut _ _ c1 e))))
 have d1:S1 (i+1) g5:=D1.frame _ _ _ s2 fun c hc o e=>k5.extBut c o (no1 c hc) (k4.extBut c o (n21 c hc) (k3.extBut c o (no1 c hc) e));have d2:S2 (i+1) g5:=D2.frame _ _ _ s4 fun c hc o e=>k5.extBut c o (no2 c hc) e;have zlt:z<g5.objs.size:=Heap.lt_size z5;have e1:∀c∈fp1,∀o,g5.get? c=some o->c<g5.objs.size:=fun c _ o e=>Heap.lt_size e;show wpAny _ _ (Builtin.SmallTypes.ownedTupleHandOut (.ref z) (.ref g5.objs.size) >>= _) _ _ _;refine wpAny_bind ?_;unfold Builtin.SmallTypes.ownedTupleHandOut;have z6:IsZip (g5.push { cls:=.type "tuple",data:=.seq #[x,y] }) z TI TO .ellipsis:=Heap.get?_push_of_some _ z5;refine wpAny_bind (wpAny_setField_rec z6 (by simp) fun g7 z7 k7=>?_);replace z7:IsZip g7 z TI TO (rawInt g5.objs.size):=z7;refine wpAny_setField_rec z7 (by simp) fun g8 z8 k8=>?_;replace z8:IsZip g8 z TI TO (rawInt g5.objs.size):=z8;have up:∀c o,c≠z->g5.get? c=some o->g8.get? c=some o:=fun c o c1 e=>k8.extBut _ _ c1 (k7.extBut _ _ c1 (Heap.get?_push_of_some _ e));have T8:IsPair g8 g5.objs.size x y:=k8.extBut _ _ (Nat.ne_of_gt zlt) (k7.extBut _ _ (Nat.ne_of_gt zlt) (Heap.get?_push_size _ rfl));have sz8:g8.objs.size=g5.objs.size+1:=by rw[k8.1,k7.1,Heap.size_push]
 rw[hsz] at z8 T8 sz8;refine wpAny_pure ⟨_,rfl,?_⟩;show Q (.ref g5.objs.size) _;rw[hsz];exact hQ x y g8 _ px py z8 (up _ _ D.TOz t5) (D1.frame _ _ _ d1 fun c hc o e=>up c o (ne1 c hc) e) (D2.frame _ _ _ d2 fun c hc o e=>up c o (ne2 c hc) e) T8 sz8 fun c o c1 c2 c3 c4 e=>up c o c1 (kk c o c1 c2 c3 c4 e)
theorem zi4 {Q:Fin->Shared->Prop} (D1:Draws prog w A i1 fp1 n1 P1 S1) (D2:Draws prog w A i2 fp2 n2 P2 S2) (D:Apart z TI TO i1 i2 fp1 fp2)
  (hz:IsZip s.heap z TI TO .none) (hTI:IsPair s.heap TI (.ref i1) (.ref i2)) (hTO:IsPair s.heap TO a b) (h1:S1 i s.heap) (h2:S2 i s.heap) (hend:i=n1 \/ (i<n1/\i=n2))
  (hE:∀h' e tk,(∀c o,c≠z->c≠TO->c≠i1->c≠i2->s.heap.get? c=some o->h'.get? c=some o)->(∃o,h'.get? e=some o/\o.cls=.type "StopIteration")->E (.ref e) { s with heap:=h',toks:=tk }) :
  wpAny (model prog w) A (Builtin.«zip.__next__» ⟨[.ref z],[]⟩) Q E s:=by
 have ne1:∀c∈fp1,c≠z:=fun c hc e=>D.z1 (e ▸ hc);have ne2:∀c∈fp2,c≠z:=fun c hc e=>D.z2 (e ▸ hc);have no1:∀c∈fp1,c≠TO:=fun c hc e=>D.o1 (e ▸ hc);have no2:∀c∈fp2,c≠TO:=fun c hc e=>D.o2 (e ▸ hc);have n12:∀c∈fp2,c≠i1:=fun c hc e=>D.x12 (e ▸ hc);have i1z:i1≠z:=ne1 _ D.m1;have i2z:i2≠z:=ne2 _ D.m2;have TOi1:TO≠i1:=(no1 _ D.m1).symm;show wpAny _ _ (field (.ref z) 2 >>= _) _ _ _;refine wpAny_bind (wpAny_field hz rfl (x:=.bool false) rfl ?_);show wpAny _ _ (field (.ref z) 3 >>= _) _ _ _;refine wpAny_bind (wpAny_field hz rfl (x:=.ref TI) rfl ?_);refine wpAny_bind (wpAny_seqItems hTI rfl ?_);show wpAny _ _ (Builtin.SmallTypes.ownedTupleIsFree (.ref z) >>= _) _ _ _;refine wpAny_bind ?_;unfold Builtin.SmallTypes.ownedTupleIsFree;refine wpAny_bind (wpAny_field hz rfl (x:=.none) rfl (wpAny_pure ?_));simp only[if_true];refine wpAny_bind (wpAny_rule ?_);refine wpAny_bind (wpAny_field hz rfl (x:=.ref TO) rfl ?_);refine wpAny_bind (wpAny_setField_rec hz (by simp) fun g1 hz1 k1=>?_);replace hz1:IsZip g1 z TI TO .ellipsis:=hz1;refine wpAny_bind ?_;simp only[List.zipIdx_cons,List.zipIdx_nil,List.forIn_cons,List.forIn_nil];refine wpAny_bind (wpAny_bind (wpAny_onRaise ?_));have f1:=D1.frame _ _ _ h1 fun c hc o e=>k1.extBut c o (ne1 c hc) e;rcases hend with e0 | ⟨l1,e0⟩
 ·show wpAny _ _ (Builtin.SmallTypes.nextOf (.ref i1) >>= _) _ _ _
  refine wpAny_bind (D1.done _ _ _ (e0 ▸ f1) fun g2 e k2 he=>?_);obtain⟨oe,hoe,hce⟩:=he;have z2:IsZip g2 z TI TO .ellipsis:=k2 _ _ i1z.symm hz1;have ez:e≠z:=fun x=>by subst x; rw[z2] at hoe; cases hoe; simp at hce
  refine wpAny_setField_rec z2 (by simp) fun g3 _ k3=>hE g3 e _ (fun c o c1 _ c3 _ x=>k3.extBut _ _ c1 (k2 _ _ c3 (k1.extBut _ _ c1 x))) ⟨oe,k3.extBut _ _ ez hoe,hce⟩
 ·show wpAny _ _ (Builtin.SmallTypes.nextOf (.ref i1) >>= _) _ _ _
  refine wpAny_bind (D1.item i _ _ _ l1 f1 fun x g2 tk2 px s2 k2=>wpAny_pure ?_);have t2:IsPair g2 TO a b:=k2.extBut _ _ TOi1 (k1.extBut _ _ D.TOz hTO);refine wpAny_bind (wpAny_seqItems t2 rfl ?_);refine wpAny_bind (wpAny_updateSeq_pair t2 fun g3 t3 k3=>?_);refine wpAny_bind (wpAny_letGo (wpAny_pure ?_));refine wpAny_bind (wpAny_bind (wpAny_onRaise ?_));have f2:S2 i g3:=D2.frame _ _ _ h2 fun c hc o e=>k3.extBut c o (no2 c hc) (k2.extBut c o (n12 c hc) (k1.extBut c o (ne2 c hc) e));show wpAny _ _ (Builtin.SmallTypes.nextOf (.ref i2) >>= _) _ _ _;refine wpAny_bind (D2.done _ _ _ (e0 ▸ f2) fun g4 e k4 he=>?_);obtain⟨oe,hoe,hce⟩:=he;have z4:IsZip g4 z TI TO .ellipsis:=k4 _ _ i2z.symm (k3.extBut _ _ D.TOz.symm (k2.extBut _ _ i1z.symm hz1));have ez:e≠z:=fun x=>by subst x; rw[z4] at hoe; cases hoe; simp at hce
  refine wpAny_setField_rec z4 (by simp) fun g5 _ k5=>hE g5 e _ (fun c o c1 c2 c3 c4 x=>k5.extBut _ _ c1 (k4 _ _ c4 (k3.extBut _ _ c2 (k2.extBut _ _ c3 (k1.extBut _ _ c1 x))))) ⟨oe,k5.extBut _ _ ez hoe,hce⟩
end
theorem zgt {prog:Program}{w:World}{A:Around}{z TI TO i1 i2:Addr}{fp1 fp2:List Addr}{n1 n2:Nat}{P1 P2:Nat->Value->Prop}{S1 S2:Nat->Heap->Prop}
  (D1:Draws prog w A.in1 i1 fp1 n1 P1 S1) (D2:Draws prog w A.in1 i2 fp2 n2 P2 S2) (D:Apart z TI TO i1 i2 fp1 fp2) :
  WalksT prog w A z (z::TI::TO::(fp1++fp2)) [z,TO,i1,i2] (min n1 n2) (fun i vals=>∃x y,P1 i x/\P2 i y/\vals=#[x,y])
   (fun i h=>IsZip h z TI TO .none/\IsPair h TI (.ref i1) (.ref i2)/\(∃a b,IsPair h TO a b)/\S1 i h/\S2 i h)
   (fun i T h=>IsZip h z TI TO (rawInt T)/\IsPair h TI (.ref i1) (.ref i2)/\(∃a b,IsPair h TO a b)/\S1 (i+1) h/\S2 (i+1) h/\T≠z/\T≠TO/\T≠i1/\T≠i2) where
 sub:=fun c hc=>by
  simp at hc ⊢;rcases hc with rfl | rfl | rfl | rfl
  ·simp
  ·simp
  ·exact .inr (.inr (.inr (.inl D.m1)))
  ·exact .inr (.inr (.inr (.inr D.m2)))
 frame:=fun i h h' hst hk=>by
  obtain⟨hz,hTI,⟨a,b,hTO⟩,h1,h2⟩:=hst;exact⟨hk z (by simp) _ hz,hk TI (by simp) _ hTI,⟨a,b,hk TO (by simp) _ hTO⟩,D1.frame _ _ _ h1 fun c hc o e=>hk c (by simp[hc]) o e,D2.frame _ _ _ h2 fun c hc o e=>hk c (by simp[hc]) o e⟩
 item:=fun i s Q E hi hst hQ=>by
  obtain⟨hz,hTI,⟨a,b,hTO⟩,h1,h2⟩:=hst;have hT:s.TypeIs (.ref z) "zip":=⟨_,hz,rfl⟩;unfold pyNext;refine wpAny_bind (wpAny_attempt (wpAny_callSpecial?_slot (name:=Str.ofString "__next__") hT F.slot_zip_next (wpAny_call_entry F.slot_zip_next hT F.entry_zip_next
   (zhz D1 D2 D hz hTI hTO h1 h2 (Nat.lt_of_lt_of_le hi (Nat.min_le_left ..)) (Nat.lt_of_lt_of_le hi (Nat.min_le_right ..)) fun x y h' tk px py a1 a2 a3 a4 a5 a6 hk=>wpAny_pure ?_) (F.args_zip_next_1 _))))
  have lt:∀{c o},s.heap.get? c=some o->s.heap.objs.size≠c:=fun e=>Nat.ne_of_gt (Heap.lt_size e);obtain⟨o1,l1⟩:=D1.live _ _ h1;obtain⟨o2,l2⟩:=D2.live _ _ h2;exact hQ s.heap.objs.size #[x,y] h' tk ⟨_,_,px,py,rfl⟩ (Nat.le_refl _) ⟨_,a5,rfl,_,rfl⟩ ⟨a1,hk _ _ D.TIz D.TITO D.TIi1 D.TIi2 hTI,⟨_,_,a2⟩,a3,a4,lt hz,lt hTO,lt l1,lt l2⟩
   fun c o hc e=>hk c o (fun x=>hc (by simp[x])) (fun x=>hc (by simp[x])) (fun x=>hc (by simp[x])) (fun x=>hc (by simp[x])) e
 go:=fun elts k pos i T s Q E hm hQ=>by
  obtain⟨hz,hTI,⟨a,b,hTO⟩,h1,h2,_⟩:=hm;refine wpAny_letOwnedTupleGo_zip hz fun h' hz' hs'=>hQ h' ⟨hz',hs'.extBut _ _ D.TIz hTI,⟨a,b,hs'.extBut _ _ D.TOz hTO⟩,
   D1.frame _ _ _ h1 fun c hc o e=>hs'.extBut c o (fun q=>D.z1 (q ▸ hc)) e,D2.frame _ _ _ h2 fun c hc o e=>hs'.extBut c o (fun q=>D.z2 (q ▸ hc)) e⟩ fun c o hc e=>hs'.extBut _ _ (fun x=>hc (by simp[x])) e
 apart:=fun i T h hm hT=>by
  obtain⟨_,_,_,_,_,t1,t2,t3,t4⟩:=hm;simp at hT;rcases hT with rfl | rfl | rfl | rfl
  ·exact t1 rfl
  ·exact t2 rfl
  ·exact t3 rfl
  ·exact t4 rfl
 done:=fun s Q E hst hQ=>by
  obtain⟨hz,hTI,⟨a,b,hTO⟩,h1,h2⟩:=hst;have hT:s.TypeIs (.ref z) "zip":=⟨_,hz,rfl⟩;have hend:min n1 n2=n1 \/ (min n1 n2<n1/\min n1 n2=n2):=by omega
  unfold pyNext;refine wpAny_bind (wpAny_attempt (wpAny_callSpecial?_slot (name:=Str.ofString "__next__") hT F.slot_zip_next
   (wpAny_call_entry F.slot_zip_next hT F.entry_zip_next (zi4 D1 D2 D hz hTI hTO h1 h2 hend fun h' e tk hk he=>?_) (F.args_zip_next_1 _))))
  obtain⟨o,ho,hc⟩:=he;refine wpAny_bind (wpAny_isInstance (T:="StopIteration") (b:=true) ⟨o,ho,hc⟩ isSubtype_stop ?_);exact wpAny_pure (hQ _ tk fun c o hc e=>hk c o (fun x=>hc (by simp[x])) (fun x=>hc (by simp[x])) (fun x=>hc (by simp[x])) (fun x=>hc (by simp[x])) e)
 self:=fun i s Q E hst hQ=>wpAny_pyIter_zip hst.1 hQ
end Zp
end
section
namespace L2
open PySem PySem.Spec PyProof.Rows
section
variable {X:Cx}{pins:List (Addr×Obj)}{σ:St}{H:Hp}{s:Shared}{h':Heap}
theorem Inv.turneds {t':Nat}{ch:List Addr} (I:Inv X pins σ H s) (hf:∀b∈ch,FpOk X pins H b) (k:∀b o,b∉ch->s.heap.get? b=some o->h'.get? b=some o):Inv X pins σ H { s with heap:=h',toks:=t' }:=by
 have nit:∀b u,H b=some u->b∉ch:=fun b u e z=>by have:=(hf b z).1; rw[this] at e; cases e
 refine I.step (g':=s.gens) (d':=s.drawn) (ch:=ch) (fun b hb=>?_) (fun b o _ _ hc e _=>k b o hc e) (fun b o _ _ hc e _=>⟨o.slots,k b o hc e⟩) (fun _ _ _ _ n=>n)
  (fun b o hc e=>⟨o,k b o hc e⟩) (fun _ _ e=>e) (fun _ _ _ e=>e) (fun b ps e=>⟨#[],by rw[e]; simp⟩) (fun m hm=>?_) (fun b u e=>?_) I.bare
 ·obtain⟨f0,f1,f2,f3,f4,f5⟩:=hf b hb
  exact⟨f3,f1,f4,f5⟩
 ·obtain⟨o,es,ep,ho,r⟩:=hm
  exact⟨o,es,ep,k _ o (fun z=>(hf _ z).2.1 rfl) ho,r⟩
 ·refine (I.hok b u e).stay (fun c v hc q=>k c v ?_ q) (fun _ q=>q) fun _ _ q=>q
  rcases hc with z | z
  ·rw[z]; exact nit b u e
  ·exact nit c _ z
theorem Inv.adopt {a:Addr}{o:HO} (I:Inv X pins σ H s) (hn:H a=none) (h1:X.s₀.heap.objs.size<=a) (h2:a≠X.env.locals) (h3:∀x c,X.env.cells.lookup x=some c->c≠a) (h4:∀p∈X.pn++pins,p.1≠a)
  (new:zI X.prog X.w (upd H a o) s.heap a o):Inv X pins σ (upd H a o) s:=by
 refine I.step (h':=s.heap) (g':=s.gens) (t':=s.toks) (d':=s.drawn) (ch:=[a]) (fun b hb=>?_) (fun b o _ _ hc e _=>e) (fun b o _ _ hc e _=>⟨o.slots,e⟩) (fun b o hc e n=>?_)
  (fun b o hc e=>⟨o,e⟩) (fun b xs e=>?_) (fun b o u e=>?_) (fun b ps e=>⟨#[],?_⟩) (fun m hm=>hm) (fun b u e=>?_) I.bare
 ·have e:b=a:=by simpa using hb
  subst e;exact⟨.inr h1,h2,h3,h4⟩
 ·rw[upd_ne (fun z=>hc (by simp[z]))]; exact n
 ·rw[upd_ne (zj e hn)]; exact e
 ·rw[upd_ne (zj e hn)]; exact e
 ·rw[upd_ne (zj e hn),e]; simp
 ·by_cases hb:b=a
  ·subst hb; rw[upd_same] at e; cases e; exact new
  ·rw[upd_ne hb] at e
   exact (I.hok b u e).stay (fun _ _ _ q=>q) (fun c q=>by rw[upd_ne (zj q hn)]; exact q) fun c xs q=>by rw[upd_ne (zj q hn)]; exact q
theorem Inv.grown {t':Nat}{ch:List Addr}{a:Addr}{o:HO} (I:Inv X pins σ H s) (hf:∀b∈ch,FpOk X pins H b) (k:∀b o,b∉ch->s.heap.get? b=some o->h'.get? b=some o) (hp:s.heap.objs.size<=a)
  (new:zI X.prog X.w (upd H a o) h' a o):Inv X pins σ (upd H a o) { s with heap:=h',toks:=t' }:=by
 have I1:Inv X pins σ H { s with heap:=h',toks:=t' }:=I.turneds hf k;obtain⟨f0,f1,f2,f3,f4,f5⟩:=I.fpOk hp (I.hok.fresh hp);exact I1.adopt f0 (Nat.le_trans I.sz hp) f1 f4 f5 new
theorem zf5 {b t:Addr}{o:Obj} (I:Inv X pins σ H s) (f:FpOk X pins H b) (hk:X.K.lookup t=some o):t≠b:=by
 intro z;subst z;have e:=I.ok.mod.kin t o hk;rcases f.2.2.2.1 with q | q
 ·exact I.ok.noex t o e q
 ·exact absurd (Nat.lt_of_lt_of_le (Heap.lt_size (I.ok.bs t o e).1) q) (Nat.lt_irrefl _)
theorem zhP {b t:Addr}{xs:List V} (I:Inv X pins σ H s) (f:FpOk X pins H b) (h:SqT X.K H t xs):t≠b:=by
 rcases h with (h | ⟨o,h⟩) | ⟨o,_,_,hk,_⟩
 ·exact zj h f.1
 ·exact zj h f.1
 ·exact zf5 I f hk
theorem zki {b t:Addr}{xs:List V} (I:Inv X pins σ H s) (f:FpOk X pins H b) (h:SqL X.K H t xs):t≠b:=by
 rcases h with (h | ⟨o,h⟩) | ⟨o,_,_,hk,_⟩
 ·exact zj h f.1
 ·exact zj h f.1
 ·exact zf5 I f hk
end
theorem zet {P:Program}{w:World}{K:PySem.W.Frag}{J:It}{fp wr:List Addr}{it:Addr}{tn:Nat->Heap->Prop}{elts:List Expr}{k:Nat}{pos:Pos} (mem:it∈fp)
  (obj:∀i h,tn i h->∀b∈fp,∃o,h.get? b=some o/\∀v,o.data≠.cell v) (keep:∀i h h',tn i h->(∀b∈fp,∀o,h.get? b=some o->h'.get? b=some o)->tn i h') (hw:∀b∈wr,b∈fp)
  (W:∀(X:Cx),X.prog=P->X.w=w->X.K=K->X.calm=true->∀(i:Nat) (pins:List (Addr×Obj)) (s:Shared) (σ:St) (H:Hp),Inv X pins σ H s->(∀b∈fp,FpOk X pins H b)->tn i s.heap->(J.go i H \/ J.stop i H)->
   ∃(fp':List Addr) (n:Nat) (Pt:Nat->Array Value->Prop) (S:Nat->Heap->Prop) (Mid:Nat->Addr->Heap->Prop),WalksT P w X.A it fp' wr n Pt S Mid/\S i s.heap/\(∀j h,S j h->tn j h)/\
    (J.go i H->i<n/\∀vals,Pt i vals->∃xs:List V,Vals xs vals.toList/\xs.length<=sizeLine/\∀p,H p=none->J.yld i H (.ref p) (upd H p (.tup xs)))/\(J.stop i H->i=n))
  (self:∀(A:Around) (i:Nat) (s:Shared) (Q:Value->Shared->Prop) (E:Value->Shared->Prop),tn i s.heap->Q (.ref it) s->wpAny (model P w) A (pyIter (.ref it)) Q E s) :
  Turn P w K (.Tuple elts k pos) J fp it tn where
 mem:=mem
 obj:=obj
 keep:=keep
 item:=by
  intro X hP hw' hK hc i pins s σ H E I hf st hg;obtain⟨fp',n,Pt,S,Mid,WT,st',tnS,g,_⟩:=W X hP hw' hK hc i pins s σ H I hf st (.inl hg);obtain⟨hi,hv⟩:=g hg;subst hP hw' hK;refine WT.item i s _ _ hi st' fun T vals h' tk hp hT htup hm hk=>⟨.ref T,rfl,?_⟩;obtain⟨xs,rv,hz,hy⟩:=hv vals hp;have I1:Inv X pins σ (upd H T (.tup xs)) { s with heap:=h',toks:=tk }:=I.grown (ch:=wr) (fun b hb=>hf b (hw b hb)) hk hT (show zI X.prog X.w _ h' T (.tup xs) from ⟨hz,vals.toList,rv,by have q:IsTup h' T vals:=htup; simpa using q⟩);have ltT:∀b∈fp,b≠T:=fun b hb=>by
   obtain⟨o,e,_⟩:=obj i _ st b hb;exact Nat.ne_of_lt (Nat.lt_of_lt_of_le (Heap.lt_size e) hT)
  have hf1:∀b∈fp,FpOk X pins (upd H T (.tup xs)) b:=fun b hb=>by
   obtain⟨f0,fr⟩:=hf b hb;exact⟨by rw[upd_ne (ltT b hb)]; exact f0,fr⟩
  refine WT.go elts k pos i T _ _ _ hm fun h'' st'' hk''=>?_;have I2:Inv X pins σ (upd H T (.tup xs)) { s with heap:=h'',toks:=tk }:=I1.turneds (s:={ s with heap:=h',toks:=tk }) (t':=tk) (ch:=wr) (fun b hb=>hf1 b (hw b hb)) hk'';exact⟨.ref T,_,I2,rfl,hy T (I.hok.fresh hT),tnS _ _ st'',fun b hb=>(hf1 b hb).1⟩
 done:=by
  intro X hP hw' hK hc i pins s σ H E I hf st hg;obtain⟨fp',n,Pt,S,Mid,WT,st',tnS,_,g⟩:=W X hP hw' hK hc i pins s σ H I hf st (.inr hg);subst hP hw' hK;have e:=g hg;subst e;exact WT.done s _ _ st' fun h' tk hk=>⟨rfl,I.turneds (ch:=wr) (fun b hb=>hf b (hw b hb)) hk⟩
 self:=self
def Itz (K:PySem.W.Frag) (t1 t2:Addr):It:=
 ⟨fun i H=>∃xs ys,SqT K H t1 xs/\SqT K H t2 ys/\i<min xs.length ys.length,
  fun i H v H'=>∃p x y,v=.ref p/\H p=none/\H'=upd H p (.tup [x,y])/\(∀xs,SqT K H t1 xs->xs[i]?=some x)/\∀ys,SqT K H t2 ys->ys[i]?=some y,
  fun i H=>∃xs ys,SqT K H t1 xs/\SqT K H t2 ys/\i=min xs.length ys.length⟩
theorem two_line:(2:Nat)<=sizeLine:=by rw[sizeLine_eq]; decide
theorem zgX {P:Program}{w:World}{K:PySem.W.Frag}{elts:List Expr}{k:Nat}{pos:Pos} (t1 t2 z TI TO i1 i2:Addr) (hd:TI≠z/\TO≠z/\TI≠TO/\TI≠i1/\TI≠i2/\z≠i1/\z≠i2/\TO≠i1/\TO≠i2/\i1≠i2) :
  Turn P w K (.Tuple elts k pos) (Itz K t1 t2) [z,TI,TO,i1,i2] z (fun i h=>IsZip h z TI TO .none/\IsPair h TI (.ref i1) (.ref i2)/\(∃a b,IsPair h TO a b)/\h.IsTupleIter i1 t1 i/\h.IsTupleIter i2 t2 i):=by
 obtain⟨d1,d2,d3,d4,d5,d6,d7,d8,d9,d10⟩:=hd;refine zet (wr:=[z,TO,i1,i2]) (by simp) (fun i h st b hb=>?_) (fun i h h' st kk=>?_) (fun b hb=>?_) (fun X hP hw hK hc i pins s σ H I hf st hgs=>?_) fun A i s Q E st h=>wpAny_pyIter_zip st.1 h
 ·obtain⟨a1,a2,⟨a,b',a3⟩,⟨o4,a4,_,e4⟩,⟨o5,a5,_,e5⟩⟩:=st
  simp at hb;rcases hb with rfl | rfl | rfl | rfl | rfl
  ·exact⟨_,a1,fun v z=>by cases z⟩
  ·exact⟨_,a2,fun v z=>by cases z⟩
  ·exact⟨_,a3,fun v z=>by cases z⟩
  ·exact⟨_,a4,fun v z=>by rw[e4] at z; cases z⟩
  ·exact⟨_,a5,fun v z=>by rw[e5] at z; cases z⟩
 ·obtain⟨a1,a2,⟨a,b',a3⟩,a4,a5⟩:=st
  exact⟨kk z (by simp) _ a1,kk TI (by simp) _ a2,⟨a,b',kk TO (by simp) _ a3⟩,a4.at fun o e=>kk i1 (by simp) o e,a5.at fun o e=>kk i2 (by simp) o e⟩
 ·simp at hb ⊢
  rcases hb with rfl | rfl | rfl | rfl <;> simp
 ·subst hP hw hK
  have hd:∃xs ys,SqT X.K H t1 xs/\SqT X.K H t2 ys:=by
   rcases hgs with ⟨xs,ys,a,b,_⟩ | ⟨xs,ys,a,b,_⟩
   ·exact⟨xs,ys,a,b⟩
   ·exact⟨xs,ys,a,b⟩
  obtain⟨xs,ys,q1,q2⟩:=hd;obtain⟨us,r1,p1,_⟩:=I.tuple q1;obtain⟨ws,r2,p2,_⟩:=I.tuple q2;have hl1:=r1.length;have hl2:=r2.length;have hh:=I.ok.hd hc;obtain⟨a1,a2,a3,a4,a5⟩:=st;have f:=fun b hb=>zhP I (hf b hb) q1;have f':=fun b hb=>zhP I (hf b hb) q2;have AP:Zp.Apart z TI TO i1 i2 [i1,t1] [i2,t2]:=by
   refine⟨?_,?_,?_,?_,by simp,by simp,?_,?_,d1,d2,d3,d4,d5⟩
   ·simp; exact⟨d6,(f z (by simp)).symm⟩
   ·simp; exact⟨d7,(f' z (by simp)).symm⟩
   ·simp; exact⟨d8,(f TO (by simp)).symm⟩
   ·simp; exact⟨d9,(f' TO (by simp)).symm⟩
   ·simp; exact⟨d10,(f' i1 (by simp)).symm⟩
   ·simp; exact⟨d10.symm,(f i2 (by simp)).symm⟩
  have WZ:=Zp.zgt (prog:=X.prog) (w:=X.w) (A:=X.A) (Zp.zc3 (A:=X.A.in1) hh i1 t1 (f i1 (by simp)) us.toArray) (Zp.zc3 (A:=X.A.in1) hh i2 t2 (f' i2 (by simp)) ws.toArray) AP;refine⟨_,_,_,_,_,WZ,⟨a1,a2,a3,⟨a4,p1⟩,⟨a5,p2⟩⟩,fun j h st=>⟨st.1,st.2.1,st.2.2.1,st.2.2.2.1.1,st.2.2.2.2.1⟩,fun g=>?_,fun g=>?_⟩
  ·obtain⟨xs',ys',q1',q2',hi⟩:=g
   have e1:=I.tuple_inj q1' q1;have e2:=I.tuple_inj q2' q2;subst e1 e2;refine⟨by simpa[<- hl1,<- hl2] using hi,fun vals hp=>?_⟩;obtain⟨x,y,px,py,rfl⟩:=hp;have px':us[i]?=some x:=by simpa using px
   have py':ws[i]?=some y:=by simpa using py
   have lx:i<xs'.length:=by omega
   have ly:i<ys'.length:=by omega
   have gx:xs'[i]?=some xs'[i]:=by simp[lx]
   have gy:ys'[i]?=some ys'[i]:=by simp[ly]
   obtain⟨u,e3,ru⟩:=r1.get gx;obtain⟨u',e4,ru'⟩:=r2.get gy;rw[px'] at e3; cases e3;rw[py'] at e4; cases e4;refine⟨[xs'[i],ys'[i]],.cons ru (.cons ru' .nil),two_line,fun p hp=>⟨p,_,_,rfl,hp,rfl,fun zs hz=>?_,fun zs hz=>?_⟩⟩
   ·rw[I.tuple_inj hz q1]; exact gx
   ·rw[I.tuple_inj hz q2]; exact gy
  ·obtain⟨xs',ys',q1',q2',hi⟩:=g
   have e1:=I.tuple_inj q1' q1;have e2:=I.tuple_inj q2' q2;subst e1 e2
   simpa[<- hl1,<- hl2] using hi
theorem zhB (l1 l2:Addr) (xs ys:Array Value) :
  Meets (Builtin.«zip.__new__» ⟨[.type "zip",.ref l1,.ref l2],[]⟩) (fun _ R s=>s.heap.IsTuple l1 xs/\s.heap.IsTuple l2 ys/\
   ∀h',IsZip h' (s.heap.objs.size+4) (s.heap.objs.size+2) (s.heap.objs.size+3) .none->IsPair h' (s.heap.objs.size+2) (.ref s.heap.objs.size) (.ref (s.heap.objs.size+1))->
   IsPair h' (s.heap.objs.size+3) .none .none->h'.IsTupleIter s.heap.objs.size l1 0->h'.IsTupleIter (s.heap.objs.size+1) l2 0->
   (∀c o,s.heap.get? c=some o->h'.get? c=some o)->R (.ok (.ret (.ref (s.heap.objs.size+4)))) { s with heap:=h' }):=
 .of_wp fun prog w A R s h=>by
  obtain⟨hp,g,d,tk,os⟩:=s; obtain⟨hl1,hl2,h⟩:=h;have hsub:=sub_zip;have hL1:Heap.IsTuple (Shared.heap ⟨hp,g,d,tk,os⟩) l1 xs:=hl1;have hL2:Heap.IsTuple (Shared.heap ⟨hp.push { cls:=.type "tuple_iterator",data:=.fields #[.ref l1,.int 0 0] },g,d,tk,os⟩) l2 ys:=Heap.IsTuple.push hl2 _
  wp_walk using wpAny_pyIter_tuple hL1,wpAny_pyIter_tuple hL2
  refine⟨_,rfl,?_⟩;dsimp only at h ⊢;have z1:∀(h:Heap) (o:Obj),(h.push o).objs.size=h.objs.size+1:=fun h o=>Heap.size_push ..;simp only[z1,Nat.add_assoc,Nat.reduceAdd];refine h _ ?_ ?_ ?_ ?_ ?_ fun c o x=>Heap.get?_push_of_some _ (Heap.get?_push_of_some _ (Heap.get?_push_of_some _ (Heap.get?_push_of_some _ (Heap.get?_push_of_some _ x))))
  ·exact Heap.get?_push_at (by simp only[z1]) rfl
  ·exact Heap.get?_push_of_some _ (Heap.get?_push_of_some _ (Heap.get?_push_at (by simp only[z1]) rfl))
  ·exact Heap.get?_push_of_some _ (Heap.get?_push_at (by simp only[z1]) rfl)
  ·exact⟨_,Heap.get?_push_of_some _ (Heap.get?_push_of_some _ (Heap.get?_push_of_some _ (Heap.get?_push_of_some _ (Heap.get?_push_size _ rfl)))),rfl,rfl⟩
  ·exact⟨_,Heap.get?_push_of_some _ (Heap.get?_push_of_some _ (Heap.get?_push_of_some _ (Heap.get?_push_at (by simp only[z1]) rfl))),rfl,rfl⟩
section
variable {X:Cx}{elts:List Expr}{k:Nat}{tpos:Pos}
def iZip (K:PySem.W.Frag) (ta:TA):TI:=fun σ H R=>ta σ H fun vs H1=>∃t1 t2,vs=[.ref t1,.ref t2]/\(∃xs,SqT K H1 t1 xs)/\(∃ys,SqT K H1 t2 ys)/\R (Itz K t1 t2) H1
theorem zkh {a b:Expr}{ta:TA}{p pos:Pos} (hg:Gl X "zip") (hm:X.mg "zip"=none) (hv:bootBuiltins "zip"=some (.type "zip")) (ha:PA X [a,b] ta) (hs:starEach [a,b] X.env=[(false,eval a X.env),(false,eval b X.env)]:=by rfl) (hs2:starEach [b] X.env=[(false,eval b X.env)]:=by rfl) :
  PI X (.Tuple elts k tpos) (.Call (.Name "zip" p) [a,b] [] pos) (iZip X.K ta):=by
 intro pins s σ H R I h;refine Call_ (zb9 I hg hm hv (PyProof.Rows.callWith_type1 (thn (ha pos pins s σ H _ I h) fun us s1 ⟨vs,H1,I1,r1,q1⟩=>?_) (by rw[hs,hs2]) (by rw[hs2]; rfl)));obtain⟨t1,t2,e,⟨xs,q1⟩,⟨ys,q2⟩,q⟩:=q1;subst e;obtain⟨u,u',rfl,ru,ru'⟩:=vals2 r1;cases ru;cases ru';obtain⟨is1,_,p1,_⟩:=I1.tuple q1;obtain⟨is2,_,p2,_⟩:=I1.tuple q2;refine callType_new F.called_zip (by decide) (F.typeCall_zip_2 _ _) (F.newCall_zip_2 _ _) (fun obj=>F.args_object_init_3 obj _ _) F.entry_zip_new (zhB t1 t2 is1.toArray is2.toArray) ⟨p1,p2,fun h' a1 a2 a3 a4 a5 kk=>?_⟩;refine⟨⟨_,a1,rfl⟩,wpAny_pyIter_zip a1 ?_⟩;have I2:Inv X pins σ H1 { s1 with heap:=h' }:=I1.kept (t':=s1.toks) kk;refine⟨s1.heap.objs.size+4,[s1.heap.objs.size+4,s1.heap.objs.size+2,s1.heap.objs.size+3,s1.heap.objs.size,s1.heap.objs.size+1],_,_,H1,rfl,I2,zgX t1 t2 _ _ _ _ _ (by refine⟨?_,?_,?_,?_,?_,?_,?_,?_,?_,?_⟩ <;> (intro z; have z':(_:Nat)=_:=z; omega)),⟨a1,a2,⟨_,_,a3⟩,a4,a5⟩,fun b hb=>?_,q⟩;have hb':s1.heap.objs.size<=b:=by
  simp only[List.mem_cons,List.not_mem_nil,or_false] at hb;rcases hb with rfl | rfl | rfl | rfl | rfl
  ·exact Nat.le_add_right _ _
  ·exact Nat.le_add_right _ _
  ·exact Nat.le_add_right _ _
  ·exact Nat.le_refl _
  ·exact Nat.le_add_right _ _
 exact I1.fpOk hb' (I1.hok.fresh hb')
end
end L2
end
section
namespace L2
open PySem PySem.Spec PyProof.Rows
def Ite (K:PySem.W.Frag) (a:Addr):It:=
 ⟨fun i H=>∃xs,SqL K H a xs/\i<xs.length,
  fun i H v H'=>∃p x,v=.ref p/\H p=none/\H'=upd H p (.tup [.int i,x])/\∀xs,SqL K H a xs->xs[i]?=some x,
  fun i H=>∃xs,SqL K H a xs/\i=xs.length⟩
theorem zgm {P:Program}{w:World}{K:PySem.W.Frag}{elts:List Expr}{k:Nat}{pos:Pos} (a e it:Addr) (hd:e≠it) :
  Turn P w K (.Tuple elts k pos) (Ite K a) [e,it] e (fun i h=>(∃old,IsEnum h e it i old)/\h.IsListIter it a i):=by
 refine zet (wr:=[e,it]) (by simp) (fun i h st b hb=>?_) (fun i h h' st kk=>?_) (fun b hb=>hb) (fun X hP hw hK hc i pins s σ H I hf st hgs=>?_) fun A i s Q E st h=>?_
 ·obtain⟨⟨old,a1⟩,⟨o4,a4,_,e4⟩⟩:=st
  simp at hb;rcases hb with rfl | rfl
  ·exact⟨_,a1,fun v z=>by cases z⟩
  ·exact⟨_,a4,fun v z=>by rw[e4] at z; cases z⟩
 ·obtain⟨⟨old,a1⟩,a4⟩:=st
  exact⟨⟨old,kk e (by simp) _ a1⟩,a4.at fun o q=>kk it (by simp) o q⟩
 ·subst hP hw hK
  have hd':∃xs,SqL X.K H a xs:=by
   rcases hgs with ⟨xs,q,_⟩ | ⟨xs,q,_⟩
   ·exact⟨xs,q⟩
   ·exact⟨xs,q⟩
  obtain⟨xs,q1⟩:=hd';obtain⟨us,r1,p1,_⟩:=I.list q1;have hl1:=r1.length;have hh:=I.ok.hd hc;obtain⟨a1,a4⟩:=st;have f:=fun b hb=>zki I (hf b hb) q1;have WZ:=WalksT.enumerateD (prog:=X.prog) (w:=X.w) (A:=X.A) (Draws.list (A:=X.A.in1) hh it a (f it (by simp)) us.toArray) e hd (by simp; exact⟨hd,(f e (by simp)).symm⟩) (by simp);refine⟨_,_,_,_,_,WZ,⟨a1,a4,p1.isList⟩,fun j h st=>⟨st.1,st.2.1⟩,fun g=>?_,fun g=>?_⟩
  ·obtain⟨xs',q1',hi⟩:=g
   have e1:=I.list_inj q1' q1;subst e1;refine⟨by simpa[<- hl1] using hi,fun vals hp=>?_⟩;obtain⟨t,x,px,rfl⟩:=hp;have px':us[i]?=some x:=by simpa using px
   have gx:xs'[i]?=some xs'[i]:=by simp[hi]
   obtain⟨u,e3,ru⟩:=r1.get gx;rw[px'] at e3; cases e3;refine⟨[.int i,xs'[i]],.cons ⟨_,rfl⟩ (.cons ru .nil),two_line,fun p hp=>⟨p,_,rfl,hp,rfl,fun zs hz=>?_⟩⟩;rw[I.list_inj hz q1]; exact gx
  ·obtain⟨xs',q1',hi⟩:=g
   have e1:=I.list_inj q1' q1;subst e1
   simpa[<- hl1] using hi
 ·obtain⟨⟨old,a1⟩,_⟩:=st
  exact wpAny_pyIter_enum a1 h
section
variable {X:Cx}{elts:List Expr}{k:Nat}{tpos:Pos}
def zkr (K:PySem.W.Frag) (ta:TA):TI:=fun σ H R=>ta σ H fun vs H1=>∃a,vs=[.ref a]/\(∃xs,SqL K H1 a xs)/\R (Ite K a) H1
theorem zdX {a:Expr}{ta:TA}{p pos:Pos} (hg:Gl X "enumerate") (hm:X.mg "enumerate"=none) (hv:bootBuiltins "enumerate"=some (.type "enumerate")) (ha:PA X [a] ta) (hs:starEach [a] X.env=[(false,eval a X.env)]:=by rfl) :
  PI X (.Tuple elts k tpos) (.Call (.Name "enumerate" p) [a] [] pos) (zkr X.K ta):=by
 intro pins s σ H R I h;refine Call_ (zb9 I hg hm hv (PyProof.Rows.callWith_type1 (thn (ha pos pins s σ H _ I h) fun us s1 ⟨vs,H1,I1,r1,q1⟩=>?_) hs rfl));obtain⟨a',e,⟨xs,q1⟩,q⟩:=q1;subst e;obtain⟨u,rfl,ru⟩:=vals1 r1;cases ru;obtain⟨is1,_,p1,_⟩:=I1.list q1;refine call_enumerate_list p1.isList fun h' a1 a2 a3 kk=>?_;refine wpAny_pyIter_enum a1 ?_;have I2:Inv X pins σ H1 { s1 with heap:=h' }:=I1.kept (t':=s1.toks) kk;refine⟨s1.heap.objs.size+1,[s1.heap.objs.size+1,s1.heap.objs.size],_,_,H1,rfl,I2,zgm a' _ _ (by intro z; have z':(_:Nat)=_:=z; omega),⟨⟨_,a1⟩,a2⟩,fun b hb=>?_,q⟩;have hb':s1.heap.objs.size<=b:=by
  simp only[List.mem_cons,List.not_mem_nil,or_false] at hb;rcases hb with rfl | rfl
  ·exact Nat.le_add_right _ _
  ·exact Nat.le_refl _
 exact I1.fpOk hb' (I1.hok.fresh hb')
theorem zcu {K:PySem.W.Frag}{a:Addr}{xs:List V}{g:TG}{tb:TS}{D:Ends}{σ:St}{H:Hp} (Pv:Nat->St->Hp->Prop) (h0:Pv 0 σ H) (hl:∀i σ H,i<=xs.length->Pv i σ H->SqL K H a xs)
  (hs:∀i x p σ H,xs[i]?=some x->Pv i σ H->H p=none->g (.ref p) σ (upd H p (.tup [.int i,x])) fun σ2 H2=>tb { D with nx:=Pv (i+1),ct:=Pv (i+1),bk:=D.nx } σ2 H2) (hd:∀σ H,Pv xs.length σ H->D.nx σ H) :
  ∃W:Nat->Nat->St->Hp->Prop,(∃m,W 0 m σ H)/\∀i m σ H,W i m σ H->
   ((Ite K a).stop i H/\D.nx σ H) \/ ((Ite K a).go i H/\∃N:St->Hp->Prop,(∀σ' H',N σ' H'->∃m',m'<m/\W (i+1) m' σ' H')/\∀x H',(Ite K a).yld i H x H'->g x σ H' fun σ2 H2=>tb { D with nx:=N,ct:=N,bk:=D.nx } σ2 H2):=by
 refine⟨fun i m σ H=>m=xs.length - i/\i<=xs.length/\Pv i σ H,⟨xs.length,by simp,Nat.zero_le _,h0⟩,?_⟩;rintro i m σ H ⟨rfl,hi,p⟩;have q:=hl i σ H hi p
 by_cases hlt:i<xs.length
 ·refine .inr ⟨⟨xs,q,hlt⟩,Pv (i+1),fun σ' H' p'=>⟨xs.length - (i+1),by omega,rfl,hlt,p'⟩,fun x H' y=>?_⟩
  obtain⟨pp,x',rfl,hp,rfl,y⟩:=y;exact hs i x' pp σ _ (y xs q) p hp
 ·have e:i=xs.length:=by omega
  subst e;exact .inl ⟨⟨xs,q,rfl⟩,hd σ H p⟩
theorem bools_of:∀{bs:List Bool}{us:List Value},Vals (bs.map V.bl) us->LSm.BoolsAre us bs
 | [],_,.nil=>.nil
 | b::bs,_,.cons r t=>by cases r; exact .cons b (bools_of t)
theorem zef (hc:X.calm=true):zaz X (.builtin "all") (fun xs H Q=>∃(l:Addr) (bs:List Bool),xs=[.ref l]/\SqL X.K H l (bs.map V.bl)/\Q (.bl (bs.all id)) H):=by
 intro pins s σ H xs us Q I r h;obtain⟨l,bs,rfl,hq,q⟩:=h;obtain⟨u,rfl,ru⟩:=vals1 r;cases ru;obtain⟨its,r1,p1,_⟩:=I.list hq;have hh:=I.ok.hd hc;have hl:=p1.isList;have hb:=bools_of r1;have hlt:l<s.heap.objs.size:=by obtain⟨_,e,_⟩:=hl; exact Heap.lt_size e
 refine call_all_walk (wpAny_pyIter_list hl ?_);refine⟨s.heap.objs.size,[s.heap.objs.size,l],[s.heap.objs.size],its.toArray.size,_,_,fun i=>(bs[i]?).getD true,rfl,Walks.list (A:=X.A.in1) hh _ l (Nat.ne_of_lt hlt) its.toArray,
  ⟨⟨_,Heap.get?_push_size _ rfl,rfl,rfl⟩,hl.push _⟩,fun i v s' Q' E' hP hQ=>?_,fun h' tk hk=>?_⟩
 ·obtain⟨b,e,rfl⟩:=hb.get i v (by simpa using hP)
  simp only[e,Option.getD_some] at hQ;exact wpAny_truthy_bool hQ
 ·have e:((List.range its.toArray.size).all fun i=>(bs[i]?).getD true)=bs.all id:=by
   rw[List.size_toArray,hb.length]; exact LSm.range_all bs
  rw[e];exact⟨.bl _,H,I.kept (LSm.kept_iter hk),rfl,q⟩
theorem zg8 (hc:X.calm=true):zaz X (.builtin "any") (fun xs H Q=>∃(l:Addr) (bs:List Bool),xs=[.ref l]/\SqL X.K H l (bs.map V.bl)/\Q (.bl (bs.any id)) H):=by
 intro pins s σ H xs us Q I r h;obtain⟨l,bs,rfl,hq,q⟩:=h;obtain⟨u,rfl,ru⟩:=vals1 r;cases ru;obtain⟨its,r1,p1,_⟩:=I.list hq;have hh:=I.ok.hd hc;have hl:=p1.isList;have hb:=bools_of r1;have hlt:l<s.heap.objs.size:=by obtain⟨_,e,_⟩:=hl; exact Heap.lt_size e
 refine call_any_walk (wpAny_pyIter_list hl ?_);refine⟨s.heap.objs.size,[s.heap.objs.size,l],[s.heap.objs.size],its.toArray.size,_,_,fun i=>(bs[i]?).getD false,rfl,Walks.list (A:=X.A.in1) hh _ l (Nat.ne_of_lt hlt) its.toArray,
  ⟨⟨_,Heap.get?_push_size _ rfl,rfl,rfl⟩,hl.push _⟩,fun i v s' Q' E' hP hQ=>?_,fun h' tk hk=>?_⟩
 ·obtain⟨b,e,rfl⟩:=hb.get i v (by simpa using hP)
  simp only[e,Option.getD_some] at hQ;exact wpAny_truthy_bool hQ
 ·have e:((List.range its.toArray.size).any fun i=>(bs[i]?).getD false)=bs.any id:=by
   rw[List.size_toArray,hb.length]; exact LSm.range_any bs
  rw[e];exact⟨.bl _,H,I.kept (LSm.kept_iter hk),rfl,q⟩
end
section
variable {K:PySem.W.Frag}{a:Addr}{xs:List V}{g:TG}{tc:TT}{te:TE}{σ:St}{H1:Hp}{Q:VK}{D:Addr}
def CWd (n:Nat) (Pv:Nat->St->List V->Hp->Prop) (i m:Nat) (σ:St) (H:Hp):Prop:=m=n - i/\i<=n/\∃ys,ys.length<=i/\Pv i σ ys H
def CPut (n:Nat) (Pv:Nat->St->List V->Hp->Prop) (D:Addr) (i:Nat) (σ3:St):VK:=fun y H6=>∃ys m',H6 D=some (.lst ys)/\ys.length<sizeLine/\m'<n - i/\CWd n Pv (i+1) m' σ3 (upd H6 D (.lst (ys++[y])))
def CSkip (n:Nat) (Pv:Nat->St->List V->Hp->Prop) (i:Nat) (σ3:St) (H5:Hp):Prop:=∃m',m'<n - i/\CWd n Pv (i+1) m' σ3 H5
theorem cput {n:Nat}{Pv:Nat->St->List V->Hp->Prop}{i:Nat}{σ3:St}{ys:List V}{y:V}{H6:Hp} (hn:n<=sizeLine) (hi:i<n) (hl:ys.length<=i) (e:H6 D=some (.lst ys)) (p:Pv (i+1) σ3 (ys++[y]) (upd H6 D (.lst (ys++[y])))):CPut n Pv D i σ3 y H6:=
 ⟨ys,n - (i+1),e,by omega,by omega,rfl,hi,ys++[y],by simp; omega,p⟩
theorem cskip {n:Nat}{Pv:Nat->St->List V->Hp->Prop}{i:Nat}{σ3:St}{ys:List V}{H5:Hp} (hi:i<n) (hl:ys.length<=i) (p:Pv (i+1) σ3 ys H5):CSkip n Pv i σ3 H5:=
 ⟨n - (i+1),by omega,rfl,hi,ys,by omega,p⟩
theorem zbT {J:It} (n:Nat) (Pv:Nat->St->List V->Hp->Prop) (h0:Pv 0 σ [] (upd H1 D (.lst [])))
  (hstop:∀σ ys H,Pv n σ ys H->J.stop n H) (hgo:∀i σ ys H,i<n->Pv i σ ys H->J.go i H)
  (hs:∀i σ ys H x H',i<n->ys.length<=i->Pv i σ ys H->J.yld i H x H'->g x σ H' fun σ3 H4=>tc σ3 H4 fun b H5=>if b=true then te σ3 H5 (CPut n Pv D i σ3) else CSkip n Pv i σ3 H5)
  (hd:∀σ ys H,Pv n σ ys H->Q (.ref D) H):zap J g tc te σ H1 D Q:=by
 refine⟨CWd n Pv,⟨n,by simp,Nat.zero_le _,[],Nat.le_refl _,h0⟩,?_⟩;rintro i m σ2 H2 ⟨rfl,hi,ys,hl,p⟩
 by_cases hlt:i<n
 ·exact .inr ⟨hgo i σ2 ys H2 hlt p,fun x H3 y=>hs i σ2 ys H2 x H3 hlt hl p y⟩
 ·have e:i=n:=by omega
  subst e;exact .inl ⟨hstop σ2 ys H2 p,hd σ2 ys H2 p⟩
theorem zaf (Pv:Nat->St->List V->Hp->Prop) (h0:Pv 0 σ [] (upd H1 D (.lst []))) (hl:∀i σ ys H,Pv i σ ys H->SqL K H a xs)
  (hs:∀i σ ys H x,xs[i]?=some x->i<xs.length->ys.length<=i->Pv i σ ys H->g x σ H fun σ3 H4=>tc σ3 H4 fun b H5=>if b=true then te σ3 H5 (CPut xs.length Pv D i σ3) else CSkip xs.length Pv i σ3 H5)
  (hd:∀σ ys H,Pv xs.length σ ys H->Q (.ref D) H):zap (Itl K a) g tc te σ H1 D Q:=by
 refine zbT xs.length Pv h0 (fun σ ys H p=>⟨xs,hl _ _ _ _ p,Nat.le_refl _⟩) (fun i σ ys H hi p=>⟨xs,xs[i],hl _ _ _ _ p,by simp[hi]⟩) (fun i σ ys H x H' hi hy p y=>?_) hd;obtain⟨e,y⟩:=y;subst e;exact hs i σ ys _ x (y xs (hl _ _ _ _ p)) hi hy p
theorem zeR (Pv:Nat->St->List V->Hp->Prop) (h0:Pv 0 σ [] (upd H1 D (.lst []))) (hl:∀i σ ys H,Pv i σ ys H->SqT K H a xs)
  (hs:∀i σ ys H x,xs[i]?=some x->i<xs.length->ys.length<=i->Pv i σ ys H->g x σ H fun σ3 H4=>tc σ3 H4 fun b H5=>if b=true then te σ3 H5 (CPut xs.length Pv D i σ3) else CSkip xs.length Pv i σ3 H5)
  (hd:∀σ ys H,Pv xs.length σ ys H->Q (.ref D) H):zap (Itt K a) g tc te σ H1 D Q:=by
 refine zbT xs.length Pv h0 (fun σ ys H p=>⟨xs,hl _ _ _ _ p,Nat.le_refl _⟩) (fun i σ ys H hi p=>⟨xs,xs[i],hl _ _ _ _ p,by simp[hi]⟩) (fun i σ ys H x H' hi hy p y=>?_) hd;obtain⟨e,y⟩:=y;subst e;exact hs i σ ys _ x (y xs (hl _ _ _ _ p)) hi hy p
theorem zck {lo:Int}{n:Nat} (Pv:Nat->St->List V->Hp->Prop) (h0:Pv 0 σ [] (upd H1 D (.lst [])))
  (hs:∀i σ ys H,i<n->ys.length<=i->Pv i σ ys H->g (.int (lo+i)) σ H fun σ3 H4=>tc σ3 H4 fun b H5=>if b=true then te σ3 H5 (CPut n Pv D i σ3) else CSkip n Pv i σ3 H5)
  (hd:∀σ ys H,Pv n σ ys H->Q (.ref D) H):zap (Itr lo n) g tc te σ H1 D Q:=by
 refine zbT n Pv h0 (fun σ ys H p=>Nat.le_refl _) (fun i σ ys H hi p=>hi) (fun i σ ys H x H' hi hy p y=>?_) hd;obtain⟨e,y⟩:=y;subst e y;exact hs i σ ys _ hi hy p
theorem zhr {t1 t2:Addr}{ys:List V} (Pv:Nat->St->List V->Hp->Prop) (h0:Pv 0 σ [] (upd H1 D (.lst []))) (hl:∀i σ zs H,Pv i σ zs H->SqT K H t1 xs/\SqT K H t2 ys)
  (hs:∀i σ zs H p x y,xs[i]?=some x->ys[i]?=some y->i<min xs.length ys.length->zs.length<=i->Pv i σ zs H->H p=none->g (.ref p) σ (upd H p (.tup [x,y])) fun σ3 H4=>tc σ3 H4 fun b H5=>if b=true then te σ3 H5 (CPut (min xs.length ys.length) Pv D i σ3) else CSkip (min xs.length ys.length) Pv i σ3 H5)
  (hd:∀σ zs H,Pv (min xs.length ys.length) σ zs H->Q (.ref D) H):zap (Itz K t1 t2) g tc te σ H1 D Q:=by
 refine zbT (min xs.length ys.length) Pv h0 (fun σ zs H p=>⟨xs,ys,(hl _ _ _ _ p).1,(hl _ _ _ _ p).2,rfl⟩) (fun i σ zs H hi p=>⟨xs,ys,(hl _ _ _ _ p).1,(hl _ _ _ _ p).2,hi⟩) (fun i σ zs H v H' hi hy p y=>?_) hd;obtain⟨pp,x,y',rfl,hp,rfl,y1,y2⟩:=y;exact hs i σ zs H pp x y' (y1 xs (hl _ _ _ _ p).1) (y2 ys (hl _ _ _ _ p).2) hi hy p hp
end
end L2
end
section
namespace Dk
open PySem PySem.Spec PyProof.Rows
def IsD (h:Heap) (d:Addr) (es:Array DictEntry) (ep:Nat):Prop:=∃o,h.get? d=some o/\o.ExactDict/\o.data=.dict es ep
theorem IsD.at {h h':Heap}{d:Addr}{es:Array DictEntry}{ep:Nat} (x:IsD h d es ep) (k:∀o,h.get? d=some o->h'.get? d=some o):IsD h' d es ep:=let ⟨o,ho,r⟩:=x; ⟨o,k o ho,r⟩
theorem IsD.lt {h:Heap}{d:Addr}{es:Array DictEntry}{ep:Nat} (x:IsD h d es ep):d<h.objs.size:=let ⟨_,ho,_⟩:=x; Heap.lt_size ho
section
variable {prog:Program}{w:World}{A:Around}{E:Value->Shared->Prop}{s:Shared}{it d:Addr}{i ep:Nat}{es:Array DictEntry}
theorem IsD.typeIs (x:IsD s.heap d es ep):s.TypeIs (.ref d) "dict":=let ⟨o,ho,r⟩:=x; ⟨o,ho,r.1.1⟩
theorem iter {Q:Value->Shared->Prop} (hd:(d == sysModules)=false) (hm:IsD s.heap d es ep)
  (hQ:Q (.ref s.heap.objs.size) { s with heap:=s.heap.push { cls:=.type "dict_keyiterator",data:=.fields #[.ref d,.int 0 0,.int es.size 0,.int ep 0] } }):wpAny (model prog w) A (pyIter (.ref d)) Q E s:=by
 have hT:=hm.typeIs;obtain⟨o,ho,hc,hdat⟩:=id hm;refine wpAny_pyIter_slot hT PySem.F.slot_dict_iter (wpAny_call_entry PySem.F.slot_dict_iter hT PySem.F.entry_dict_iter ?_ (PySem.F.args_dict_iter_1 _));unfold Builtin.«dict.__iter__»;refine wpAny_bind ?_;unfold Builtin.Dict.dictSlotNone;refine wpAny_bind (wpAny_notOrdered_dict hT ?_);show wpAny _ _ (pure (Value.ref d)) _ _ s;refine wpAny_pure ?_;show wpAny _ _ (Builtin.Dict.showsAll d >>= _) _ _ s;unfold Builtin.Dict.showsAll;rw[if_neg (by rw[hd]; exact Bool.false_ne_true)];refine wpAny_bind (wpAny_pure ?_);refine wpAny_bind (wpAny_dictEntries ho hdat ?_);refine wpAny_bind (wpAny_dictEpoch ho hdat ?_);refine wpAny_bind (wpAny_newObj_type (wpAny_pure ⟨_,rfl,"dict_keyiterator",_,⟨_,Heap.get?_push_size _ rfl,rfl⟩,PySem.F.slot_dict_keyiterator_next.lookup,?_⟩))
 simpa[rawInt] using hQ
theorem item {Q:Option Value->Shared->Prop} (hit:s.heap.IsKeyIter it d i es.size ep) (hm:IsD s.heap d es ep) (hx:i<es.size)
  (hQ:∀h',h'.IsKeyIter it d (i+1) es.size ep->Heap.SameBut it s.heap h'->Q (some es[i].key) { s with heap:=h' }):wpAny (model prog w) A (pyNext (.ref it)) Q E s:=by
 obtain⟨o,ho,hc,hd⟩:=id hit;obtain⟨od,hod,hcd,hdd⟩:=id hm;unfold pyNext;refine wpAny_bind (wpAny_attempt (wpAny_callSpecial?_slot (name:=Str.ofString "__next__") hit.typeIs PySem.F.slot_dict_keyiterator_next
  (wpAny_call_entry PySem.F.slot_dict_keyiterator_next hit.typeIs PySem.F.entry_dict_keyiterator_next ?_ (PySem.F.args_dict_keyiterator_next_1 _))))
 refine wpAny_bind (wpAny_pure ?_);refine wpAny_bind ?_;refine wpAny_bind ?_
 first | refine wpAny_bind (wpAny_typeNameOfWhole_keyiter hit.typeIs (wpAny_pure ?_)) | refine wpAny_bind (wpAny_typeNameOf_keyiter hit.typeIs (wpAny_pure ?_))
 refine wpAny_bind (wpAny_fieldsOf ho hd ?_);have hown:Builtin.Dict_items.ownsTuple "dict_keyiterator"=false:=by decide
 simp only[hown,Bool.false_eq_true,if_false];show wpAny _ _ (if (Value.ref d == Value.none)=true then _ else _) _ _ s;rw[if_neg (show ¬ ((Value.ref d == Value.none)=true) from Bool.false_ne_true)];refine wpAny_bind (wpAny_pure ?_);refine wpAny_bind (wpAny_dictEntries hod hdd ?_);rw[if_neg (by simp)];refine wpAny_bind (wpAny_pure ?_);refine wpAny_bind (wpAny_dictEpoch hod hdd ?_);rw[if_neg (by simp)];refine wpAny_pure ?_;simp only[show ¬ ((i:Int)<0) from by omega,if_false,Int.toNat_natCast,Array.getElem?_eq_getElem hx];refine wpAny_bind ?_
 first | refine wpAny_bind (wpAny_typeNameOfWhole_keyiter hit.typeIs (wpAny_pure ?_)) | refine wpAny_bind (wpAny_typeNameOf_keyiter hit.typeIs (wpAny_pure ?_))
 refine wpAny_bind (wpAny_isOneOf_keyiter hit.typeIs ?_);show wpAny _ _ (setField (.ref it) 1 (rawInt ((i:Int)+1)) >>= _) _ _ s;refine wpAny_bind (wpAny_setField ho hd (by simp) ?_);have hit':(s.heap.update it (Obj.mapFields (·.setIfInBounds 1 (rawInt ((i:Int)+1))))).IsKeyIter it d (i+1) es.size ep:=
  ⟨_,Heap.get?_update_self _ ho (Obj.isFreed_of_fields (Obj.data_mapFields hd _)),(Obj.cls_mapFields ..).trans hc,by rw[Obj.data_mapFields hd]; simp[rawInt]⟩
 refine wpAny_bind (wpAny_holding ?_);refine wpAny_bind (wpAny_isOneOf_keyiter (s:={ s with heap:=s.heap.update it (Obj.mapFields (·.setIfInBounds 1 (rawInt ((i:Int)+1)))) }) hit'.typeIs ?_);show wpAny _ _ (pure es[i].key) _ _ _;exact wpAny_pure (wpAny_pure ⟨_,rfl,wpAny_pure (hQ _ hit' (Heap.SameBut.update ..))⟩)
theorem done {Q:Option Value->Shared->Prop} (hh:A.handled=none) (hit:s.heap.IsKeyIter it d es.size es.size ep) (hm:IsD s.heap d es ep)
  (hQ:∀h',Heap.ExtBut it s.heap h'->Q none { s with heap:=h' }):wpAny (model prog w) A (pyNext (.ref it)) Q E s:=by
 obtain⟨o,ho,hc,hd⟩:=id hit;obtain⟨od,hod,hcd,hdd⟩:=id hm;unfold pyNext;refine wpAny_bind (wpAny_attempt (wpAny_callSpecial?_slot (name:=Str.ofString "__next__") hit.typeIs PySem.F.slot_dict_keyiterator_next
  (wpAny_call_entry PySem.F.slot_dict_keyiterator_next hit.typeIs PySem.F.entry_dict_keyiterator_next ?_ (PySem.F.args_dict_keyiterator_next_1 _))))
 refine wpAny_bind (wpAny_pure ?_);refine wpAny_bind ?_;refine wpAny_bind ?_
 first | refine wpAny_bind (wpAny_typeNameOfWhole_keyiter hit.typeIs (wpAny_pure ?_)) | refine wpAny_bind (wpAny_typeNameOf_keyiter hit.typeIs (wpAny_pure ?_))
 refine wpAny_bind (wpAny_fieldsOf ho hd ?_);have hown:Builtin.Dict_items.ownsTuple "dict_keyiterator"=false:=by decide
 simp only[hown,Bool.false_eq_true,if_false];show wpAny _ _ (if (Value.ref d == Value.none)=true then _ else _) _ _ s;rw[if_neg (show ¬ ((Value.ref d == Value.none)=true) from Bool.false_ne_true)];refine wpAny_bind (wpAny_pure ?_);refine wpAny_bind (wpAny_dictEntries hod hdd ?_);rw[if_neg (by simp)];refine wpAny_bind (wpAny_pure ?_);refine wpAny_bind (wpAny_dictEpoch hod hdd ?_);rw[if_neg (by simp)];refine wpAny_pure ?_;simp only[show ¬ ((es.size:Int)<0) from by omega,if_false,Int.toNat_natCast,Array.getElem?_eq_none (Nat.le_refl es.size)];refine wpAny_bind ?_
 first | refine wpAny_bind (wpAny_typeNameOfWhole_keyiter hit.typeIs (wpAny_pure ?_)) | refine wpAny_bind (wpAny_typeNameOf_keyiter hit.typeIs (wpAny_pure ?_))
 show wpAny _ _ (setField (.ref it) 0 .none >>= _) _ _ s;refine wpAny_bind (wpAny_setField ho hd (by simp) ?_);show wpAny _ _ (newExc (.type "StopIteration") [] >>= _) _ _ _;refine wpAny_bind ?_;simp only[newExc,newTuple];refine wpAny_bind (wpAny_newObj_type ?_ (by size_fits));refine wpAny_bind (m:=firstArgMember _ _) (wpAny_of_eq (a:=Value.none) (by first | rfl | (simp only[firstArgMember]; rfl)) ?_);refine wpAny_newObj_type ?_ (by size_fits);simp only[raiseNew];refine wpAny_bind (wpAny_handled ?_);rw[show A.in1.handled=none from hh];refine wpAny_bind (wpAny_pure (wpAny_throw ?_));refine wpAny_bind (wpAny_isInstance (T:="StopIteration") (b:=true) ⟨_,Heap.get?_push_size _ rfl,rfl⟩ isSubtype_stop ?_);exact wpAny_pure (hQ _ (((Heap.SameBut.update ..).extBut.push _).push _))
theorem walks (hh:A.handled=none) (I d:Addr) (hne:d≠I) (es:Array DictEntry) (ep:Nat) :
  Walks prog w A I [I,d] [I] es.size (fun i v=>∃e,es[i]?=some e/\v=e.key) (fun i h=>h.IsKeyIter I d i es.size ep/\IsD h d es ep) where
 sub:=fun b hb=>by simp at hb ⊢; exact .inl hb
 frame:=fun i h h' st k=>⟨let ⟨o,ho,r⟩:=st.1; ⟨o,k I (by simp) o ho,r⟩,st.2.at fun o e=>k d (by simp) o e⟩
 item:=fun i s Q E hi st hQ=>item st.1 st.2 hi fun h' st' sb=>hQ _ h' s.toks ⟨es[i],by simp[hi],rfl⟩ ⟨st',st.2.at fun o e=>(sb.2 d hne).trans e⟩ fun b o hb e=>(sb.2 b (fun z=>hb (by simp[z]))).trans e
 done:=fun s Q E st hQ=>done hh st.1 st.2 fun h' eb=>hQ h' s.toks fun b o hb e=>eb b o (fun z=>hb (by simp[z])) e
 self:=fun i s Q E st hQ=>wpAny_pyIter_keyiter st.1 hQ
theorem src (lo:(d == sysModules)=false):PySem.W.KdlSrc prog w "dict" d d es.size (fun i v=>∃e,es[i]?=some e/\v=e.key) (fun h=>IsD h d es ep) where
 type:=fun _ hm=>hm.typeIs
 there:=fun _ hm=>⟨hm.lt,hm.lt⟩
 keep:=fun _ _ hm hk=>hm.at fun o e=>hk d (.inl rfl) o e
 notList:=by decide
 notTuple:=by decide
 hint:=fun _ _ _ _ hm hq=>PySem.W.kdl_hint_dict hm.typeIs hq
 iter:=fun _ s hh hm=>⟨_,_,(fun _ _ hq=>iter lo hm hq),walks hh _ d (Nat.ne_of_lt hm.lt) es ep,⟨⟨_,Heap.get?_push_size _ rfl,rfl,rfl⟩,hm.at fun o e=>Heap.get?_push_of_some _ e⟩⟩
end
end Dk
namespace L2
open PySem PySem.Spec PyProof.Rows
section
variable {X:Cx}
theorem zkc {P:Program}{w:World}{k:Key}{u:Value} (h:(zA P w).is k u=true):RelV (kV k) u:=by
 rcases keyIs_shape h with ⟨i,t,rfl,rfl⟩ | ⟨x,t,rfl,rfl⟩
 ·exact⟨t,rfl⟩
 ·exact⟨t,rfl⟩
theorem zbs (hc:X.calm=true):zaz X (.type "list") (fun xs H Q=>∃a kvs,xs=[.ref a]/\H a=some (.dT kvs)/\
  ∀(bs:List Addr),Paired (fun (p:List Key×V) b=>H b=some (.tup (p.1.map kV))) kvs bs->∀l,H l=none->Q (.ref l) (upd H l (.lst (bs.map V.ref)))):=by
 intro pins s σ H xs us Q I r h;obtain⟨a,kvs,rfl,hq,q⟩:=h;obtain⟨u,rfl,ru⟩:=vals1 r;cases ru;obtain⟨z,y,ys,rel,o,es,ep,h1,h2,h3,h4,h5⟩:=(show zI X.prog X.w H s.heap a (.dT kvs) from I.hok a _ hq);have hl:es.size=kvs.length:=by
  have:=congrArg List.length h4;rw[List.length_map,<- Paired.length rel] at this
  simpa using this
 refine PySem.W.kdl_call (Dk.src (ep:=ep) (es:=es) y) (I.ok.hd hc) ⟨o,h1,h2,h3⟩ (by rw[hl]; exact z) fun h' tk acc c' kk e it=>?_;obtain⟨n1,n2⟩:=it;have pb:Paired (fun (p:List Key×V) b=>H b=some (.tup (p.1.map kV))) kvs (ys.map (·.2.1)):=by
  have:∀{l:List (List Key×V)} {m:List (List Key×Addr×Value)},KT H l m->Paired (fun (p:List Key×V) b=>H b=some (.tup (p.1.map kV))) l (m.map (·.2.1)):=by
   intro l m q
   induction q with
   | nil=>exact .nil
   | cons hq t ih=>exact .cons hq.2.1 ih
  exact this rel
 have ea:acc.toList=(ys.map (·.2.1)).map Value.ref:=by
  apply List.ext_getElem?;intro i;have hy:ys.length=acc.size:=by rw[n1,hl]; exact (Paired.length rel).symm
  by_cases hi:i<acc.size
  ·obtain⟨e',g1,g2⟩:=n2 i acc[i] (by simp[hi])
   have g3:es.toList[i]?=some e':=by simpa using g1
   rw[h4,List.getElem?_map] at g3;have g4:ys[i]?=some ys[i]:=by simp[hy,hi]
   rw[g4] at g3;simp only[Option.map_some,Option.some.injEq] at g3;simp only[List.getElem?_map,g4,Option.map_some,Array.getElem?_toList,Array.getElem?_eq_getElem hi];rw[g2,<- g3]
   rfl
  ·have g1:acc.toList.length<=i:=by simp; omega
   have g2:((ys.map (·.2.1)).map Value.ref).length<=i:=by simp[hy]; omega
   rw[List.getElem?_eq_none g1,List.getElem?_eq_none g2]
 have vv:Vals ((ys.map (·.2.1)).map V.ref) acc.toList:=by
  rw[ea];generalize ys.map (·.2.1)=bs
  induction bs with
  | nil=>exact .nil
  | cons b bs ih=>exact .cons rfl ih
 refine⟨.ref s.heap.objs.size,_,I.laid kk (Nat.le_refl _) (show zI X.prog X.w _ h' _ (.lst ((ys.map (·.2.1)).map V.ref)) from ⟨?_,acc.toList,c',vv,by simpa using e⟩),rfl,q _ pb _ (I.hok.fresh (Nat.le_refl _))⟩;simp only[List.length_map];rw[<- Paired.length rel];exact z
theorem zc7 (hc:X.calm=true):zaz X (.type "list") (fun xs H Q=>∃a kvs,xs=[.ref a]/\H a=some (.dK kvs)/\∀l,H l=none->Q (.ref l) (upd H l (.lst (kvs.map fun kv=>kV kv.1)))):=by
 intro pins s σ H xs us Q I r h;obtain⟨a,kvs,rfl,hq,q⟩:=h;obtain⟨u,rfl,ru⟩:=vals1 r;cases ru;obtain⟨z,y,vs,rel,dd⟩:=zjp I.hok hq;obtain⟨ep,dd⟩:=dd.dictAt;have hl:=rel.length;refine PySem.W.kdl_call (PySem.W.kdl_dict (knd:=zA X.prog X.w) (kvs:=vs) (ep:=ep) y) (I.ok.hd hc) dd (by rw[<- hl]; exact z) fun h' tk acc c' kk e it=>?_;obtain⟨n1,n2⟩:=it;have vv:Vals (kvs.map fun kv=>kV kv.1) acc.toList:=by
  have key:∀{l:List (Key×V)} {m:List (Key×Value)} {as:List Value},KV l m->as.length=m.length->(∀(i:Nat) v,as[i]?=some v->∃k x,m[i]?=some (k,x)/\(zA X.prog X.w).is k v=true)->Vals (l.map fun kv=>kV kv.1) as:=by
   intro l m as q
   induction q generalizing as with
   | nil=>intro h1 _; cases as with
    | nil=>exact .nil
    | cons _ _=>simp at h1
   | @cons p q' ps qs hq t ih=>
    intro h1 h2;cases as with
    | nil=>simp at h1
    | cons v as=>
     obtain⟨k,x,g1,g2⟩:=h2 0 v rfl;simp only[List.getElem?_cons_zero,Option.some.injEq] at g1;refine .cons ?_ (ih (by simpa using h1) fun i v e=>by simpa using h2 (i+1) v (by simpa using e));have:p.1=k:=by rw[hq.1,g1]
     show RelV (kV p.1) v;rw[this];exact zkc g2
  exact key rel (by simpa using n1) fun i v e=>n2 i v (by simpa using e)
 refine⟨.ref s.heap.objs.size,_,I.laid kk (Nat.le_refl _) (show zI X.prog X.w _ h' _ (.lst (kvs.map fun kv=>kV kv.1)) from ⟨?_,acc.toList,c',vv,by simpa using e⟩),rfl,q _ (I.hok.fresh (Nat.le_refl _))⟩
 simpa using z
end
end L2
end
section
namespace L2
open PySem PySem.Spec PyProof.Rows
def Tp (H:Hp) (a:Addr) (ps:List Int):Prop:=H a=some (.tup (ps.map V.int))
abbrev Tps (H:Hp) (as:List Addr) (pss:List (List Int)):Prop:=Paired (fun a ps=>Tp H a ps) as pss
theorem Same.tp {H H':Hp}{a:Addr}{ps:List Int} (e:Same H H') (h:Tp H a ps):Tp H' a ps:=e _ _ h
theorem Same.tps {H H':Hp}{as:List Addr}{pss:List (List Int)} (e:Same H H') (h:Tps H as pss):Tps H' as pss:=Paired.mapP h fun _ _ q=>e.tp q
theorem Same.new {H:Hp}{a:Addr}{o:HO} (h:H a=none):Same H (upd H a o):=fun b u e=>by rw[upd_ne (zj e h)]; exact e
theorem Same.then {H H1:Hp}{a:Addr}{o:HO} (e:Same H H1) (h:H a=none):Same H (upd H1 a o):=fun b u q=>by rw[upd_ne (zj q h)]; exact e b u q
theorem Tps.length {H:Hp}{as:List Addr}{pss:List (List Int)} (h:Tps H as pss):as.length=pss.length:=Paired.length h
theorem Tps.get {H:Hp}:∀{as:List Addr}{pss:List (List Int)}{i:Nat}{a:Addr},Tps H as pss->as[i]?=some a->∃ps,pss[i]?=some ps/\Tp H a ps
 | _,_,_,_,.nil,e=>by simp at e
 | _,_,0,_,.cons r _,e=>by simp at e; subst e; exact⟨_,rfl,r⟩
 | _,_,i+1,a,.cons _ t,e=>by
  obtain⟨u,h1,h2⟩:=Tps.get (i:=i) (a:=a) t (by simpa using e);exact⟨u,by simpa using h1,h2⟩
theorem Tps.snoc {H:Hp}{as:List Addr}{pss:List (List Int)}{a:Addr}{ps:List Int} (h:Tps H as pss) (q:Tp H a ps):Tps H (as++[a]) (pss++[ps]):=by
 induction h with
 | nil=>exact .cons q .nil
 | cons r t ih=>exact .cons r ih
theorem Tps.append {H:Hp}{as bs:List Addr}{pss qss:List (List Int)} (h:Tps H as pss) (q:Tps H bs qss):Tps H (as++bs) (pss++qss):=by
 induction h with
 | nil=>exact q
 | cons r t ih=>exact .cons r ih
theorem Tps.take {H:Hp}:∀{as:List Addr}{pss:List (List Int)} (n:Nat),Tps H as pss->Tps H (as.take n) (pss.take n)
 | _,_,0,_=>.nil
 | _,_,_+1,.nil=>.nil
 | _,_,n+1,.cons r t=>.cons r (Tps.take n t)
theorem Tps.drop {H:Hp}:∀{as:List Addr}{pss:List (List Int)} (n:Nat),Tps H as pss->Tps H (as.drop n) (pss.drop n)
 | _,_,0,r=>r
 | _,_,_+1,.nil=>.nil
 | _,_,n+1,.cons _ t=>Tps.drop n t
theorem vals_refs:∀{as:List Addr}{us:List Value},Vals (as.map V.ref) us->us=as.map Value.ref
 | [],_,.nil=>rfl
 | a::as,_,.cons r t=>by cases r; rw[vals_refs t]; rfl
theorem zdG {α:Type} (f:α->Addr):∀l:List α,Vals (l.map fun q=>V.ref (f q)) (l.map fun q=>Value.ref (f q))
 | []=>.nil
 | a::l=>.cons rfl (zdG f l)
section
variable {X:Cx}
theorem zel {prog:Program}{w:World}{h:Heap}{c:Addr}{cs:List Value}{qs:List Int} (hc:IsTup h c cs.toArray) (hi:IntsAre cs qs):IsTupleKey (zA prog w) h (qs.map Sum.inl) c:=by
 obtain⟨o,e,hcl,k,d⟩:=hc;refine⟨o,cs.toArray,k,e,hcl,d,?_⟩;have:∀{cs:List Value} {qs:List Int},IntsAre cs qs->ItemsAre (zA prog w) (qs.map Sum.inl) cs:=by
  intro cs qs hi
  induction hi with
  | nil=>exact .nil
  | cons n t h ih=>exact .cons (zaU prog w n t) ih
 simpa using this hi
theorem zd3 {ps qs:List Int}:(ps.map Sum.inl:List Key)=qs.map Sum.inl ↔ ps=qs:=
 ⟨fun z=>(List.map_inj_right (f:=(Sum.inl:Int->Key)) (fun x y h=>Sum.inl.inj h)).mp z,fun z=>by rw[z]⟩
theorem zi1 {pins:List (Addr×Obj)}{σ:St}{H:Hp}{s:Shared}{A:Around}{a b:Addr}{ps qs:List Int} (I:Inv X pins σ H s) (ha:Tp H a ps) (hb:Tp H b qs) (hu:A.units<cLine) :
  SeqAt.EqAt A s (.ref a) (.ref b) (decide (ps=qs)):=by
 intro prog w E Q h;obtain⟨its,r1,p1,_⟩:=I.tuple (SqT.of ha);obtain⟨its2,r2,p2,_⟩:=I.tuple (SqT.of hb);refine wpAny_eqBool_tuple (knd:=zA prog w) hu (zel p1 (intsAre_of r1)) (zel p2 (intsAre_of r2)) ?_;rw[show decide ((ps.map Sum.inl:List Key)=qs.map Sum.inl)=decide (ps=qs) from by simp only[zd3]];exact h
def zjd:R2:=fun x y H Q=>∃a b xs ys,x=.ref a/\y=.ref b/\H a=some (.tup xs)/\H b=some (.tup ys)/\xs.length+ys.length<=sizeLine/\∀p H',Same H H'->H' p=some (.tup (xs++ys))->Q (.ref p) H'
theorem zcG:OpR X (binaryOp .Add) zjd:=by
 intro pins s σ H x y v u Q I rx ry h;obtain⟨a,b,xs,ys,rfl,rfl,ha,hb,hz,q⟩:=h;cases rx;cases ry;obtain⟨its,r1,p1,_⟩:=I.tuple (SqT.of ha);obtain⟨its2,r2,p2,_⟩:=I.tuple (SqT.of hb)
 by_cases hx:xs=[]
 ·subst hx
  have e1:=r1.nil_iff.mpr rfl;subst e1;obtain⟨⟨cls,dd,data,sl⟩,ho,hc,n,hd⟩:=id p1;obtain⟨⟨cls2,dd2,data2,sl2⟩,ho2,hc2,n2,hd2⟩:=id p2;simp only at hc hd hc2 hd2;subst hc hd hc2 hd2;exact concat_meets ⟨_,ho,rfl⟩ ⟨_,ho2,rfl⟩ noFill_tuple_add seq_tuple_add PySem.F.slot_tuple_add PySem.F.entry_tuple_add (PySem.F.args_tuple_add_2 _ _)
   (tuple_addW0 a b (List.toArray []) its2.toArray n n2 dd dd2 sl sl2 (by simp)) ⟨ho,ho2,.ref b,H,I,rfl,q b H (Same.refl H) (by simpa using hb)⟩
 ·refine HT.ziu p1 p2 (fun z=>hx (r1.nil_iff.mp z)) (fun z=>⟨.ref a,H,I,rfl,q a H (Same.refl H) ?_⟩) (fun z=>?_) (by rw[<- r1.length,<- r2.length]; exact hz)
  ·rw[r2.nil_iff.mp z,List.append_nil]; exact ha
  ·have hf:=I.hok.fresh (Nat.le_refl s.heap.objs.size)
   refine⟨.ref s.heap.objs.size,_,I.laid (t':=s.toks) (o:=.tup (xs++ys)) (fun b ob q=>Heap.get?_push_of_some _ q) (Nat.le_refl _) ?_,rfl,q _ _ (Same.new hf) upd_same⟩;exact⟨by rw[List.length_append]; exact hz,_,r1.append r2,IsTup.new _ _⟩
def rInT (neg:Bool) (K:PySem.W.Frag):R2:=fun x y H Q=>∃a l ps as pss,x=.ref a/\y=.ref l/\Tp H a ps/\SqL K H l (as.map V.ref)/\Tps H as pss/\Q (.bl (if neg then !decide (ps∈pss) else decide (ps∈pss))) H
def eqH (H:Hp) (ps:List Int) (u:Value):Bool:=match u with
 | .ref b=>(match H b with | some (.tup xs)=>decide (xs=ps.map V.int) | _=>false)
 | _=>false
theorem zhw {ps qs:List Int}:(ps.map V.int:List V)=qs.map V.int ↔ ps=qs:=
 ⟨fun z=>(List.map_inj_right (f:=V.int) (fun x y h=>V.int.inj h)).mp z,fun z=>by rw[z]⟩
theorem zh4 {H:Hp}{b:Addr}{ps qs:List Int} (h:Tp H b qs):eqH H ps (.ref b)=decide (qs=ps):=by
 show (match H b with | some (.tup xs)=>decide (xs=ps.map V.int) | _=>false)=_;rw[show H b=some (.tup (qs.map V.int)) from h];simp only[zhw]
theorem zdN {H:Hp}{ps:List Int}{as:List Addr}{pss:List (List Int)} (h:Tps H as pss):(as.map Value.ref).any (eqH H ps)=decide (ps∈pss):=by
 induction h with
 | nil=>simp
 | @cons a qs as pss r t ih=>
  rw[List.map_cons,List.any_cons,ih,zh4 r]
  by_cases e:qs=ps
  ·subst e; simp
  ·have:¬ ps=qs:=fun z=>e z.symm
   simp[e,this]
theorem zdT {pins:List (Addr×Obj)}{σ:St}{H:Hp}{s:Shared}{A:Around}{a:Addr}{ps:List Int} (I:Inv X pins σ H s) (ha:Tp H a ps) (hu:A.units<cLine) :
  ∀{as:List Addr} {pss:List (List Int)},Tps H as pss->∀u∈as.map Value.ref,SeqAt.EqAt A s u (.ref a) (eqH H ps u):=by
 intro as pss h
 induction h with
 | nil=>intro u hu; simp at hu
 | @cons b qs as pss r t ih=>
  intro u hm;rw[List.map_cons] at hm;rcases List.mem_cons.mp hm with rfl | hm
  ·rw[zh4 r]; exact zi1 I r ha hu
  ·exact ih u hm
theorem zc9 (hu:X.A.in1.units<cLine):OpR X (compareOp .In) (rInT false X.K):=by
 intro pins s σ H x y v u Q I rx ry h;obtain⟨a,l,ps,as,pss,rfl,rfl,ha,hl,hp,q⟩:=h;cases rx;cases ry;obtain⟨its,r,pl,hz⟩:=I.list hl;obtain rfl:=vals_refs r;refine SeqAt.in_listAt (eqH H ps) pl.isList (fun w hw=>zdT I ha hu hp w (by simpa using hw)) ⟨.bl _,H,I,rfl,?_⟩;rw[show (as.map Value.ref).toArray.any (eqH H ps)=(as.map Value.ref).any (eqH H ps) by simp,zdN hp];exact q
theorem za7 (hu:X.A.in1.units<cLine):OpR X (compareOp .NotIn) (rInT true X.K):=by
 intro pins s σ H x y v u Q I rx ry h;obtain⟨a,l,ps,as,pss,rfl,rfl,ha,hl,hp,q⟩:=h;cases rx;cases ry;obtain⟨its,r,pl,hz⟩:=I.list hl;obtain rfl:=vals_refs r;refine SeqAt.notIn_listAt (eqH H ps) pl.isList (fun w hw=>zdT I ha hu hp w (by simpa using hw)) ⟨.bl _,H,I,rfl,?_⟩;rw[show (as.map Value.ref).toArray.any (eqH H ps)=(as.map Value.ref).any (eqH H ps) by simp,zdN hp];exact q
theorem zav {pins:List (Addr×Obj)}{σ:St}{H:Hp}{s:Shared}{a:Addr}{ps:List Int} (I:Inv X pins σ H s) (ha:Tp H a ps):Reads s.heap (.ref a) (.tuple (ps.map PyData.int)) []:=by
 obtain⟨its,r,p,_⟩:=I.tuple (SqT.of ha);obtain⟨o,ho,hc,n,hd⟩:=id p;exact .tuple ho hc hd ((PySem.W.ke_carried (intsAre_of r)).reads s.heap)
theorem zge {pins:List (Addr×Obj)}{σ:St}{H:Hp}{s:Shared} (I:Inv X pins σ H s):∀{as:List Addr}{pss:List (List Int)},Tps H as pss->ReadsAll s.heap (as.map Value.ref) (pss.map fun ps=>PyData.tuple (ps.map PyData.int)) []:=by
 intro as pss h
 induction h with
 | nil=>exact .nil
 | cons r t ih=>exact .cons (as:=[]) (bs:=[]) (zav I r) ih
theorem zaK {pins:List (Addr×Obj)}{σ:St}{H:Hp}{s:Shared}{l:Addr}{as:List Addr}{pss:List (List Int)} (I:Inv X pins σ H s) (hl:SqL X.K H l (as.map V.ref)) (h:Tps H as pss) :
  Reads s.heap (.ref l) (.list (pss.map fun ps=>PyData.tuple (ps.map PyData.int))) [l]:=by
 obtain⟨its,r,p,_⟩:=I.list hl;obtain rfl:=vals_refs r;obtain⟨o,ho,hc,n,hd⟩:=p.isList;exact .list ho hc hd (by simpa using zge I h)
theorem zbM (ps:List Int):PyData.canLay0 (.tuple (ps.map PyData.int))=true:=by simp[PyData.canLay0,PySem.W.ke_canLayAll0]
theorem zeG (ps:List Int):PyData.depth (.tuple (ps.map PyData.int))=1:=by simp[PyData.depth,PySem.W.ke_depthAll]
theorem za8 (ps:List Int):SeqAt.shaped (.tuple (ps.map PyData.int))=true:=by
 simp[SeqAt.shaped,zbM,zeG]
theorem zda:∀pss:List (List Int),PyData.canLayAll0 (pss.map fun ps=>PyData.tuple (ps.map PyData.int))=true
 | []=>rfl
 | ps::r=>by rw[List.map_cons,PyData.canLayAll0,zbM,zda r]; rfl
theorem zeh:∀pss:List (List Int),PyData.depthAll (pss.map fun ps=>PyData.tuple (ps.map PyData.int))<=1
 | []=>Nat.zero_le _
 | ps::r=>by rw[List.map_cons,PyData.depthAll,zeG]; exact Nat.max_le.mpr ⟨Nat.le_refl _,zeh r⟩
theorem zaG (pss:List (List Int)):SeqAt.shaped (.list (pss.map fun ps=>PyData.tuple (ps.map PyData.int)))=true:=by
 have:=zeh pss;have e:PyData.depth (.list (pss.map fun ps=>PyData.tuple (ps.map PyData.int)))<=64:=by rw[PyData.depth]; omega
 unfold SeqAt.shaped;rw[decide_eq_true e,PyData.canLay0,zda]
 rfl
theorem zct:∀pss qss:List (List Int),sameAll (pss.map fun ps=>PyData.tuple (ps.map PyData.int)) (qss.map fun ps=>PyData.tuple (ps.map PyData.int))=decide (pss=qss)
 | [],[]=>by simp[sameAll]
 | [],_::_=>by simp[sameAll]
 | _::_,[]=>by simp[sameAll]
 | a::r,b::t=>by
  simp only[List.map_cons,sameAll,same,PySem.W.ke_sameAll,zct r t]
  by_cases h:a=b <;> by_cases h':r=t <;> simp[h,h']
theorem zen (ps:List Int):(Shape.tuples .int).has (.tuple (ps.map PyData.int))=true:=by simp[Shape.has]
theorem zcr (pss:List (List Int)):(Shape.list (.tuples .int)).has (.list (pss.map fun ps=>PyData.tuple (ps.map PyData.int)))=true:=by simp[Shape.has]
def rEqT (neg:Bool) (K:PySem.W.Frag):R2:=fun x y H Q=>(∃a b ps qs,x=.ref a/\y=.ref b/\Tp H a ps/\Tp H b qs/\Q (.bl (if neg then !decide (ps=qs) else decide (ps=qs))) H) \/
 (∃l m as bs pss qss,x=.ref l/\y=.ref m/\SqL K H l (as.map V.ref)/\Tps H as pss/\SqL K H m (bs.map V.ref)/\Tps H bs qss/\Q (.bl (if neg then !decide (pss=qss) else decide (pss=qss))) H)
theorem zjL (hu:X.A.units+64<cLine):OpR X (compareOp .Eq) (rEqT false X.K):=by
 intro pins s σ H x y v u Q I rx ry h;rcases h with ⟨a,b,ps,qs,rfl,rfl,ha,hb,q⟩ | ⟨l,m,as,bs,pss,qss,rfl,rfl,hl,hp,hm,hq,q⟩
 ·cases rx
  cases ry;refine eq_dataH_same (zav I ha) (zav I hb) (za8 _) (za8 _) hu (SeqAt.noMix_of_shape (.tuples .int) rfl _ _ (zen _) (zen _)) ?_;rw[show same (.tuple (ps.map PyData.int)) (.tuple (qs.map PyData.int))=decide (ps=qs) from by simp only[same]; exact PySem.W.ke_sameAll ps qs];exact⟨.bl _,H,I,rfl,q⟩
 ·cases rx
  cases ry;refine eq_dataH_same (zaK I hl hp) (zaK I hm hq) (zaG _) (zaG _) hu (SeqAt.noMix_of_shape (.list (.tuples .int)) rfl _ _ (zcr _) (zcr _)) ?_;rw[show same (.list (pss.map fun ps=>PyData.tuple (ps.map PyData.int))) (.list (qss.map fun ps=>PyData.tuple (ps.map PyData.int)))=decide (pss=qss) from by simp only[same]; exact zct pss qss];exact⟨.bl _,H,I,rfl,q⟩
theorem zc1 (hu:X.A.units+64<cLine):OpR X (compareOp .NotEq) (rEqT true X.K):=by
 intro pins s σ H x y v u Q I rx ry h;rcases h with ⟨a,b,ps,qs,rfl,rfl,ha,hb,q⟩ | ⟨l,m,as,bs,pss,qss,rfl,rfl,hl,hp,hm,hq,q⟩
 ·cases rx
  cases ry;refine ne_dataH_same (zav I ha) (zav I hb) (za8 _) (za8 _) hu (SeqAt.noMix_of_shape (.tuples .int) rfl _ _ (zen _) (zen _)) ?_;rw[show same (.tuple (ps.map PyData.int)) (.tuple (qs.map PyData.int))=decide (ps=qs) from by simp only[same]; exact PySem.W.ke_sameAll ps qs];exact⟨.bl _,H,I,rfl,q⟩
 ·cases rx
  cases ry;refine ne_dataH_same (zaK I hl hp) (zaK I hm hq) (zaG _) (zaG _) hu (SeqAt.noMix_of_shape (.list (.tuples .int)) rfl _ _ (zcr _) (zcr _)) ?_;rw[show same (.list (pss.map fun ps=>PyData.tuple (ps.map PyData.int))) (.list (qss.map fun ps=>PyData.tuple (ps.map PyData.int)))=decide (pss=qss) from by simp only[same]; exact zct pss qss];exact⟨.bl _,H,I,rfl,q⟩
def zi8:V->List V->Hp->VK->Prop:=fun x vs H Q=>∃l xs i y,x=.ref l/\vs=[.int i,y]/\H l=some (.lst xs)/\0<=i/\i<=xs.length/\xs.length<sizeLine/\Q .non (upd H l (.lst (xs.take i.toNat++y::xs.drop i.toNat)))
theorem zdp:MtM X "list.insert" zi8:=by
 intro pins s σ H x vs v us Q I rx rv h;obtain⟨l,xs,i,y,rfl,rfl,hH,h0,hi,hz,q⟩:=h;cases rx;obtain⟨u,u',rfl,ru,ru'⟩:=rv.two;obtain⟨t,rfl⟩:=ru;obtain⟨z,its,n,r,hl,e⟩:=I.lstM hH;have hzl:sizeLine<2 ^ 62:=by rw[sizeLine_eq]; decide
 have hf:Builtin.List.listFitsIndex i=true:=by
  unfold Builtin.List.listFitsIndex;simp only[Bool.and_eq_true,decide_eq_true_eq];constructor <;> omega
 refine call_meets F.slot_list_insert ⟨_,e,rfl⟩ F.entry_list_insert (F.args_list_insert_3 _ _ _) (PySem.AutoSeq1.list_insert_list_int_val_1 l its.toArray n i t u' (by simp[hf]) (by rw[List.size_toArray]; omega)) ⟨e,?_⟩;refine⟨.non,_,I.lset (its':=its.take i.toNat++u'::its.drop i.toNat) (t':=s.toks) hH e ?_ ((r.take _).append (.cons ru' (r.drop _))) ?_,rfl,q⟩
 ·have hk:(if i<0 then (i+(its.toArray.size:Int)).toNat else min i.toNat its.toArray.size)=i.toNat:=by
   rw[if_neg (by omega),List.size_toArray];omega
  dsimp only;rw[hk];simp;exact List.take_of_length_le (by rw[List.length_drop]; exact Nat.le_refl _)
 ·rw[List.length_append,List.length_cons,List.length_take,List.length_drop]
  omega
theorem zcU:zaz X (.type "int") (fun xs H Q=>∃x n,xs=[.str x]/\PySem.intText? x=some n/\x.length<=640/\Q (.int n) H):=by
 intro pins s σ H xs us Q I r h;obtain⟨x,n,rfl,hn,hl,q⟩:=h;obtain⟨u,rfl,t,rfl⟩:=vals1 r;exact PySem.W.KIN.call_text hn hl ⟨.int n,H,I.tok _,⟨_,rfl⟩,q⟩
end
end L2
end
section
namespace L2
open PySem PySem.Spec PyProof.Rows
section
variable {X:Cx}{pins:List (Addr×Obj)}{σ:St}{H:Hp}{s:Shared}
theorem zdo {A:Around} (h:A.units+64<cLine):A.in1.in1.units<cLine:=by show A.units+1+1<cLine; omega
theorem in1_units {A:Around} (h:A.units+64<cLine):A.in1.units<cLine:=by show A.units+1<cLine; omega
theorem zbz:zaz X (.builtin "sorted") (fun xs H Q=>∃(l:Addr) (ns:List Int),xs=[.ref l]/\SqL X.K H l (ns.map V.int)/\ns.length<64/\∀(D:Addr) (ms:List Int),ms.Perm ns->ms.Pairwise (·<=·)->H D=none->Q (.ref D) (upd H D (.lst (ms.map V.int)))):=by
 intro pins s σ H xs us Q I r h;obtain⟨l,ns,rfl,hq,h64,q⟩:=h;obtain⟨u,rfl,ru⟩:=vals1 r;cases ru;obtain⟨its,r1,p1,hz⟩:=I.list hq;have hi:IntsAre its ns:=intsAre_of r1;have hlen:=r1.length;rw[List.length_map] at hlen hz;refine Srt.zdh (ls:=ns.map fun n=>[n]) (good:=fun _=>True) p1.isList (Srt.zix hi) (fun _ _=>trivial) (by omega) (by omega) fun out ho=>?_;obtain⟨ps,hp,ho,hs⟩:=ho;have all:∀p∈ps,∃n t,p.1=[n]/\p.2=Value.int n t:=fun p hp'=>by
  obtain⟨i,e⟩:=List.mem_iff_getElem?.mp (hp.mem_iff.mp hp');rw[Srt.zipget,List.getElem?_map] at e;cases e1:ns[i]? with
  | none=>rw[e1] at e; simp at e
  | some n=>
   obtain⟨t,e2⟩:=hi.get i n e1;rw[e1,e2] at e;simp only[Option.map_some,Option.bind_some,Option.some.injEq] at e;subst e;exact⟨n,t,rfl,rfl⟩
 have vv:∀ps:List (List Int×Value),(∀p∈ps,∃n t,p.1=[n]/\p.2=Value.int n t)->Vals ((ps.map fun p=>p.1.headD 0).map V.int) (ps.map (·.2)):=by
  intro ps
  induction ps with
  | nil=>intro _; exact .nil
  | cons p ps ih=>
   intro h;obtain⟨n,t,e1,e2⟩:=h p List.mem_cons_self;refine .cons ?_ (ih fun q hq=>h q (List.mem_cons_of_mem _ hq));show RelV (V.int (p.1.headD 0)) p.2;rw[e1,e2];exact⟨t,rfl⟩
 have pm:(ps.map fun p=>p.1.headD 0).Perm ns:=by
  have h1:=hp.map (fun p:List Int×Value=>p.1.headD 0);have e:((ns.map fun n=>[n]).zip its).map (fun p:List Int×Value=>p.1.headD 0)=ns:=by
   rw[show (fun p:List Int×Value=>p.1.headD 0)=(fun l:List Int=>l.headD 0) ∘ Prod.fst from rfl,<- List.map_map,List.map_fst_zip (by rw[List.length_map]; omega),List.map_map];exact List.map_id' ns
  rw[e] at h1;exact h1
 have pw:(ps.map fun p=>p.1.headD 0).Pairwise (·<=·):=by
  rw[List.pairwise_map];refine hs.imp_of_mem fun {p q} h1 h2 h3=>?_;obtain⟨n,t,e1,_⟩:=all p h1;obtain⟨m,t',e2,_⟩:=all q h2;rw[e1,e2,HT.zG] at h3;rw[e1,e2];show n<=m
  by_cases e:m=n
  ·omega
  ·rw[if_neg e] at h3
   have:=of_decide_eq_false h3;omega
 obtain⟨e,he⟩:=sortedAll_at s.heap its out;refine⟨.ref (s.heap.objs.size+1),_,I.laid (t':=s.toks) (fun _ _=>sortedAll_old) (Nat.le_succ _) (show zI X.prog X.w _ _ _ (.lst ((ps.map fun p=>p.1.headD 0).map V.int)) from ⟨?_,out.toList,e,?_,?_⟩),rfl,q _ _ pm pw (I.hok.fresh (Nat.le_succ _))⟩
 ·rw[List.length_map,pm.length_eq]; exact hz
 ·rw[ho]; exact vv ps all
 ·simpa using he
def PrAt (H:Hp) (p:Addr) (l:List Int):Prop:=∃n b ps,l=n::ps/\H p=some (.tup [.int n,.ref b])/\Tp H b ps
theorem zjH {p:Addr}{l:List Int} (I:Inv X pins σ H s) (h:PrAt H p l):Srt.IsPr s.heap (.ref p) l:=by
 obtain⟨n,b,ps,rfl,h1,h2⟩:=h;obtain⟨its,r1,p1,_⟩:=I.tuple (SqT.of (K:=X.K) h1);obtain⟨u,u',rfl,⟨t,rfl⟩,ru'⟩:=vals2 r1;cases ru';obtain⟨its2,r2,p2,_⟩:=I.tuple (SqT.of (K:=X.K) h2);exact⟨p,b,n,t,its2,ps,rfl,rfl,p1,p2,intsAre_of r2⟩
theorem ziP {h h':Heap}{u:Value}{l:List Int} (k:∀b o,h.get? b=some o->h'.get? b=some o) (x:Srt.IsPr h u l):Srt.IsPr h' u l:=by
 obtain⟨a,b,n,t,its,ps,e1,e2,⟨o,ho,hc⟩,⟨o',ho',hc'⟩,i⟩:=x;exact⟨a,b,n,t,its,ps,e1,e2,⟨o,k _ _ ho,hc⟩,⟨o',k _ _ ho',hc'⟩,i⟩
theorem zba {α β:Type}{R:α->β->Prop}{l:List α}{m:List β} (p:Paired R l m):∀(i:Nat) x y,l[i]?=some x->m[i]?=some y->R x y:=by
 induction p with
 | nil=>intro i x y h; simp at h
 | cons r t ih=>
  intro i x y h1 h2;cases i with
  | zero=>simp at h1 h2; subst h1 h2; exact r
  | succ i=>exact ih i x y (by simpa using h1) (by simpa using h2)
def addrOf:Value->Addr
 | .ref a=>a
 | _=>0
theorem zcf (hu:X.A.units+64<cLine):zaz X (.builtin "sorted") (fun xs H Q=>∃(l:Addr) (as:List Addr) (ls:List (List Int)),xs=[.ref l]/\SqL X.K H l (as.map V.ref)/\Paired (PrAt H) as ls/\ls.length<64/\
  ∀(D:Addr) (qs:List (List Int×Addr)),qs.Perm (ls.zip as)->qs.Pairwise (fun a b=>HT.lexLt b.1 a.1=false)->H D=none->Q (.ref D) (upd H D (.lst (qs.map fun q=>V.ref q.2)))):=by
 intro pins s σ H xs us Q I r h;obtain⟨l,as,ls,rfl,hq,hp,h64,q⟩:=h;obtain⟨u,rfl,ru⟩:=vals1 r;cases ru;obtain⟨its,r1,p1,hz⟩:=I.list hq;have hlen:=r1.length;obtain rfl:=vals_refs r1;rw[List.length_map] at hlen hz;have hla:=Paired.length hp;have hpr:∀h:Heap,(∀b o,s.heap.get? b=some o->h.get? b=some o)->∀(i:Nat) u l,(as.map Value.ref)[i]?=some u->ls[i]?=some l->Srt.IsPr h u l:=fun h hk i u l h1 h2=>by
  rw[List.getElem?_map] at h1;cases e:as[i]? with
  | none=>rw[e] at h1; simp at h1
  | some a=>
   rw[e] at h1;obtain rfl:=Option.some.inj h1;exact ziP hk (zjH I (zba hp i a l e h2))
 refine Srt.zdh (ls:=ls) (good:=fun h=>∀b o,s.heap.get? b=some o->h.get? b=some o) p1.isList (Srt.zh7 (by rw[List.length_map]; exact hla) (zdo hu) ⟨s.heap,fun _ _ e=>e⟩ hpr) (fun h' hk=>hk) (by rw[List.length_map]; exact hz) (by rw[List.length_map]; omega) fun out ho=>?_;obtain⟨ps,hpm,ho,hs⟩:=ho;have all:∀p∈ps,p.2=Value.ref (addrOf p.2):=fun p hp'=>by
  have:=(List.of_mem_zip (hpm.mem_iff.mp hp':(p.1,p.2)∈ls.zip (as.map Value.ref))).2;obtain⟨a,_,e⟩:=List.mem_map.mp this;rw[<- e]; rfl
 have pm:(ps.map fun p=>(p.1,addrOf p.2)).Perm (ls.zip as):=by
  have h1:=hpm.map (fun p:List Int×Value=>(p.1,addrOf p.2));have e:(ls.zip (as.map Value.ref)).map (fun p:List Int×Value=>(p.1,addrOf p.2))=ls.zip as:=by
   rw[List.zip_map_right,List.map_map];exact (List.map_congr_left fun p _=>rfl).trans (List.map_id' _)
  rw[e] at h1;exact h1
 obtain⟨e,he⟩:=sortedAll_at s.heap (as.map Value.ref) out;have ex:out.toList=((ps.map fun p=>(p.1,addrOf p.2)).map fun q=>Value.ref q.2):=by
  rw[ho,List.map_map];exact List.map_congr_left fun p hp'=>all p hp'
 refine⟨.ref (s.heap.objs.size+1),_,I.laid (t':=s.toks) (fun _ _=>sortedAll_old) (Nat.le_succ _) (show zI X.prog X.w _ _ _ (.lst ((ps.map fun p=>(p.1,addrOf p.2)).map fun q=>V.ref q.2)) from ⟨?_,out.toList,e,?_,?_⟩),rfl,q _ _ pm ?_ (I.hok.fresh (Nat.le_succ _))⟩
 ·rw[List.length_map,pm.length_eq,List.length_zip]; omega
 ·rw[ex]
  exact zdG (fun q:List Int×Addr=>q.2) _
 ·simpa using he
 ·rw[List.pairwise_map]; exact hs
def zhb:Sp:=fun vs H Q _=>∃a ps,vs=[.ref a]/\Tp H a ps/\∀p,H p=none->Q (.ref p) (upd H p (.tup [.int ps.length,.ref a]))
theorem zhS {b:Addr} (h:FpOk X pins H b):∀c∈[b],FpOk X pins H c:=fun c hc=>by rw[List.mem_singleton.mp hc]; exact h
theorem zbY {H':Hp}{b:Addr} (f:FpOk X pins H b) (hn:H' b=none):FpOk X pins H' b:=⟨hn,f.2⟩
theorem zh2 {b:Addr} (I:Inv X pins σ H s) (f:FpOk X pins H b):b∉frs X.stack:=fun hb=>by
 rcases List.mem_cons.mp (I.stkSub b hb) with e | e
 ·exact f.2.1 e
 ·exact f.2.2.1 e
theorem ze1 {k:Nat}{f l:Addr}{fd:FuncData}{as:List Addr}{pss:List (List Int)}{x:Str}{Q:Value->Shared->Prop} (F:FnOk X.prog X.w X.K X.mg X.base CX0 k f fd [x] zhb) (hr:Room (k+2) X.A) (hb:Binds X.K fd [x] [])
  (I:Inv X pins σ H s) (hl:SqL X.K H l (as.map V.ref)) (ht:Tps H as pss) (h64:pss.length<64)
  (h:∀D H' (qs:List (List Int×Addr)) s',Inv X pins σ H' s'->Same H H'->H D=none->H' D=some (.lst (qs.map fun q=>V.ref q.2))->qs.Perm (pss.zip as)->
   qs.Pairwise (fun a b=>HT.lexLt ((b.1.length:Int)::b.1) ((a.1.length:Int)::a.1)=false)->Q (.ref D) s') :
  wpAny (model X.prog X.w) X.A (call (.builtin "sorted") [.ref l] [(Str.ofString "key",.ref f)]) Q X.xe s:=by
 have hu:X.A.units+64<cLine:=hr.units;obtain⟨its,r1,p1,hz⟩:=I.list hl;have hlen:=r1.length;obtain rfl:=vals_refs r1;have hla:=ht.length;rw[List.length_map] at hlen hz;have hzm:(as.map Value.ref).length<=sizeLine:=by rw[List.length_map]; exact hz
 generalize hvs:as.map Value.ref=vs at p1 hzm;have hvl:vs.length=as.length:=by rw[<- hvs,List.length_map]
 refine call_function_entry_kw kind_sorted plain_sorted entry_sorted (ksk_s1 _ _) ?_;unfold Builtin.«sorted»;refine wpAny_bind (m:=checkCount "sorted" 1 1 _) (wpAny_pure ?_);refine wpAny_bind (collect_list p1.isList ?_ hzm);refine wpAny_bind (wpAny_newList ?_ hzm);have hsz:((s.heap.push (seqObj "list" #[] 0)).update s.heap.objs.size (Obj.mapSeq (·++vs.toArray))).objs.size=s.heap.objs.size+1:=by
  rw[Heap.size_update,size_push']
 have hoL:(((s.heap.push (seqObj "list" #[] 0)).update s.heap.objs.size (Obj.mapSeq (·++vs.toArray))).push (seqObj "list" vs.toArray 0)).get? (s.heap.objs.size+1)=some (seqObj "list" vs.toArray 0):=by
  rw[<- hsz]; exact Heap.get?_push_size _ rfl
 have keep:∀b o,s.heap.get? b=some o->(((s.heap.push (seqObj "list" #[] 0)).update s.heap.objs.size (Obj.mapSeq (·++vs.toArray))).push (seqObj "list" vs.toArray 0)).get? b=some o:=fun b o q=>by
  have hlt:b<s.heap.objs.size:=Heap.lt_size q;rw[Heap.get?_push_ne _ _ _ (by rw[hsz]; exact Nat.ne_of_lt (Nat.lt_succ_of_lt hlt)),Heap.get?_update_ne _ _ _ _ (Nat.ne_of_lt hlt),Heap.get?_push_ne _ _ _ (Nat.ne_of_lt hlt)];exact q
 show wpAny _ _ _ _ _ { s with heap:=((s.heap.push (seqObj "list" #[] 0)).update s.heap.objs.size (Obj.mapSeq (·++vs.toArray))).push (seqObj "list" vs.toArray 0) };rw[hsz];generalize hA:((s.heap.push (seqObj "list" #[] 0)).update s.heap.objs.size (Obj.mapSeq (·++vs.toArray))).push (seqObj "list" vs.toArray 0)=hpA at hoL keep ⊢;have I1:Inv X pins σ H { s with heap:=hpA }:=I.kept (t':=s.toks) keep;have hfD:FpOk X pins H (s.heap.objs.size+1):=I.fpOk (Nat.le_succ _) (I.hok.fresh (Nat.le_succ _));generalize hD:s.heap.objs.size+1=D at hoL hfD ⊢;have hDlt:D<hpA.objs.size:=Heap.lt_size hoL;refine wpAny_bind (wpAny_holding (wpAny_call_entry_kw slot_list_sort ⟨_,hoL,rfl⟩ entry_list_sort ?body (ksk_l1 _ _)))
 case body=>
  show wpAny (model X.prog X.w) X.A.in1.in1 (Builtin.«list.sort» ⟨[.ref D],[(Str.ofString "key",.ref f)]⟩) _ _ _;rw[ksk_t1];unfold ksk_tree;refine wpAny_bind (listItems_at hoL rfl ?_);refine wpAny_bind (listUpdate_at hoL rfl ?_ (by rw[List.size_toArray]; exact hzm) (Nat.zero_le _));obtain⟨e1,ho1⟩:∃e1,(hpA.update D (Obj.mapSeq fun _=>(#[]:Array Value))).get? D=some (seqObj "list" #[] e1):=⟨_,get?_update_seq hoL fun _=>#[]⟩;refine wpAny_bind (seqEpoch_at ho1 rfl ?_);refine wpAny_bind (wpAny_newTuple ?_ (by show vs.length<=_; exact hzm));refine wpAny_bind (wpAny_newList ?_ (Nat.zero_le _));refine wpAny_holding ?_;have I2:Inv X pins σ H { s with heap:=hpA.update D (Obj.mapSeq fun _=>(#[]:Array Value)) }:=
   Inv.turneds (s:={ s with heap:=hpA }) (t':=s.toks) (ch:=[D]) I1 (zhS hfD) fun b o hb q=>by rw[Heap.get?_update_ne _ _ _ _ (fun z=>hb (by simp[z]))]; exact q
  have I3:Inv X pins σ H { s with heap:=((hpA.update D (Obj.mapSeq fun _=>(#[]:Array Value))).push (seqObj "tuple" vs.toArray 0)) }:=I2.kept (t':=s.toks) fun b u q=>Heap.get?_push_of_some _ q;have hfK:FpOk X pins H ((hpA.update D (Obj.mapSeq fun _=>(#[]:Array Value))).push (seqObj "tuple" vs.toArray 0)).objs.size:=I3.fpOk (Nat.le_refl _) (I3.hok.fresh (Nat.le_refl _));have hKD:((hpA.update D (Obj.mapSeq fun _=>(#[]:Array Value))).push (seqObj "tuple" vs.toArray 0)).objs.size≠D:=by
   rw[size_push',Heap.size_update]; omega
  have I4:Inv X pins σ H { s with heap:=(((hpA.update D (Obj.mapSeq fun _=>(#[]:Array Value))).push (seqObj "tuple" vs.toArray 0)).push (seqObj "list" #[] 0)) }:=I3.kept (t':=s.toks) fun b u q=>Heap.get?_push_of_some _ q;have hK4:(((hpA.update D (Obj.mapSeq fun _=>(#[]:Array Value))).push (seqObj "tuple" vs.toArray 0)).push (seqObj "list" #[] 0)).get? ((hpA.update D (Obj.mapSeq fun _=>(#[]:Array Value))).push (seqObj "tuple" vs.toArray 0)).objs.size=some (seqObj "list" #[] 0):=Heap.get?_push_size _ rfl;have hD4:(((hpA.update D (Obj.mapSeq fun _=>(#[]:Array Value))).push (seqObj "tuple" vs.toArray 0)).push (seqObj "list" #[] 0)).get? D=some (seqObj "list" #[] e1):=Heap.get?_push_of_some _ (Heap.get?_push_of_some _ ho1);show wpAny (model X.prog X.w) X.A.in1.in1 (ksk_rest D (.ref f) false vs.toArray e1 (.ref ((hpA.update D (Obj.mapSeq fun _=>(#[]:Array Value))).push (seqObj "tuple" vs.toArray 0)).objs.size)) _ _ { s with heap:=((hpA.update D (Obj.mapSeq fun _=>(#[]:Array Value))).push (seqObj "tuple" vs.toArray 0)).push (seqObj "list" #[] 0) };generalize ((hpA.update D (Obj.mapSeq fun _=>(#[]:Array Value))).push (seqObj "tuple" vs.toArray 0)).objs.size=kS at *;generalize ((hpA.update D (Obj.mapSeq fun _=>(#[]:Array Value))).push (seqObj "tuple" vs.toArray 0)).push (seqObj "list" #[] 0)=hp4 at *;unfold ksk_rest;refine wpAny_bind (wpAny_rule ?_)
  first
   | rw[List.forIn_toArray]
   | (rw[<- Array.forIn_toList]; simp only[List.toList_toArray])
  refine wpAny_bind (ksk_fold (fun i s'=>∃Hk kA e ks,Inv X pins σ Hk s'/\Same H Hk/\Hk D=none/\Hk kS=none/\s'.heap.get? kS=some (seqObj "list" kA e)/\s'.heap.get? D=some (seqObj "list" #[] e1)/\kA.toList=ks.map Value.ref/\ks.length=i/\
    ∀(j:Nat) p,ks[j]?=some p->∃a ps,as[j]?=some a/\pss[j]?=some ps/\Hk p=some (.tup [.int ps.length,.ref a])) vs 0 _
   ⟨H,#[],0,[],I4,Same.refl H,hfD.1,hfK.1,hK4,hD4,rfl,rfl,fun j p e=>by simp at e⟩ ?step ?done)
  case step=>
   rintro j v s' hv ⟨Hk,kA,e,ks,Ik,sk,hkD,hkK,nk,na,ekA,hj,hks⟩;simp only[Nat.zero_add] at hj ⊢;have hjl:j<as.length:=by rw[<- hvl]; exact (List.getElem?_eq_some_iff.mp hv).1
   have ea:as[j]?=some as[j]:=List.getElem?_eq_getElem hjl;obtain⟨ps,eps,hps⟩:=ht.get ea;have ev:v=.ref as[j]:=by
    rw[<- hvs,List.getElem?_map,ea] at hv;exact (Option.some.inj hv).symm
   subst ev;refine wpAny_bind (wpAny_attempt (wpAny_call (codeAny_mono (F.run X.A.in1.in1 X.stack s' Hk ⟨[.ref as[j]],[]⟩ [.ref as[j]] [.ref as[j]] (fun v H'=>∃p,v=.ref p/\Hk p=none/\H'=upd Hk p (.tup [.int ps.length,.ref as[j]])) E0
    (Room.in1 (Room.in1 hr)) Ik.env0.in1.in1 (hb s' [.ref as[j]] Ik.kIn rfl) (.cons rfl .nil) ⟨as[j],ps,rfl,sk.tp hps,fun p hp=>⟨p,rfl,hp,rfl⟩⟩) fun r s'' hq=>?_)))
   cases r with
   | error e=>exact False.elim hq
   | ok fl=>
    cases fl with
    | next=>exact False.elim hq
    | brk=>exact False.elim hq
    | cont=>exact False.elim hq
    | ret u=>
     obtain⟨v,H',os,bare,un,hok,ru,p,rfl,hp,rfl⟩:=hq;cases ru;have I5:Inv X pins σ (upd Hk p (.tup [.int ps.length,.ref as[j]])) s'':=Ik.call' os un hok bare (fun b z=>nomatch z);have fD:=zbY hfD hkD;have fK:=zbY hfK hkK;have na':=un.keep D _ na hkD (zh2 Ik fD) (by simp);have nk':=un.keep kS _ nk hkK (zh2 Ik fK) (by simp);have hD':=un.free D _ na hkD (by simp);have hK':=un.free kS _ nk hkK (by simp)
     try dsimp only
     have hkz:kA.size=j:=by rw[<- Array.length_toList,ekA,List.length_map,hj]
     obtain⟨c2,hc2⟩:∃c2,(s''.heap.update kS (Obj.mapSeq (·.push (.ref p)))).get? kS=some (seqObj "list" (kA.push (.ref p)) c2):=⟨_,get?_update_seq nk' (·.push (.ref p))⟩;have s1:=Heap.SameBut.update s''.heap kS (Obj.mapSeq (·.push (.ref p)));have fK':=zbY hfK hK';have I6:Inv X pins σ (upd Hk p (.tup [.int ps.length,.ref as[j]])) { s'' with heap:=s''.heap.update kS (Obj.mapSeq (·.push (.ref p))) }:=
      I5.turneds (t':=s''.toks) (ch:=[kS]) (zhS fK') fun b o hb q=>(s1.2 b (fun z=>hb (by simp[z]))).trans q
     refine wpAny_bind (listUpdate_at nk' rfl ?_ (by omega) (Nat.le_trans (Nat.le_of_eq (Array.size_push ..)) (by omega)));refine wpAny_pure ⟨rfl,_,kA.push (.ref p),c2,ks++[p],I6,sk.then (by exact sk.free hp),hD',hK',hc2,(s1.2 D hKD.symm).trans na',by rw[Array.toList_push,ekA,List.map_append]; rfl,by rw[List.length_append,hj]; rfl,fun i p' e'=>?_⟩
     by_cases hi:i<ks.length
     ·rw[List.getElem?_append_left hi] at e'
      obtain⟨a,ps',x1,x2,x3⟩:=hks i p' e';exact⟨a,ps',x1,x2,by rw[upd_ne (zj x3 hp)]; exact x3⟩
     ·rw[List.getElem?_append_right (by omega)] at e'
      have h0:i - ks.length=0:=by
       rcases Nat.eq_zero_or_pos (i - ks.length) with z | z
       ·exact z
       ·rw[List.getElem?_eq_none (by simp only[List.length_cons,List.length_nil]; omega)] at e'; cases e'
      rw[h0] at e';obtain rfl:p=p':=by simpa using e'
      have hij:i=j:=by omega
      subst hij;exact⟨_,ps,ea,eps,upd_same⟩
  case done=>
   rintro s' ⟨Hk,kA,e,ks,Ik,sk,hkD,hkK,nk,na,ekA,hj,hks⟩;simp only[Nat.zero_add] at hj
   try dsimp only
   refine wpAny_bind (listItems_at nk rfl ?_);unfold ksk_end
   try dsimp only
   simp only[Bool.false_eq_true,if_false];have ekl:kA=(ks.map Value.ref).toArray:=by rw[<- ekA,Array.toArray_toList]
   subst ekl;have hpr:∀(i:Nat) u l,(ks.map Value.ref)[i]?=some u->(pss.map fun ps=>(ps.length:Int)::ps)[i]?=some l->Srt.IsPr s'.heap u l:=fun i u l h1 h2=>by
    rw[List.getElem?_map] at h1 h2;cases ek:ks[i]? with
    | none=>rw[ek] at h1; simp at h1
    | some p=>
     obtain⟨a,ps,x1,x2,x3⟩:=hks i p ek;rw[ek] at h1;rw[x2] at h2;obtain rfl:=Option.some.inj h1;obtain rfl:=Option.some.inj h2;obtain⟨ps',y1,y2⟩:=ht.get x1;rw[x2] at y1;obtain rfl:=Option.some.inj y1;exact zjH Ik ⟨_,a,ps,rfl,x3,sk.tp y2⟩
   refine Srt.zem (us:=ks.map Value.ref) (vs:=vs) (ls:=pss.map fun ps=>(ps.length:Int)::ps) (good:=fun h=>h=s'.heap) (Srt.zh7 (by rw[List.length_map,List.length_map,hj,hvl]; exact hla) (zdo hu) ⟨_,rfl⟩ (by rintro h rfl; exact hpr)) (by rw[List.length_map,hj]) (by omega) rfl fun st' ho hst hf=>?_;refine Srt.ziv (ls:=pss.map fun ps=>(ps.length:Int)::ps) (vs:=vs) nk na hKD (by rw[List.size_toArray,List.length_map]; omega) ho hst hzm hf fun h' out c kk hDo hKo hOut hsz'=>⟨_,rfl,?_⟩;refine wpAny_pure ⟨_,rfl,?_⟩;obtain⟨ps,hpm,hout,hs⟩:=hOut;subst hvs;have I7:Inv X pins σ Hk { s' with heap:=h' }:=Ik.turneds (t':=s'.toks) (ch:=[kS,D]) (fun b hb=>by
     simp only[List.mem_cons,List.not_mem_nil,or_false] at hb;rcases hb with rfl | rfl
     ·exact zbY hfK hkK
     ·exact zbY hfD hkD) fun b o hb q=>kk b o (fun z=>hb (by simp[z])) (fun z=>hb (by simp[z])) q
   have all:∀p∈ps,∃a qs,p.2=Value.ref a/\p.1=((qs:List Int).length:Int)::qs:=fun p hp'=>by
    obtain⟨h1,h2⟩:=List.of_mem_zip (hpm.mem_iff.mp hp':(p.1,p.2)∈_);obtain⟨a,_,ea⟩:=List.mem_map.mp h2;obtain⟨qs,_,eq⟩:=List.mem_map.mp h1;exact⟨a,qs,ea.symm,eq.symm⟩
   have pm:(ps.map fun p=>(p.1.tail,addrOf p.2)).Perm (pss.zip as):=by
    have h1:=hpm.map (fun p:List Int×Value=>(p.1.tail,addrOf p.2));have e:((pss.map fun ps=>(ps.length:Int)::ps).zip (as.map Value.ref)).map (fun p:List Int×Value=>(p.1.tail,addrOf p.2))=pss.zip as:=by
     rw[List.zip_map,List.map_map];exact (List.map_congr_left fun p _=>rfl).trans (List.map_id' _)
    rw[e] at h1;exact h1
   have ex:out.toList=((ps.map fun p=>(p.1.tail,addrOf p.2)).map fun q=>Value.ref q.2):=by
    rw[hout,List.map_map];refine List.map_congr_left fun p hp'=>?_;obtain⟨a,qs,e1,_⟩:=all p hp';show p.2=Value.ref (addrOf p.2);rw[e1]; rfl
   have vv:Vals ((ps.map fun p=>(p.1.tail,addrOf p.2)).map fun q=>V.ref q.2) out.toList:=by
    rw[ex];exact zdG (fun q:List Int×Addr=>q.2) _
   obtain⟨f0,f1,f2,f3,f4,f5⟩:=hfD;have hDs:X.s₀.heap.objs.size<=D:=by rw[<- hD]; exact Nat.le_trans I.sz (Nat.le_succ _)
   have I8:Inv X pins σ (upd Hk D (.lst ((ps.map fun p=>(p.1.tail,addrOf p.2)).map fun q=>V.ref q.2))) { s' with heap:=h' }:=by
    refine I7.adopt hkD hDs f1 f4 f5 ⟨?_,out.toList,c,vv,?_⟩
    ·rw[List.length_map,pm.length_eq,List.length_zip]; omega
    ·simpa using hDo
   refine h D _ _ _ I8 (sk.then f0) f0 upd_same pm ?_;rw[List.pairwise_map];refine hs.imp_of_mem fun {p q} h1 h2 h3=>?_;obtain⟨_,qs,_,e1⟩:=all p h1;obtain⟨_,qs',_,e2⟩:=all q h2;rw[e1,e2] at h3;rw[e1,e2];exact h3
end
section
variable {X:Cx}{a:Expr}{ta:TA}{p p2 pos kpos:Pos}{k:Nat}{f:Addr}{fd:FuncData}{x y:Str}
def zjQ (K:PySem.W.Frag) (ta:TA):TE:=fun σ H Q=>ta σ H fun vs H1=>∃(l:Addr) (as:List Addr) (pss:List (List Int)),vs=[.ref l]/\SqL K H1 l (as.map V.ref)/\Tps H1 as pss/\pss.length<64/\
 ∀D H2 (qs:List (List Int×Addr)),Same H1 H2->H1 D=none->H2 D=some (.lst (qs.map fun q=>V.ref q.2))->qs.Perm (pss.zip as)->qs.Pairwise (fun a b=>HT.lexLt ((b.1.length:Int)::b.1) ((a.1.length:Int)::a.1)=false)->Q (.ref D) H2
theorem ze7 (F:FnOk X.prog X.w X.K X.mg X.base CX0 k f fd [x] zhb) (hr:Room (k+2) X.A) (hb:Binds X.K fd [x] []) (hg:Gl X "sorted") (hm:X.mg "sorted"=none) (hv:bootBuiltins "sorted"=some (.builtin "sorted")) (hgf:Gl X y) (hmf:X.mg y=some (.ref f)) (ha:PA X [a] ta)
  (hdb:(y == ("__debug__":Str))=false:=by decide) (he:starEach [a] X.env=[(false,eval a X.env)]:=by rfl) :
  PE X (.Call (.Name "sorted" p) [a] [⟨some "key",.Name y p2,kpos⟩] pos) (zjQ X.K ta):=by
 intro pins s σ H Q I h;refine wpAny_Call_Name_kw (zb9 I hg hm hv ?_);refine callWith_kw ?_ (by rw[he]; rfl) (by rw[he]; rfl) rfl rfl;refine thn (ha pos pins s σ H _ I h) fun us s1 ⟨vs,H1,I1,r1,q1⟩=>?_;obtain⟨l,as,pss,rfl,hl,ht,h64,q⟩:=q1;obtain⟨u,rfl,ru⟩:=vals1 r1;cases ru;refine kws_cons (zd5 I1 hgf hmf (kws_nil ?_) hdb);show wpAny (model X.prog X.w) X.A (call (.builtin "sorted") [.ref l] [(Str.ofString "key",.ref f)]) _ _ s1;exact ze1 F hr hb I1 hl ht h64 fun D H' qs s' I' sm hD hD' hp hs=>⟨.ref D,H',I',rfl,q D H' qs sm hD hD' hp hs⟩
end
end L2
end
section
namespace STb
open PySem PySem.SetTable
def Ris (xs:Array Nat):Prop:=∀(i j a b:Nat),xs[i]?=some a->xs[j]?=some b->i<j->a<b
theorem Ris.inj {xs:Array Nat} (h:Ris xs) {i j a:Nat} (h1:xs[i]?=some a) (h2:xs[j]?=some a):i=j:=by
 rcases Nat.lt_trichotomy i j with q | q | q
 ·exact absurd (h i j a a h1 h2 q) (Nat.lt_irrefl _)
 ·exact q
 ·exact absurd (h j i a a h2 h1 q) (Nat.lt_irrefl _)
theorem zdP {xs:Array Nat}{j:Nat} (hr:Ris xs):∀(fuel lo hi:Nat),hi - lo<=fuel->lo<=hi->hi<=xs.size->(∀i a,xs[i]?=some a->i<lo->a<j)->(∀i a,xs[i]?=some a->hi<=i->j<=a)->
  below.go xs j fuel lo hi<=xs.size/\(∀i a,xs[i]?=some a->i<below.go xs j fuel lo hi->a<j)/\(∀i a,xs[i]?=some a->below.go xs j fuel lo hi<=i->j<=a)
 | 0,lo,hi,h0,h1,h2,h3,h4=>by
  have e:lo=hi:=by omega
  subst e;exact⟨h2,h3,h4⟩
 | fuel+1,lo,hi,h0,h1,h2,h3,h4=>by
  have eg0:below.go xs j (fuel+1) lo hi=if lo<hi then (if xs.getD ((lo+hi) / 2) j<j then below.go xs j fuel ((lo+hi) / 2+1) hi else below.go xs j fuel lo ((lo+hi) / 2)) else lo:=rfl;rw[eg0]
  by_cases hlt:lo<hi
  ·rw[if_pos hlt]
   have hm:(lo+hi) / 2<xs.size:=by omega
   have em:xs[(lo+hi) / 2]?=some xs[(lo+hi) / 2]:=getElem?_pos xs _ hm;have eg:xs.getD ((lo+hi) / 2) j=xs[(lo+hi) / 2]:=by simp[Array.getD,hm]
   rw[eg]
   by_cases hc:xs[(lo+hi) / 2]<j
   ·rw[if_pos hc]
    refine zdP hr fuel _ _ (by omega) (by omega) h2 (fun i a e hi'=>?_) h4;rcases Nat.lt_or_eq_of_le (Nat.lt_succ_iff.mp hi') with q | q
    ·exact Nat.lt_trans (hr _ _ _ _ e em q) hc
    ·subst q; rw[em] at e; cases e; exact hc
   ·rw[if_neg hc]
    refine zdP hr fuel _ _ (by omega) (by omega) (by omega) h3 (fun i a e hi'=>?_);rcases Nat.lt_or_eq_of_le hi' with q | q
    ·have:=hr _ _ _ _ em e q
     omega
    ·subst q; rw[em] at e; cases e; omega
  ·rw[if_neg hlt]
   have e:lo=hi:=by omega
   subst e;exact⟨h2,h3,h4⟩
theorem zbh {xs:Array Nat} (hr:Ris xs) (j:Nat):below xs j<=xs.size/\(∀i a,xs[i]?=some a->i<below xs j->a<j)/\(∀i a,xs[i]?=some a->below xs j<=i->j<=a):=
 zdP hr xs.size 0 xs.size (by omega) (by omega) (Nat.le_refl _) (fun _ _ _ h=>absurd h (Nat.not_lt_zero _)) (fun i a e h=>by have:=(Array.getElem?_eq_some_iff.mp e).1; omega)
theorem below_at {xs:Array Nat} (hr:Ris xs) {i j:Nat} (e:xs[i]?=some j):below xs j=i:=by
 obtain⟨h1,h2,h3⟩:=zbh hr j;rcases Nat.lt_trichotomy (below xs j) i with q | q | q
 ·have hb:below xs j<xs.size:=Nat.lt_trans q (Array.getElem?_eq_some_iff.mp e).1
  have e2:=getElem?_pos xs (below xs j) hb;have a1:=h3 _ _ e2 (Nat.le_refl _);have a2:=hr _ _ _ _ e2 e q;omega
 ·exact q
 ·exact absurd (h2 i j e q) (Nat.lt_irrefl _)
theorem zW {α:Type} (xs:Array α) (p:Nat) (x:α) (hp:p<=xs.size) (i:Nat):(insertAt xs p x)[i]?=if i<p then xs[i]? else if i=p then some x else xs[i - 1]?:=by
 unfold insertAt;have hs:((xs.extract 0 p).push x).size=p+1:=by rw[Array.size_push,Array.size_extract]; omega
 by_cases h1:i<p
 ·rw[if_pos h1,Array.getElem?_append_left (by omega),Array.getElem?_push_lt (by rw[Array.size_extract]; omega)]
  simp[Array.getElem_extract,h1]
 ·rw[if_neg h1]
  by_cases h2:i=p
  ·subst h2
   rw[if_pos rfl,Array.getElem?_append_left (by omega)];have e:(xs.extract 0 i).size=i:=by rw[Array.size_extract]; omega
   have:=Array.getElem?_push_size (xs:=xs.extract 0 i) (x:=x);rw[e] at this;exact this
  ·rw[if_neg h2,Array.getElem?_append_right (by omega),hs,Array.getElem?_extract]
   by_cases h3:i - (p+1)<xs.size - p
   ·rw[if_pos (by omega)]
    congr 1
    omega
   ·rw[if_neg (by omega)]
    exact (Array.getElem?_eq_none (by omega)).symm
theorem zaX {α:Type} (xs:Array α) (p:Nat) (x:α) (hp:p<=xs.size):(insertAt xs p x).size=xs.size+1:=by
 unfold insertAt;rw[Array.size_append,Array.size_push,Array.size_extract,Array.size_extract];omega
theorem ziN {xs:Array Nat} (hr:Ris xs) {j:Nat} (hn:∀i:Nat,xs[i]?≠some j):Ris (insertAt xs (below xs j) j):=by
 obtain⟨h1,h2,h3⟩:=zbh hr j;intro a b x y ea eb hab;rw[zW _ _ _ h1] at ea eb
 by_cases a1:a<below xs j
 ·rw[if_pos a1] at ea
  by_cases b1:b<below xs j
  ·rw[if_pos b1] at eb; exact hr _ _ _ _ ea eb hab
  ·rw[if_neg b1] at eb
   by_cases b2:b=below xs j
   ·rw[if_pos b2] at eb; cases eb; exact h2 _ _ ea a1
   ·rw[if_neg b2] at eb; exact hr _ _ _ _ ea eb (by omega)
 ·rw[if_neg a1] at ea
  rw[if_neg (by omega)] at eb
  by_cases a2:a=below xs j
  ·rw[if_pos a2] at ea; cases ea
   rw[if_neg (by omega)] at eb;have:=h3 _ _ eb (by omega);rcases Nat.lt_or_eq_of_le this with q | q
   ·exact q
   ·subst q; exact absurd eb (hn _)
  ·rw[if_neg a2] at ea
   rw[if_neg (by omega)] at eb;exact hr _ _ _ _ ea eb (by omega)
def nxt (mask:Nat) (p:Probe):Probe:=
 if p.more > 0 then { p with j:=p.j+1,more:=p.more - 1 } else
 { p with j:=(leap mask p.i p.perturb).1,more:=runEnd mask (leap mask p.i p.perturb).1 - (leap mask p.i p.perturb).1,i:=(leap mask p.i p.perturb).1,perturb:=(leap mask p.i p.perturb).2 }
def first (mask:Nat) (h:Int):Probe:={ j:=bits h % (mask+1),more:=runEnd mask (bits h % (mask+1)) - bits h % (mask+1),i:=bits h % (mask+1),perturb:=bits h,dummy:=none }
def pr (mask:Nat) (h:Int):Nat->Probe
 | 0=>first mask h
 | n+1=>nxt mask (pr mask h n)
def pos (mask:Nat) (h:Int) (n:Nat):Nat:=(pr mask h n).j
theorem zeL (mask:Nat) (h:Int):∀n,(pr mask h n).dummy=none
 | 0=>rfl
 | n+1=>by
  show (nxt mask (pr mask h n)).dummy=none;unfold nxt;split <;> exact zeL mask h n
def lp (mask:Nat) (h:Int):Nat->Nat×Nat
 | 0=>(bits h % (mask+1),bits h)
 | r+1=>leap mask (lp mask h r).1 (lp mask h r).2
theorem zjr (mask i:Nat):runEnd mask i - i<=9:=by unfold runEnd; split <;> omega
theorem zbK (mask:Nat) (h:Int) {n r:Nat} (e:pr mask h n={ j:=(lp mask h r).1,more:=runEnd mask (lp mask h r).1 - (lp mask h r).1,i:=(lp mask h r).1,perturb:=(lp mask h r).2,dummy:=none }) :
  ∀k,k<=runEnd mask (lp mask h r).1 - (lp mask h r).1->pr mask h (n+k)={ j:=(lp mask h r).1+k,more:=runEnd mask (lp mask h r).1 - (lp mask h r).1 - k,i:=(lp mask h r).1,perturb:=(lp mask h r).2,dummy:=none }
 | 0,_=>e
 | k+1,hk=>by
  have ih:=zbK mask h e k (by omega);show nxt mask (pr mask h (n+k))=_;rw[ih];unfold nxt;rw[if_pos (by show runEnd mask (lp mask h r).1 - (lp mask h r).1 - k > 0; omega)]
  congr 1
theorem zhT (mask:Nat) (h:Int):∀r,∃n,n<=10*r/\pr mask h n={ j:=(lp mask h r).1,more:=runEnd mask (lp mask h r).1 - (lp mask h r).1,i:=(lp mask h r).1,perturb:=(lp mask h r).2,dummy:=none }
 | 0=>⟨0,Nat.le_refl _,rfl⟩
 | r+1=>by
  obtain⟨n,hn,e⟩:=zhT mask h r;have hl:=zjr mask (lp mask h r).1;refine⟨n+(runEnd mask (lp mask h r).1 - (lp mask h r).1)+1,by omega,?_⟩;show nxt mask (pr mask h (n+(runEnd mask (lp mask h r).1 - (lp mask h r).1)))=_;rw[zbK mask h e _ (Nat.le_refl _)];unfold nxt;rw[if_neg (by show ¬ (runEnd mask (lp mask h r).1 - (lp mask h r).1 - (runEnd mask (lp mask h r).1 - (lp mask h r).1) > 0); omega)]
  rfl
theorem zij (h:Int):bits h<2 ^ 64:=by
 unfold bits;have h1:(0:Int)<=h % (2 ^ 64:Int):=Int.emod_nonneg _ (by decide);have h2:h % (2 ^ 64:Int)<2 ^ 64:=Int.emod_lt_of_pos _ (by decide);omega
theorem zib (mask:Nat) (h:Int):∀r,(lp mask h r).2=bits h / 32 ^ r
 | 0=>by simp[lp]
 | r+1=>by
  show (lp mask h r).2 / 32=_;rw[zib mask h r,Nat.div_div_eq_div_mul,Nat.pow_succ]
theorem zjt (mask:Nat) (h:Int) {r:Nat} (hr:13<=r):(lp mask h r).2=0:=by
 rw[zib];have h1:=zij h;have h2:32 ^ 13<=32 ^ r:=Nat.pow_le_pow_right (by decide) hr;exact Nat.div_eq_of_lt (Nat.lt_of_lt_of_le h1 (Nat.le_trans (by decide) h2))
theorem zjJ (mask:Nat) (h:Int):∀r,(lp mask h r).1<=mask
 | 0=>Nat.lt_succ_iff.mp (Nat.mod_lt _ (Nat.succ_pos _))
 | r+1=>Nat.lt_succ_iff.mp (Nat.mod_lt _ (Nat.succ_pos _))
def f5 (mask x:Nat):Nat:=(x*5+1) % (mask+1)
def it5 (mask:Nat):Nat->Nat->Nat
 | 0,x=>x
 | k+1,x=>f5 mask (it5 mask k x)
theorem zik (mask:Nat) (h:Int):∀k,(lp mask h (13+k)).1=it5 mask k (lp mask h 13).1
 | 0=>rfl
 | k+1=>by
  show ((lp mask h (13+k)).1*5+1+(lp mask h (13+k)).2 / 32) % (mask+1)=f5 mask (it5 mask k (lp mask h 13).1);rw[zjt mask h (by omega),zik mask h k]
  rfl
def Cov (mask:Nat):Prop:=∀i s,i<=mask->s<=mask->∃k,k<=mask/\it5 mask k i=s
def orb (mask:Nat):Nat->Nat->List Nat
 | 0,_=>[]
 | n+1,x=>x::orb mask n (f5 mask x)
theorem zfo (mask:Nat):∀(n x k:Nat),k<n->(orb mask n x)[k]?=some (it5 mask k x)
 | 0,_,_,h=>absurd h (Nat.not_lt_zero _)
 | n+1,x,0,_=>rfl
 | n+1,x,k+1,h=>by
  have ih:=zfo mask n (f5 mask x) k (by omega);show (orb mask n (f5 mask x))[k]?=_;rw[ih]
  congr 1
  have sh:∀k x,it5 mask k (f5 mask x)=f5 mask (it5 mask k x):=by
   intro k
   induction k with
   | zero=>intro x; rfl
   | succ k ih=>intro x; show f5 mask (it5 mask k (f5 mask x))=_; rw[ih]; rfl
  exact sh k x
theorem zdH (mask:Nat):∀n x,(orb mask n x).length=n
 | 0,_=>rfl
 | n+1,x=>by show (orb mask n (f5 mask x)).length+1=_; rw[zdH mask n]
theorem zcV (mask:Nat):∀(a b x:Nat),it5 mask (a+b) x=it5 mask a (it5 mask b x)
 | 0,b,x=>by rw[Nat.zero_add]; rfl
 | a+1,b,x=>by
  rw[Nat.add_right_comm];show f5 mask (it5 mask (a+b) x)=_;rw[zcV mask a b x]
  rfl
theorem zc2 {mask:Nat} (h:((List.range (mask+1)).all fun s=>(orb mask (mask+1) 0).contains s)=true) (hp:it5 mask (mask+1) 0=0):Cov mask:=by
 have all:∀s,s<=mask->∃k,k<=mask/\it5 mask k 0=s:=fun s hs=>by
  have h2:=List.all_eq_true.mp h s (List.mem_range.mpr (by omega));obtain⟨k,hk,e⟩:=List.mem_iff_getElem.mp (List.contains_iff_mem.mp h2);rw[zdH] at hk;refine⟨k,by omega,?_⟩;have e2:=zfo mask (mask+1) 0 k hk;rw[List.getElem?_eq_getElem (by rw[zdH]; exact hk),e] at e2;exact (Option.some.inj e2).symm
 intro i s hi hs;obtain⟨a,ha,ea⟩:=all i hi;obtain⟨b,hb,eb⟩:=all s hs;rcases Nat.lt_or_ge b a with q | q
 ·refine⟨mask+1 - a+b,by omega,?_⟩
  rw[<- ea,<- zcV,show mask+1 - a+b+a=b+(mask+1) by omega,zcV,hp,eb]
 ·refine⟨b - a,by omega,?_⟩
  rw[<- ea,<- zcV,show b - a+a=b by omega,eb]
theorem cov7:Cov 7:=zc2 (by decide +kernel) (by decide +kernel)
theorem cov31:Cov 31:=zc2 (by decide +kernel) (by decide +kernel)
theorem cov63:Cov 63:=zc2 (by decide +kernel) (by decide +kernel)
theorem cov255:Cov 255:=zc2 (by decide +kernel) (by decide +kernel)
theorem cov127:Cov 127:=zc2 (by decide +kernel) (by decide +kernel)
theorem reach {mask:Nat} (hc:Cov mask) (h:Int) {x:Nat} (hx:x<=mask):∃n,n<10*turns mask/\pos mask h n=x:=by
 obtain⟨k,hk,e⟩:=hc (lp mask h 13).1 x (zjJ mask h 13) hx;obtain⟨n,hn,e2⟩:=zhT mask h (13+k);refine⟨n,by unfold turns; omega,?_⟩;show (pr mask h n).j=x;rw[e2];show (lp mask h (13+k)).1=x;rw[zik,e]
theorem pos_le (mask:Nat) (h:Int) (n:Nat):pos mask h n<=mask:=by
 have key:∀n,(pr mask h n).i<=mask/\(pr mask h n).j+(pr mask h n).more<=mask:=by
  intro n;have er:∀i,i<=mask->i+(runEnd mask i - i)<=mask:=fun i hi=>by unfold runEnd; split <;> omega
  induction n with
  | zero=>
   have q:bits h % (mask+1)<=mask:=Nat.lt_succ_iff.mp (Nat.mod_lt _ (Nat.succ_pos _));exact⟨q,er _ q⟩
  | succ n ih=>
   show (nxt mask (pr mask h n)).i<=mask/\(nxt mask (pr mask h n)).j+(nxt mask (pr mask h n)).more<=mask;unfold nxt;split
   ·exact⟨ih.1,by show (pr mask h n).j+1+((pr mask h n).more - 1)<=mask; omega⟩
   ·have q:(leap mask (pr mask h n).i (pr mask h n).perturb).1<=mask:=Nat.lt_succ_iff.mp (Nat.mod_lt _ (Nat.succ_pos _))
    exact⟨q,er _ q⟩
 have:=(key n).2;unfold pos;omega
end STb
end
section
namespace STb
open PySem PySem.SetTable
structure Tb (t:SetTable) (hs:Array Int):Prop where
 ris:Ris t.place
 dum:t.dummies=#[]
 size:t.place.size=hs.size
 le:∀(i j:Nat),t.place[i]?=some j->j<=t.mask
 cov:Cov t.mask
 odd:t.mask % 2=1
 room:hs.size<=t.mask
 path:∀(k j:Nat) (h:Int),hs[k]?=some h->t.place[k]?=some j->∃n,pos t.mask h n=j/\∀m,m<n->∃k':Nat,t.place[k']?=some (pos t.mask h m)
def Occ (t:SetTable) (j:Nat):Prop:=∃i:Nat,t.place[i]?=some j
section
variable {t:SetTable}{hs:Array Int}
theorem zP (T:Tb t hs) {i j:Nat} (e:t.place[i]?=some j):t.slot j=.live i:=by
 show (if (t.place[below t.place j]? == some j)=true then Slot.live (below t.place j) else _)=_;rw[below_at T.ris e,e,if_pos (by simp)]
theorem ze3 (T:Tb t hs) {j:Nat} (e:¬ Occ t j):t.slot j=.empty:=by
 show (if (t.place[below t.place j]? == some j)=true then Slot.live (below t.place j) else if has t.dummies j=true then Slot.dummy else Slot.empty)=_;have h1:¬ (t.place[below t.place j]? == some j)=true:=by
  intro q;exact e ⟨_,eq_of_beq q⟩
 have h2:has t.dummies j=false:=by
  unfold has;rw[T.dum]
  rfl
 rw[if_neg h1,h2]
 rfl
theorem zeT (T:Tb t hs):∃x,x<=t.mask/\¬ Occ t x:=by
 apply Classical.byContradiction;intro hn;have all:∀x,x<=t.mask->Occ t x:=fun x hx=>Classical.byContradiction fun q=>hn ⟨x,hx,q⟩;have sub:List.range (t.mask+1) ⊆ t.place.toList:=fun x hx=>by
  obtain⟨i,e⟩:=all x (Nat.lt_succ_iff.mp (List.mem_range.mp hx));rw[<- Array.getElem?_toList] at e;exact List.mem_of_getElem? e
 have:=(List.nodup_range (n:=t.mask+1)).length_le_of_subset sub;rw[List.length_range,Array.length_toList,T.size] at this;have:=T.room;omega
theorem least {P:Nat->Prop} (n:Nat) (h:P n):∃m,m<=n/\P m/\∀k,k<m->¬ P k:=by
 induction n using Nat.strongRecOn with
 | ind n ih=>
  by_cases q:∃k,k<n/\P k
  ·obtain⟨k,hk,pk⟩:=q
   obtain⟨m,h1,h2,h3⟩:=ih k hk pk;exact⟨m,by omega,h2,h3⟩
  ·exact⟨n,Nat.le_refl _,h,fun k hk pk=>q ⟨k,hk,pk⟩⟩
theorem zcm (T:Tb t hs) (h:Int):∃ne,ne<10*turns t.mask/\¬ Occ t (pos t.mask h ne)/\∀m,m<ne->Occ t (pos t.mask h m):=by
 obtain⟨x,hx,fx⟩:=zeT T;obtain⟨n,hn,e⟩:=reach T.cov h hx;obtain⟨m,h1,h2,h3⟩:=least (P:=fun m=>¬ Occ t (pos t.mask h m)) n (by rw[e]; exact fx);exact⟨m,by omega,h2,fun k hk=>Classical.byContradiction fun q=>h3 k hk q⟩
theorem zdE (T:Tb t hs) {hashAt:Nat->Int}{h:Int}:∀(d fuel n:Nat),(∀m,n<=m->m<n+d->∃i:Nat,t.place[i]?=some (pos t.mask h m)/\hashAt i≠h)->probe.go t hashAt h (fuel+d) (pr t.mask h n)=probe.go t hashAt h fuel (pr t.mask h (n+d))
 | 0,fuel,n,_=>rfl
 | d+1,fuel,n,hm=>by
  obtain⟨i,e1,e2⟩:=hm n (Nat.le_refl _) (by omega);have es:t.slot (pr t.mask h n).j=.live i:=zP T e1;have ih:=zdE T d fuel (n+1) (fun m h1 h2=>hm m (by omega) (by omega));rw[show fuel+(d+1)=(fuel+d)+1 by omega,show n+(d+1)=n+1+d by omega,<- ih];show (match t.slot (pr t.mask h n).j with
   | .empty=>some (Met.empty (pr t.mask h n).j (pr t.mask h n).dummy)
   | .dummy=>probe.go t hashAt h (fuel+d) (t.advance { (pr t.mask h n) with dummy:=some (pr t.mask h n).j })
   | .live i=>if hashAt i == h then some (Met.candidate (pr t.mask h n).j i (t.advance (pr t.mask h n))) else probe.go t hashAt h (fuel+d) (t.advance (pr t.mask h n)))=_
  rw[es];dsimp only;rw[if_neg (by simpa using e2)]
  rfl
theorem probe_spec (T:Tb t hs) {hashAt:Nat->Int}{h:Int}{ne n:Nat} (hne:ne<10*turns t.mask) (he:¬ Occ t (pos t.mask h ne)) (hm:∀m,m<ne->Occ t (pos t.mask h m)) (hn:n<=ne) :
  (t.probe hashAt h (pr t.mask h n)=some (.empty (pos t.mask h ne) none)/\∀m i,n<=m->m<ne->t.place[i]?=some (pos t.mask h m)->hashAt i≠h) \/
  ∃(N i:Nat),n<=N/\N<ne/\t.place[i]?=some (pos t.mask h N)/\hashAt i=h/\t.probe hashAt h (pr t.mask h n)=some (.candidate (pos t.mask h N) i (pr t.mask h (N+1)))/\∀m i',n<=m->m<N->t.place[i']?=some (pos t.mask h m)->hashAt i'≠h:=by
 by_cases q:∃N,n<=N/\N<ne/\∃i:Nat,t.place[i]?=some (pos t.mask h N)/\hashAt i=h
 ·right
  obtain⟨N₀,hN₀⟩:=q;obtain⟨N,h1,⟨h2,h3,i,h4,h5⟩,h6⟩:=least (P:=fun N=>n<=N/\N<ne/\∃i:Nat,t.place[i]?=some (pos t.mask h N)/\hashAt i=h) N₀ hN₀;have bef:∀m i',n<=m->m<N->t.place[i']?=some (pos t.mask h m)->hashAt i'≠h:=fun m i' a b c d=>h6 m b ⟨a,by omega,i',c,d⟩;refine⟨N,i,h2,h3,h4,h5,?_,bef⟩;obtain⟨fuel,hf⟩:∃fuel,10*turns t.mask=(fuel+1)+(N - n):=⟨10*turns t.mask - (N - n) - 1,by omega⟩;unfold SetTable.probe;rw[hf,zdE T (N - n) (fuel+1) n (fun m a b=>?_),show n+(N - n)=N by omega]
  ·show (match t.slot (pr t.mask h N).j with
    | .empty=>some (Met.empty (pr t.mask h N).j (pr t.mask h N).dummy)
    | .dummy=>probe.go t hashAt h fuel (t.advance { (pr t.mask h N) with dummy:=some (pr t.mask h N).j })
    | .live i=>if hashAt i == h then some (Met.candidate (pr t.mask h N).j i (t.advance (pr t.mask h N))) else probe.go t hashAt h fuel (t.advance (pr t.mask h N)))=_
   rw[show t.slot (pr t.mask h N).j=.live i from zP T h4];dsimp only;rw[if_pos (by simpa using h5)]
   rfl
  ·obtain⟨i',e⟩:=hm m (by omega)
   exact⟨i',e,bef m i' a (by omega) e⟩
 ·left
  have bef:∀m i,n<=m->m<ne->t.place[i]?=some (pos t.mask h m)->hashAt i≠h:=fun m i a b c d=>q ⟨m,a,b,i,c,d⟩;refine⟨?_,bef⟩;obtain⟨fuel,hf⟩:∃fuel,10*turns t.mask=(fuel+1)+(ne - n):=⟨10*turns t.mask - (ne - n) - 1,by omega⟩;unfold SetTable.probe;rw[hf,zdE T (ne - n) (fuel+1) n (fun m a b=>?_),show n+(ne - n)=ne by omega]
  ·show (match t.slot (pr t.mask h ne).j with
    | .empty=>some (Met.empty (pr t.mask h ne).j (pr t.mask h ne).dummy)
    | .dummy=>probe.go t hashAt h fuel (t.advance { (pr t.mask h ne) with dummy:=some (pr t.mask h ne).j })
    | .live i=>if hashAt i == h then some (Met.candidate (pr t.mask h ne).j i (t.advance (pr t.mask h ne))) else probe.go t hashAt h fuel (t.advance (pr t.mask h ne)))=_
   rw[show t.slot (pr t.mask h ne).j=.empty from ze3 T he];dsimp only;rw[zeL]
   rfl
  ·obtain⟨i',e⟩:=hm m (by omega)
   exact⟨i',e,bef m i' a (by omega) e⟩
theorem zhU (T:Tb t hs) {h:Int}{ne k j:Nat} (he:¬ Occ t (pos t.mask h ne)) (hk:hs[k]?=some h) (hj:t.place[k]?=some j):∃N,N<ne/\pos t.mask h N=j:=by
 obtain⟨n,e,hm⟩:=T.path k j h hk hj;refine⟨n,?_,e⟩;rcases Nat.lt_trichotomy n ne with q | q | q
 ·exact q
 ·subst q; exact absurd ⟨k,by rw[e]; exact hj⟩ he
 ·exact absurd (hm ne q) he
theorem zhZ (T:Tb t hs) {h:Int}{ne:Nat} (he:¬ Occ t (pos t.mask h ne)) (hm:∀m,m<ne->Occ t (pos t.mask h m)) (hr:hs.size+1<=t.mask) :
  (t.put (pos t.mask h ne)).2<=hs.size/\(t.put (pos t.mask h ne)).1.mask=t.mask/\Tb (t.put (pos t.mask h ne)).1 (insertAt hs (t.put (pos t.mask h ne)).2 h):=by
 have hj:∀i:Nat,t.place[i]?≠some (pos t.mask h ne):=fun i e=>he ⟨i,e⟩;obtain⟨b1,b2,b3⟩:=zbh T.ris (pos t.mask h ne);have hb:below t.place (pos t.mask h ne)<=hs.size:=by rw[<- T.size]; exact b1
 have pl:(t.put (pos t.mask h ne)).1.place=insertAt t.place (below t.place (pos t.mask h ne)) (pos t.mask h ne):=rfl;have mk:(t.put (pos t.mask h ne)).1.mask=t.mask:=rfl;have occ:∀j,Occ t j->∃k':Nat,(t.put (pos t.mask h ne)).1.place[k']?=some j:=fun j ⟨i,e⟩=>by
  by_cases q:i<below t.place (pos t.mask h ne)
  ·exact⟨i,by rw[pl,zW _ _ _ b1,if_pos q]; exact e⟩
  ·exact⟨i+1,by rw[pl,zW _ _ _ b1,if_neg (by omega),if_neg (by omega),Nat.add_sub_cancel]; exact e⟩
 refine⟨hb,mk,⟨?_,?_,?_,fun i j e=>?_,T.cov,T.odd,?_,fun k j h' e1 e2=>?_⟩⟩
 ·rw[pl]; exact ziN T.ris hj
 ·show (if has t.dummies (pos t.mask h ne)=true then _ else t.dummies)=#[]
  rw[T.dum]
  rfl
 ·rw[pl,zaX _ _ _ b1]
  show _=(insertAt hs (below t.place (pos t.mask h ne)) h).size;rw[zaX _ _ _ hb,T.size]
 ·rw[pl,zW _ _ _ b1] at e
  rw[mk]
  by_cases q1:i<below t.place (pos t.mask h ne)
  ·rw[if_pos q1] at e; exact T.le _ _ e
  ·rw[if_neg q1] at e
   by_cases q2:i=below t.place (pos t.mask h ne)
   ·rw[if_pos q2] at e; cases e; exact pos_le _ _ _
   ·rw[if_neg q2] at e; exact T.le _ _ e
 ·show (insertAt hs (below t.place (pos t.mask h ne)) h).size<=t.mask
  rw[zaX _ _ _ hb];exact hr
 ·have e1':(insertAt hs (below t.place (pos t.mask h ne)) h)[k]?=some h':=e1
  rw[zW _ _ _ hb] at e1';rw[pl,zW _ _ _ b1] at e2;rw[mk]
  by_cases q1:k<below t.place (pos t.mask h ne)
  ·rw[if_pos q1] at e1' e2
   obtain⟨n,a,b⟩:=T.path k j h' e1' e2;exact⟨n,a,fun m hm'=>occ _ (b m hm')⟩
  ·rw[if_neg q1] at e1' e2
   by_cases q2:k=below t.place (pos t.mask h ne)
   ·rw[if_pos q2] at e1' e2
    cases e1'; cases e2;exact⟨ne,rfl,fun m hm'=>occ _ (hm m hm')⟩
   ·rw[if_neg q2] at e1' e2
    obtain⟨n,a,b⟩:=T.path (k - 1) j h' e1' e2;exact⟨n,a,fun m hm'=>occ _ (b m hm')⟩
end
theorem zes (finger moves:Nat) (led:Bool):Tb (SetTable.fresh finger moves led) #[]:=
 ⟨fun i j a b h=>by simp[SetTable.fresh] at h,rfl,rfl,fun i j h=>by simp[SetTable.fresh] at h,cov7,show 7 % 2=1 from rfl,show 0<=7 from Nat.zero_le _,fun k j h e=>by simp at e⟩
end STb
end
section
namespace STb
open PySem PySem.SetTable
def Own (owner:Array (Option Nat)) (j:Nat):Prop:=∃q,owner[j]?=some (some q)
def stt (mask:Nat) (h:Int):Nat->Nat
 | 0=>0
 | r+1=>stt mask h r+(runEnd mask (lp mask h r).1 - (lp mask h r).1)+1
theorem zhf (mask:Nat) (h:Int) {r R:Nat} (hr:r<=R):stt mask h r<=stt mask h R:=by
 induction hr with
 | refl=>exact Nat.le_refl _
 | step _ ih=>exact Nat.le_trans ih (by show _<=stt mask h _+_+1; omega)
theorem zgi (mask:Nat) (h:Int):∀r,pr mask h (stt mask h r)={ j:=(lp mask h r).1,more:=runEnd mask (lp mask h r).1 - (lp mask h r).1,i:=(lp mask h r).1,perturb:=(lp mask h r).2,dummy:=none }
 | 0=>rfl
 | r+1=>by
  show nxt mask (pr mask h (stt mask h r+(runEnd mask (lp mask h r).1 - (lp mask h r).1)))=_;rw[zbK mask h (zgi mask h r) _ (Nat.le_refl _)];unfold nxt;rw[if_neg (by show ¬ (runEnd mask (lp mask h r).1 - (lp mask h r).1 - (runEnd mask (lp mask h r).1 - (lp mask h r).1) > 0); omega)]
  rfl
theorem zcI {owner:Array (Option Nat)}{mask j:Nat} (hz:owner.size=mask+1) (hj:j<=mask):(owner.getD j (some 0)).isNone=true ↔ ¬ Own owner j:=by
 have hlt:j<owner.size:=by omega
 have e:owner.getD j (some 0)=owner[j]:=by simp[Array.getD,hlt]
 have e2:owner[j]?=some owner[j]:=getElem?_pos owner j hlt;rw[e];constructor
 ·intro h ⟨q,hq⟩
  rw[e2] at hq;rw[Option.some.inj hq] at h;cases h
 ·intro h
  cases c:owner[j] with
  | none=>rfl
  | some q=>exact absurd ⟨q,by rw[e2,c]⟩ h
theorem zfD {mask:Nat}{owner:Array (Option Nat)} (hz:owner.size=mask+1) (h:Int) {ne R:Nat} (he:¬ Own owner (pos mask h ne)) (hm:∀m,m<ne->Own owner (pos mask h m)) (hR:ne<=stt mask h R) :
  ∀(fuel r:Nat),stt mask h r<=ne->R<r+fuel->layClean.free mask owner fuel (lp mask h r).1 (lp mask h r).2=some (pos mask h ne):=by
 intro fuel
 induction fuel with
 | zero=>
  intro r h1 h2;have q:=zhf mask h (r:=R+1) (R:=r) (by omega);have:stt mask h (R+1)=stt mask h R+(runEnd mask (lp mask h R).1 - (lp mask h R).1)+1:=rfl;omega
 | succ fuel ih=>
  intro r hn hr;have walk:=zbK mask h (zgi mask h r);have posk:∀k,k<=runEnd mask (lp mask h r).1 - (lp mask h r).1->pos mask h (stt mask h r+k)=(lp mask h r).1+k:=fun k hk=>by
   unfold pos;rw[walk k hk]
  have hge:(lp mask h r).1<=runEnd mask (lp mask h r).1:=by unfold runEnd; split <;> omega
  have ple:∀k,k<=runEnd mask (lp mask h r).1 - (lp mask h r).1->(lp mask h r).1+k<=mask:=fun k hk=>by rw[<- posk k hk]; exact pos_le _ _ _
  show (match (List.range (runEnd mask (lp mask h r).1+1 - (lp mask h r).1)).find? (fun k=>(owner.getD ((lp mask h r).1+k) (some 0)).isNone) with
   | some k=>some ((lp mask h r).1+k)
   | none=>layClean.free mask owner fuel (leap mask (lp mask h r).1 (lp mask h r).2).1 (leap mask (lp mask h r).1 (lp mask h r).2).2)=_
  by_cases hin:ne<=stt mask h r+(runEnd mask (lp mask h r).1 - (lp mask h r).1)
  ·have ef:(List.range (runEnd mask (lp mask h r).1+1 - (lp mask h r).1)).find? (fun k=>(owner.getD ((lp mask h r).1+k) (some 0)).isNone)=some (ne - stt mask h r):=by
    rw[List.find?_range_eq_some];refine⟨?_,List.mem_range.mpr (by omega),fun k hk=>?_⟩
    ·show (owner.getD ((lp mask h r).1+(ne - stt mask h r)) (some 0)).isNone=true
     rw[zcI hz (ple _ (by omega)),<- posk _ (by omega),show stt mask h r+(ne - stt mask h r)=ne by omega];exact he
    ·have q:¬ (owner.getD ((lp mask h r).1+k) (some 0)).isNone=true:=by
      rw[zcI hz (ple _ (by omega)),<- posk k (by omega)];exact fun z=>z (hm _ (by omega))
     rw[Bool.not_eq_true] at q;rw[q]
     rfl
   rw[ef];dsimp only;rw[<- posk _ (by omega),show stt mask h r+(ne - stt mask h r)=ne by omega]
  ·have ef:(List.range (runEnd mask (lp mask h r).1+1 - (lp mask h r).1)).find? (fun k=>(owner.getD ((lp mask h r).1+k) (some 0)).isNone)=none:=by
    rw[List.find?_eq_none];intro k hk;have hk':=List.mem_range.mp hk;rw[zcI hz (ple _ (by omega)),<- posk k (by omega)];exact fun z=>z (hm _ (by omega))
   rw[ef];dsimp only;refine ih (r+1) ?_ (by omega);show stt mask h r+(runEnd mask (lp mask h r).1 - (lp mask h r).1)+1<=ne;omega
structure Lay (mask:Nat) (hashes:List Int) (owner:Array (Option Nat)) (k:Nat):Prop where
 size:owner.size=mask+1
 all:∀q:Nat,q<k->∃j:Nat,owner[j]?=some (some q)
 back:∀j q:Nat,owner[j]?=some (some q)->q<k
 one:∀(i j q:Nat),owner[i]?=some (some q)->owner[j]?=some (some q)->i=j
 path:∀(j q:Nat) (h:Int),owner[j]?=some (some q)->hashes[q]?=some h->∃n,pos mask h n=j/\∀m,m<n->Own owner (pos mask h m)
theorem Lay.room {mask:Nat}{hashes:List Int}{owner:Array (Option Nat)}{k:Nat} (L:Lay mask hashes owner k) (hk:k<=mask):∃x,x<=mask/\¬ Own owner x:=by
 apply Classical.byContradiction;intro hn;have all:∀x,x<=mask->∃q,q<k/\owner[x]?=some (some q):=fun x hx=>by
  have:Own owner x:=Classical.byContradiction fun q=>hn ⟨x,hx,q⟩;obtain⟨q,e⟩:=this;exact⟨q,L.back x q e,e⟩
 have sub:((List.range (mask+1)).map fun x=>(owner.getD x none).getD 0) ⊆ List.range k:=fun y hy=>by
  obtain⟨x,hx,e⟩:=List.mem_map.mp hy;obtain⟨q,hq,e2⟩:=all x (Nat.lt_succ_iff.mp (List.mem_range.mp hx));rw[Array.getD_eq_getD_getElem?,e2] at e;subst e;exact List.mem_range.mpr hq
 have nd:((List.range (mask+1)).map fun x=>(owner.getD x none).getD 0).Nodup:=by
  refine List.nodup_iff_pairwise_ne.mpr (List.pairwise_map.mpr ?_);refine List.Pairwise.imp_of_mem ?_ (List.nodup_iff_pairwise_ne.mp (List.nodup_range (n:=mask+1)));intro a b ha hb hne e;obtain⟨q,_,e1⟩:=all a (Nat.lt_succ_iff.mp (List.mem_range.mp ha));obtain⟨p,_,e2⟩:=all b (Nat.lt_succ_iff.mp (List.mem_range.mp hb));simp only[Array.getD_eq_getD_getElem?,e1,e2,Option.getD_some] at e;subst e;exact hne (L.one a b q e1 e2)
 have:=nd.length_le_of_subset sub;rw[List.length_map,List.length_range,List.length_range] at this;omega
theorem ziz {owner:Array (Option Nat)}{mask j k:Nat} (hz:owner.size=mask+1) (hj:j<=mask) (i:Nat):(owner.setIfInBounds j (some k))[i]?=if i=j then some (some k) else owner[i]?:=by
 by_cases q:i=j
 ·subst q
  rw[if_pos rfl,Array.getElem?_setIfInBounds_self_of_lt (by omega)]
 ·rw[if_neg q,Array.getElem?_setIfInBounds_ne (Ne.symm q)]
theorem Lay.step {mask:Nat}{hashes:List Int}{owner:Array (Option Nat)}{k:Nat}{h:Int} (hc:Cov mask) (L:Lay mask hashes owner k) (hk:k<=mask) (hh:hashes[k]?=some h) :
  ∃j,layClean.free mask owner (turns mask) (bits h % (mask+1)) (bits h)=some j/\Lay mask hashes (owner.setIfInBounds j (some k)) (k+1):=by
 obtain⟨x,hx,fx⟩:=L.room hk;obtain⟨d,hd,e⟩:=hc (lp mask h 13).1 x (zjJ mask h 13) hx;have eR:pos mask h (stt mask h (13+d))=x:=by
  unfold pos;rw[zgi];show (lp mask h (13+d)).1=x;rw[zik,e]
 obtain⟨ne,h1,h2,h3⟩:=least (P:=fun m=>¬ Own owner (pos mask h m)) (stt mask h (13+d)) (by rw[eR]; exact fx);have hm:∀m,m<ne->Own owner (pos mask h m):=fun m q=>Classical.byContradiction fun z=>h3 m q z;refine⟨pos mask h ne,zfD L.size h h2 hm h1 (turns mask) 0 (Nat.zero_le _) (by unfold turns; omega),?_⟩;have hle:pos mask h ne<=mask:=pos_le _ _ _;have sg:=ziz (k:=k) L.size hle;have own:∀i,Own owner i->Own (owner.setIfInBounds (pos mask h ne) (some k)) i:=fun i ⟨q,e⟩=>by
  by_cases z:i=pos mask h ne
  ·exact⟨k,by rw[sg,if_pos z]⟩
  ·exact⟨q,by rw[sg,if_neg z]; exact e⟩
 refine⟨by rw[Array.size_setIfInBounds]; exact L.size,fun q hq=>?_,fun j q e=>?_,fun i j q e1 e2=>?_,fun j q h' e1 e2=>?_⟩
 ·by_cases z:q=k
  ·exact⟨pos mask h ne,by rw[sg,if_pos rfl,z]⟩
  ·obtain⟨j,ej⟩:=L.all q (by omega)
   refine⟨j,?_⟩;rw[sg,if_neg fun w=>h2 ⟨q,by rw[<- w]; exact ej⟩];exact ej
 ·rw[sg] at e
  by_cases z:j=pos mask h ne
  ·rw[if_pos z] at e; cases e; omega
  ·rw[if_neg z] at e; have:=L.back j q e; omega
 ·rw[sg] at e1 e2
  by_cases z1:i=pos mask h ne
  ·rw[if_pos z1] at e1; cases e1
   by_cases z2:j=pos mask h ne
   ·omega
   ·rw[if_neg z2] at e2; have:=L.back j k e2; omega
  ·rw[if_neg z1] at e1
   by_cases z2:j=pos mask h ne
   ·rw[if_pos z2] at e2; cases e2; have:=L.back i k e1; omega
   ·rw[if_neg z2] at e2; exact L.one i j q e1 e2
 ·rw[sg] at e1
  by_cases z:j=pos mask h ne
  ·rw[if_pos z] at e1; cases e1
   rw[hh] at e2; cases e2;exact⟨ne,z.symm,fun m q=>own _ (hm m q)⟩
  ·rw[if_neg z] at e1
   obtain⟨n,a,b⟩:=L.path j q h' e1 e2;exact⟨n,a,fun m q=>own _ (b m q)⟩
theorem Lay.nil (mask:Nat) (hashes:List Int):Lay mask hashes (Array.replicate (mask+1) none) 0:=by
 have no:∀(j q:Nat),(Array.replicate (mask+1) (none:Option Nat))[j]?=some (some q)->False:=fun j q e=>by
  rw[Array.getElem?_replicate] at e;split at e <;> cases e
 exact⟨by simp,fun q h=>absurd h (Nat.not_lt_zero _),fun j q e=>(no j q e).elim,fun i j q e=>(no i q e).elim,fun j q h e=>(no j q e).elim⟩
theorem zeb {mask:Nat} (hc:Cov mask) (hashes:Array Int) (hk:hashes.size<=mask+1):∃owner,layClean mask hashes=some owner/\Lay mask hashes.toList owner hashes.size:=by
 have go:∀(rest:List Int) (owner:Array (Option Nat)) (k:Nat),Lay mask hashes.toList owner k->hashes.toList.drop k=rest->
   ∃owner',(rest.foldl (fun acc h=>do
    let (owner,k) <- acc
    let j <- layClean.free mask owner (turns mask) (bits h % (mask+1)) (bits h)
    pure (owner.setIfInBounds j (some k),k+1)) (some (owner,k)))=some (owner',k+rest.length)/\Lay mask hashes.toList owner' (k+rest.length):=by
  intro rest
  induction rest with
  | nil=>intro owner k L _; exact⟨owner,rfl,L⟩
  | cons h rest ih=>
   intro owner k L e;have hlt:k<hashes.toList.length:=by
    rcases Nat.lt_or_ge k hashes.toList.length with q | q
    ·exact q
    ·rw[List.drop_eq_nil_of_le q] at e; cases e
   have eh:hashes.toList[k]?=some h:=by
    rw[List.drop_eq_getElem_cons hlt] at e;injection e with e1 _
    rw[List.getElem?_eq_getElem hlt,e1]
   have er:hashes.toList.drop (k+1)=rest:=by
    rw[List.drop_eq_getElem_cons hlt] at e;injection e
   rw[Array.length_toList] at hlt;obtain⟨j,ej,L'⟩:=L.step hc (by omega) eh;obtain⟨o',a,b⟩:=ih (owner.setIfInBounds j (some k)) (k+1) L' er;refine⟨o',?_,?_⟩
   ·rw[List.foldl_cons]
    show List.foldl _ (layClean.free mask owner (turns mask) (bits h % (mask+1)) (bits h) >>= fun j=>pure (owner.setIfInBounds j (some k),k+1)) rest=_;rw[ej];show List.foldl _ (some (owner.setIfInBounds j (some k),k+1)) rest=_;rw[a,List.length_cons,show k+1+rest.length=k+(rest.length+1) by omega]
   ·rw[List.length_cons,show k+(rest.length+1)=k+1+rest.length by omega]
    exact b
 obtain⟨o,a,b⟩:=go hashes.toList _ 0 (Lay.nil mask _) rfl;rw[Nat.zero_add,Array.length_toList] at a b;refine⟨o,?_,b⟩;unfold layClean;rw[<- Array.foldl_toList,a]
 rfl
def zae (owner:Array (Option Nat)) (n:Nat):List (Nat×Nat):=(List.range n).filterMap fun j=>(owner.getD j none).map (j,·)
theorem zag {owner:Array (Option Nat)}{n:Nat}{x:Nat×Nat}:x∈zae owner n ↔ x.1<n/\owner[x.1]?=some (some x.2):=by
 unfold zae;rw[List.mem_filterMap];constructor
 ·rintro⟨j,hj,e⟩
  rw[Option.map_eq_some_iff] at e;obtain⟨q,e1,rfl⟩:=e;refine⟨List.mem_range.mp hj,?_⟩;rw[Array.getD_eq_getD_getElem?] at e1;cases c:owner[j]? with
  | none=>rw[c] at e1; cases e1
  | some v=>rw[c] at e1; simp only[Option.getD_some] at e1; rw[e1]
 ·rintro⟨h1,h2⟩
  refine⟨x.1,List.mem_range.mpr h1,?_⟩;rw[Array.getD_eq_getD_getElem?,h2]
  rfl
theorem zer (owner:Array (Option Nat)) (n:Nat):(zae owner n).Pairwise fun x y=>x.1<y.1:=by
 unfold zae;refine List.Pairwise.filterMap (S:=fun x y:Nat×Nat=>x.1<y.1) _ ?_ (List.pairwise_lt_range (n:=n));intro a a' h b hb b' hb';rw[Option.map_eq_some_iff] at hb hb';obtain⟨_,_,rfl⟩:=hb;obtain⟨_,_,rfl⟩:=hb';exact h
theorem zg3 {mask:Nat}{hashes:List Int}{owner:Array (Option Nat)}{k:Nat} (L:Lay mask hashes owner k):(zae owner (mask+1)).length=k/\((zae owner (mask+1)).map (·.2)).Nodup:=by
 have nd:((zae owner (mask+1)).map (·.2)).Nodup:=by
  refine List.nodup_iff_pairwise_ne.mpr (List.pairwise_map.mpr ?_);refine List.Pairwise.imp_of_mem ?_ (zer owner (mask+1));intro a b ha hb hlt e;have h1:=(zag.mp ha).2;have h2:=(zag.mp hb).2;rw[<- e] at h2;have:=L.one _ _ _ h1 h2;omega
 refine⟨?_,nd⟩;have s1:(zae owner (mask+1)).map (·.2) ⊆ List.range k:=fun q hq=>by
  obtain⟨x,hx,rfl⟩:=List.mem_map.mp hq;exact List.mem_range.mpr (L.back _ _ (zag.mp hx).2)
 have s2:List.range k ⊆ (zae owner (mask+1)).map (·.2):=fun q hq=>by
  obtain⟨j,ej⟩:=L.all q (List.mem_range.mp hq);have hj:j<mask+1:=by rw[<- L.size]; exact (Array.getElem?_eq_some_iff.mp ej).1
  exact List.mem_map.mpr ⟨(j,q),zag.mpr ⟨hj,ej⟩,rfl⟩
 have l1:=nd.length_le_of_subset s1;have l2:=(List.nodup_range (n:=k)).length_le_of_subset s2;rw[List.length_map,List.length_range] at l1;rw[List.length_range,List.length_map] at l2;omega
theorem zgh {mask:Nat} (hc:Cov mask) (ho:mask % 2=1) (finger moves:Nat) (led plain:Bool) (hashes:Array Int) (hk:hashes.size<=mask) :
  ∃t order,laid mask finger moves led plain hashes=some (t,order)/\t.mask=mask/\t.led=led/\t.plain=plain/\order.size=hashes.size/\order.toList.Nodup/\(∀q∈order.toList,q<hashes.size)/\
   Tb t (order.map fun q=>(hashes[q]?).getD 0):=by
 obtain⟨owner,e,L⟩:=zeb hc hashes (by omega);obtain⟨ll,nd⟩:=zg3 L;refine⟨_,_,by unfold laid; rw[e]; exact rfl,rfl,rfl,rfl,?_,?_,?_,?_⟩
 ·show ((zae owner (mask+1)).map (·.2)).toArray.size=_
  rw[List.size_toArray,List.length_map,ll]
 ·exact nd
 ·intro q hq
  obtain⟨x,hx,rfl⟩:=List.mem_map.mp (show q∈(zae owner (mask+1)).map (·.2) from hq);exact L.back _ _ (zag.mp hx).2
 ·have pg:∀i:Nat,(((zae owner (mask+1)).map (·.1)).toArray)[i]?=((zae owner (mask+1))[i]?).map (·.1):=fun i=>by
   rw[List.getElem?_toArray,List.getElem?_map]
  have og:∀i:Nat,(((zae owner (mask+1)).map (·.2)).toArray)[i]?=((zae owner (mask+1))[i]?).map (·.2):=fun i=>by
   rw[List.getElem?_toArray,List.getElem?_map]
  have occ:∀j,Own owner j->∃i:Nat,(((zae owner (mask+1)).map (·.1)).toArray)[i]?=some j:=fun j ⟨q,ej⟩=>by
   have hj:j<mask+1:=by rw[<- L.size]; exact (Array.getElem?_eq_some_iff.mp ej).1
   obtain⟨i,hi,ei⟩:=List.mem_iff_getElem.mp (zag.mpr ⟨hj,ej⟩:(j,q)∈zae owner (mask+1));exact⟨i,by rw[pg,List.getElem?_eq_getElem hi,ei]; rfl⟩
  refine⟨fun i j a b ha hb hij=>?_,rfl,?_,fun i j ej=>?_,hc,ho,?_,fun k j h e1 e2=>?_⟩
  ·have ha':((zae owner (mask+1))[i]?).map (·.1)=some a:=by rw[<- pg]; exact ha
   have hb':((zae owner (mask+1))[j]?).map (·.1)=some b:=by rw[<- pg]; exact hb
   obtain⟨x,ex,rfl⟩:=Option.map_eq_some_iff.mp ha';obtain⟨y,ey,rfl⟩:=Option.map_eq_some_iff.mp hb';obtain⟨hi,rfl⟩:=List.getElem?_eq_some_iff.mp ex;obtain⟨hj,rfl⟩:=List.getElem?_eq_some_iff.mp ey;exact List.pairwise_iff_getElem.mp (zer owner (mask+1)) i j hi hj hij
  ·show ((zae owner (mask+1)).map (·.1)).toArray.size=(Array.map _ ((zae owner (mask+1)).map (·.2)).toArray).size
   rw[Array.size_map,List.size_toArray,List.size_toArray,List.length_map,List.length_map]
  ·have ej':((zae owner (mask+1))[i]?).map (·.1)=some j:=by rw[<- pg]; exact ej
   obtain⟨x,ex,rfl⟩:=Option.map_eq_some_iff.mp ej';exact Nat.lt_succ_iff.mp (zag.mp (List.mem_of_getElem? ex)).1
  ·show (Array.map _ ((zae owner (mask+1)).map (·.2)).toArray).size<=mask
   rw[Array.size_map,List.size_toArray,List.length_map,ll];exact hk
  ·have e2':((zae owner (mask+1))[k]?).map (·.1)=some j:=by rw[<- pg]; exact e2
   obtain⟨x,ex,rfl⟩:=Option.map_eq_some_iff.mp e2';have e1':(Array.map (fun q=>(hashes[q]?).getD 0) ((zae owner (mask+1)).map (·.2)).toArray)[k]?=some h:=e1;rw[Array.getElem?_map,og,ex] at e1';have hx:=(zag.mp (List.mem_of_getElem? ex)).2;have hq:=L.back _ _ hx;have eh:hashes.toList[x.2]?=some h:=by
    rw[Array.getElem?_toList];have:hashes[x.2]?=some hashes[x.2]:=getElem?_pos hashes x.2 hq;simp only[Option.map_some,this,Option.getD_some] at e1';rw[this,Option.some.inj e1']
   obtain⟨n,a,b⟩:=L.path x.1 x.2 h hx eh;exact⟨n,a,fun m hm=>occ _ (b m hm)⟩
end STb
end
section
namespace STb
open PySem PySem.SetTable
section
variable {prog:Program}{w:World}{K:Type} [DecidableEq K] {knd:KeyKind prog w K}{A:Around}{E:Value->Shared->Prop}{s:Shared}
theorem fits_of {t:SetTable}{es:Array (Int×Value)} (T:Tb t (es.map (·.1))):t.fits es.size=true:=by
 have h1:=T.size;have h2:=T.room;rw[Array.size_map] at h1 h2;unfold SetTable.fits SetTable.fill;rw[T.dum,h1];simp;exact h2
theorem zeJ (n:Nat) {v:Value} (h:carriedByValue v=true):ofAClassStatement n v=pure false:=by
 cases v with
 | ref a=>simp[carriedByValue] at h
 | _=>cases n <;> rfl
theorem zgB {ks:List K}{b:Addr}{Q:Bool->Shared->Prop} (hk:IsTupleKey knd s.heap ks b) (h:Q false s):wpAny (model prog w) A (ofAClassStatement 8 (.ref b)) Q E s:=by
 have hT:=hk.typeIs;obtain⟨o,items,n,ho,_,hd,hi⟩:=hk;unfold ofAClassStatement;refine wpAny_bind (wpAny_typeOf hT ?_);show wpAny _ _ ((if ("tuple" == "tuple")=true then pure true else isSubtype (.type "tuple") (.type "tuple")) >>= _) _ _ s;rw[if_pos (by decide)];refine wpAny_bind (wpAny_pure ?_);simp only[Bool.not_true,Bool.false_eq_true,if_false];refine wpAny_bind (wpAny_seqItems ho hd ?_);refine wpAny_bind ?_;show wpAny _ _ (forIn items _ _) _ _ s;rw[<- Array.forIn_toList];refine wpAny_forIn_list _ (fun rest r s'=>r.1=none/\s'=s/\∀v∈rest,carriedByValue v=true) _ ?_ ?_ _ _ ⟨rfl,rfl,hi.byValue⟩
 ·rintro v rest r s' ⟨hr,rfl,hall⟩
  rw[zeJ _ (hall v List.mem_cons_self)];refine wpAny_bind (wpAny_pure ?_);simp only[Bool.false_eq_true,if_false];exact wpAny_pure ⟨rfl,rfl,fun u hu'=>hall u (List.mem_cons_of_mem _ hu')⟩
 ·rintro⟨r1,r2⟩ s' ⟨hr,rfl,_⟩
  simp only at hr;subst hr;exact wpAny_pure h
theorem zfp {ks:List K}{b:Addr}{ys:List Value}{Q:Bool->Shared->Prop} (hk:IsTupleKey knd s.heap ks b) (hy:∀y∈ys,∃k' c,y=.ref c/\IsTupleKey knd s.heap k' c) (h:Q false s) :
  wpAny (model prog w) A (searchCouldBeSeen (.ref b) ys) Q E s:=by
 unfold searchCouldBeSeen;refine wpAny_bind ?_;refine wpAny_forIn_list _ (fun rest r s'=>r.1=none/\s'=s/\∀y∈rest,∃k' c,y=.ref c/\IsTupleKey knd s.heap k' c) _ ?_ ?_ _ _ ⟨rfl,rfl,hy⟩
 ·rintro v rest r s' ⟨hr,rfl,hall⟩
  obtain⟨k',c,rfl,hc⟩:=hall v List.mem_cons_self;have nx:∀u∈rest,∃k' c,u=.ref c/\IsTupleKey knd s'.heap k' c:=fun u hu'=>hall u (List.mem_cons_of_mem _ hu');dsimp only;split
  ·exact wpAny_pure ⟨rfl,rfl,nx⟩
  ·refine wpAny_bind (wpAny_eqIsQuiet_tuple hk ?_)
   simp only[Bool.not_true,Bool.false_eq_true,if_false];refine wpAny_bind (wpAny_eqIsQuiet_tuple hc ?_);simp only[Bool.not_true,Bool.false_eq_true,if_false];refine wpAny_bind (zgB hk ?_);simp only[Bool.false_eq_true,if_false];refine wpAny_bind (zgB hc ?_);simp only[Bool.false_eq_true,if_false];exact wpAny_pure ⟨rfl,rfl,nx⟩
 ·rintro⟨r1,r2⟩ s' ⟨hr,rfl,_⟩
  simp only at hr;subst hr;exact wpAny_pure h
structure TS (knd:KeyKind prog w K) (h:Heap) (S:Addr) (o:Obj) (es:Array (Int×Value)) (ep:Nat) (t:SetTable) (ks:List (List K)) (B:List Addr):Prop where
 at_:h.get? S=some o
 ex:o.ExactSet
 dt:o.data=.set es ep t
 tb:Tb t (es.map (·.1))
 sz:es.size=ks.length
 nd:ks.Nodup
 el:∀e∈es.toList,∃k b,k∈ks/\e=(tupleKeyHash knd k,Value.ref b)/\IsTupleKey knd h k b
 ke:∀k∈ks,∃b,(tupleKeyHash knd k,Value.ref b)∈es.toList/\IsTupleKey knd h k b
 msk:(t.mask=7/\es.size<=4) \/ (t.mask=31/\es.size<=18) \/ (t.mask=127/\es.size<=76) \/ (t.mask=15/\es.size<=8) \/ (t.mask=63/\es.size<=37) \/ (t.mask=255/\es.size<=152)
 ad:∀e∈es.toList,∃b∈B,e.2=Value.ref b
 wk:w.params.followText "set-order"=true \/ (t.led=true/\t.plain=true)
theorem zf9 {B:List Addr}{S:Addr}{o:Obj}{es:Array (Int×Value)}{ep:Nat}{t:SetTable}{ks:List (List K)} (X:TS knd s.heap S o es ep t ks B) (hu:A.units<cLine) {k:List K}{b:Addr} (hk:IsTupleKey knd s.heap k b)
  {ne:Nat} (hne:ne<10*turns t.mask) (he:¬ Occ t (pos t.mask (tupleKeyHash knd k) ne)) (hm:∀m,m<ne->Occ t (pos t.mask (tupleKeyHash knd k) m)) {add:Bool} {Q:SetFound->Shared->Prop}
  (h1:k∈ks->∀r:Option Nat,(add=false->r.isSome=true)->Q (.there r) s) (h2:k∉ks->Q (.free (pos t.mask (tupleKeyHash knd k) ne) false) s) :
  ∀(fuel n:Nat) (stand:Option Probe),ne<n+fuel->n<=ne->stand.getD (t.probeStart (tupleKeyHash knd k))=pr t.mask (tupleKeyHash knd k) n->
   (∀(m i:Nat) (c:Addr),m<n->t.place[i]?=some (pos t.mask (tupleKeyHash knd k) m)->es[i]?=some (tupleKeyHash knd k,Value.ref c)->¬ IsTupleKey knd s.heap k c)->
   wpAny (model prog w) A (setSearchFrom S (.ref b) (tupleKeyHash knd k) add fuel stand) Q E s:=by
 have T:=X.tb;have fit:=fits_of T;have hA:∀i:Nat,(es.map (·.1))[i]?=(es[i]?).map (·.1):=fun i=>Array.getElem?_map ..;intro fuel
 induction fuel with
 | zero=>intro n stand a1 a2 _ _; omega
 | succ fuel ih=>
  intro n stand a1 a2 a3 a4;unfold setSearchFrom;refine wpAny_bind (wpAny_setState_of X.at_ X.dt fit ?_);dsimp only;have gw:t.gaveWay=false:=by
   unfold SetTable.gaveWay;rw[T.odd]
   rfl
  rw[gw];simp only[Bool.false_eq_true,if_false];rw[a3];rcases probe_spec T (hashAt:=fun i=>((es[i]?).map (·.1)).getD 0) hne he hm a2 with ⟨ep1,none_⟩ | ⟨N,i,b1,b2,b3,b4,b5,b6⟩
  ·have ep1':t.probe (fun i=>((es[i]?).map (·.1)).getD 0) (tupleKeyHash knd k) (pr t.mask (tupleKeyHash knd k) n)=some (.empty (pos t.mask (tupleKeyHash knd k) ne) none):=ep1
   show wpAny _ _ (match t.probe (fun i=>((es[i]?).map (·.1)).getD 0) (tupleKeyHash knd k) (pr t.mask (tupleKeyHash knd k) n) with | some met=>_ | _=>_) _ _ s;rw[ep1'];dsimp only;refine wpAny_pure (h2 fun hin=>?_);obtain⟨c,hc1,hc2⟩:=X.ke k hin;obtain⟨i,hi,ei⟩:=List.mem_iff_getElem.mp hc1;have ei':es[i]?=some (tupleKeyHash knd k,.ref c):=by
    rw[<- Array.getElem?_toList,List.getElem?_eq_getElem hi,ei]
   have hlt:i<t.place.size:=by rw[T.size,Array.size_map]; simpa using hi
   have ej:t.place[i]?=some t.place[i]:=getElem?_pos t.place i hlt;obtain⟨N,hN,eN⟩:=zhU T he (k:=i) (by rw[hA,ei']; rfl) ej;rcases Nat.lt_or_ge N n with q | q
   ·exact a4 N i c q (by rw[eN]; exact ej) ei' hc2
   ·exact none_ N i q hN (by rw[eN]; exact ej) (by show ((es[i]?).map (·.1)).getD 0=_; rw[ei']; rfl)
  ·show wpAny _ _ (match t.probe (fun i=>((es[i]?).map (·.1)).getD 0) (tupleKeyHash knd k) (pr t.mask (tupleKeyHash knd k) n) with | some met=>_ | _=>_) _ _ s
   rw[b5];dsimp only;have hi:i<es.size:=by
    have:=(Array.getElem?_eq_some_iff.mp b3).1;rw[T.size,Array.size_map] at this;exact this
   have ei:es[i]?=some es[i]:=getElem?_pos es i hi;obtain⟨k',c,hk',ee,hc⟩:=X.el es[i] (by simp);rw[ee] at ei;have eh:tupleKeyHash knd k'=tupleKeyHash knd k:=by
    have:((es[i]?).map (·.1)).getD 0=tupleKeyHash knd k:=b4;rw[ei] at this;exact this
   rw[eh] at ei;have sm:t.sameMemory t.moves t.mask=some true:=by unfold SetTable.sameMemory; rw[if_pos (by simp)]
   have nxt':k'≠k->wpAny (model prog w) A (setSearchFrom S (.ref b) (tupleKeyHash knd k) add fuel (some (pr t.mask (tupleKeyHash knd k) (N+1)))) Q E s:=fun eq=>by
    refine ih (N+1) _ (by omega) (by omega) rfl fun m i2 c2 q1 q2 q3 q4=>?_;rcases Nat.lt_or_ge m n with z | z
    ·exact a4 m i2 c2 z q2 q3 q4
    ·rcases Nat.lt_or_ge m N with z2 | z2
     ·exact b6 m i2 z z2 q2 (by show ((es[i2]?).map (·.1)).getD 0=_; rw[q3]; rfl)
     ·have:m=N:=by omega
      subst this;have:=T.ris.inj q2 b3;subst this;rw[ei] at q3;cases q3;exact eq (IsTupleKey.inj hc q4)
   cases led:t.led
   all_goals simp only[Bool.not_true,Bool.not_false,Bool.false_eq_true,if_true,if_false]
   ·refine wpAny_bind (zfp hk (fun y hy=>?_) ?_)
    ·obtain⟨e,he',rfl⟩:=List.mem_map.mp hy
     rw[Array.toList_filter] at he';obtain⟨k2,c2,_,e2,h2'⟩:=X.el e (List.mem_filter.mp he').1;exact⟨k2,c2,by rw[e2],h2'⟩
    simp only[Bool.false_eq_true,if_false];rw[ei];refine wpAny_bind (wpAny_holding (wpAny_eqBool_tuple hu hc hk ?_));refine wpAny_bind (wpAny_setState_of X.at_ X.dt fit ?_)
    by_cases eq:k'=k
    ·subst eq
     cases add
     ·simp only[decide_true,Bool.false_and,Bool.false_eq_true,if_false]
      rw[sm];simp only[if_true];rw[zP T b3];dsimp only;rw[ei];refine wpAny_bind (wpAny_isSame_ref_self (wpAny_bind (wpAny_pure ?_)));simp only[if_true];exact wpAny_pure (h1 hk' _ fun _=>rfl)
     ·simp only[decide_true,Bool.and_self,if_true]
      exact wpAny_pure (h1 hk' _ fun z=>by cases z)
    ·rw[decide_eq_false eq]
     simp only[Bool.and_false,Bool.false_eq_true,if_false];rw[sm];simp only[if_true];rw[zP T b3];dsimp only;rw[ei];refine wpAny_bind (wpAny_isSame_ref_self (wpAny_bind (wpAny_pure ?_)));simp only[if_true];exact nxt' eq
   ·rw[ei]
    refine wpAny_bind (wpAny_holding (wpAny_eqBool_tuple hu hc hk ?_));refine wpAny_bind (wpAny_setState_of X.at_ X.dt fit ?_)
    by_cases eq:k'=k
    ·subst eq
     cases add
     ·simp only[decide_true,Bool.false_and,Bool.false_eq_true,if_false]
      rw[sm];simp only[if_true];rw[zP T b3];dsimp only;rw[ei];refine wpAny_bind (wpAny_isSame_ref_self (wpAny_bind (wpAny_pure ?_)));simp only[if_true];exact wpAny_pure (h1 hk' _ fun _=>rfl)
     ·simp only[decide_true,Bool.and_self,if_true]
      exact wpAny_pure (h1 hk' _ fun z=>by cases z)
    ·rw[decide_eq_false eq]
     simp only[Bool.and_false,Bool.false_eq_true,if_false];rw[sm];simp only[if_true];rw[zP T b3];dsimp only;rw[ei];refine wpAny_bind (wpAny_isSame_ref_self (wpAny_bind (wpAny_pure ?_)));simp only[if_true];exact nxt' eq
end
end STb
end
section
namespace STb
open PySem PySem.SetTable
section
variable {prog:Program}{w:World}{K:Type} [DecidableEq K] {knd:KeyKind prog w K}{A:Around}{E:Value->Shared->Prop}{s:Shared}
theorem zau {h h':Heap}{S b:Addr}{k:List K}{o:Obj}{es ep t} (hk:IsTupleKey knd h k b) (ho:h.get? S=some o) (hd:o.data=.set es ep t) (hs:Heap.SameBut S h h'):IsTupleKey knd h' k b:=by
 obtain⟨o',items,n,ho',hc,hd',hi⟩:=hk;have hne:b≠S:=by
  rintro rfl;obtain rfl:o'=o:=Option.some.inj (ho'.symm.trans ho);rw[hd] at hd'; exact nomatch hd'
 exact⟨o',items,n,(hs.2 b hne).trans ho',hc,hd',hi⟩
theorem zjX {ks:List K}{b:Addr}{Q:Bool->Shared->Prop} (hv:∀k v n,knd.is k v=true->hashByValue n v=pure true) (hk:IsTupleKey knd s.heap ks b) (h:Q true s):wpAny (model prog w) A (hashByValue 8 (.ref b)) Q E s:=by
 have hT:=hk.typeIs;obtain⟨o,items,n,ho,_,hd,hi⟩:=hk;unfold hashByValue;refine wpAny_bind (wpAny_specialOf hT F.slot_tuple_hash.lookup ?_);dsimp only;refine wpAny_bind (wpAny_seqItems ho hd ?_);refine wpAny_bind ?_;show wpAny _ _ (forIn items _ _) _ _ s;rw[<- Array.forIn_toList];refine wpAny_forIn_list _ (fun rest r s'=>r.1=none/\s'=s/\∃ks',ItemsAre knd ks' rest) _ ?_ ?_ _ _ ⟨rfl,rfl,ks,hi⟩
 ·rintro v rest r s' ⟨hr,rfl,ks',hi'⟩
  cases hi' with
  | @cons k _ ks'' _ h1 h2=>
   rw[hv k v 7 h1];refine wpAny_bind (wpAny_pure ?_);simp only[Bool.not_true,Bool.false_eq_true,if_false];exact wpAny_pure ⟨rfl,rfl,ks'',h2⟩
 ·rintro⟨r1,r2⟩ s' ⟨hr,rfl,_⟩
  simp only at hr;subst hr;exact wpAny_pure h
theorem zaJ {h:Heap}{S:Addr}{o:Obj}{es:Array (Int×Value)}{ep:Nat}{t:SetTable}{es':Array (Int×Value)}{t':SetTable} (ho:h.get? S=some o) (hd:o.data=.set es ep t) :
  (h.update S (Obj.putSet es' t')).get? S=some { o with data:=.set es' (ep+1) t' }:=by
 have:=Heap.get?_update_self (Obj.putSet es' t') ho (by rw[putSet_of es' t' hd]; rfl);rw[putSet_of es' t' hd] at this;exact this
theorem zfz {α:Type}{es:Array α}:∀{l:List Nat},(∀q∈l,q<es.size)->∃l':List α,l.filterMap (es[·]?)=l'/\l'.length=l.length/\(∀x∈l',x∈es.toList)/\(∀(i q:Nat),l[i]?=some q->l'[i]?=es[q]?)
 | [],_=>⟨[],rfl,rfl,(fun x hx=>by cases hx),(fun i q e=>by cases i <;> simp at e)⟩
 | q::l,h=>by
  obtain⟨l',e1,e2,e3,e4⟩:=zfz (l:=l) fun x hx=>h x (List.mem_cons_of_mem _ hx);have hq:=h q List.mem_cons_self;refine⟨es[q]::l',?_,by rw[List.length_cons,List.length_cons,e2],fun x hx=>?_,fun i p e=>?_⟩
  ·rw[List.filterMap_cons,getElem?_pos es q hq,e1]
  ·rcases List.mem_cons.mp hx with rfl | hx
   ·simp
   ·exact e3 x hx
  ·cases i with
   | zero=>simp at e; subst e; simp[getElem?_pos es q hq]
   | succ i=>simp at e ⊢; exact e4 i p e
theorem zhG {B:List Addr}{S:Addr}{o:Obj}{es:Array (Int×Value)}{ep:Nat}{t:SetTable}{ks:List (List K)}{want m2:Nat} (hat:s.heap.get? S=some o) (hex:o.ExactSet) (hd:o.data=.set es ep t) (T:Tb t (es.map (·.1)))
  (hsz:es.size=ks.length) (nd:ks.Nodup) (ad:∀e∈es.toList,∃b∈B,e.2=Value.ref b) (el:∀e∈es.toList,∃k b,k∈ks/\e=(tupleKeyHash knd k,Value.ref b)/\IsTupleKey knd s.heap k b) (ke:∀k∈ks,∃b,(tupleKeyHash knd k,Value.ref b)∈es.toList/\IsTupleKey knd s.heap k b)
  (hw:SetTable.sizeAbove want - 1=m2) (hw2:SetTable.sizeAbove want<=sizeLine) (hc:Cov m2) (ho:m2 % 2=1) (hr:es.size<=m2) (hz:es.size<=1000)
  (hmk:(m2=7/\es.size<=4) \/ (m2=31/\es.size<=18) \/ (m2=127/\es.size<=76) \/ (m2=15/\es.size<=8) \/ (m2=63/\es.size<=37) \/ (m2=255/\es.size<=152)) (wk:w.params.followText "set-order"=true \/ (t.led=true/\t.plain=true)) {Q:Unit->Shared->Prop}
  (h:∀h' o' es' ep' t',TS knd h' S o' es' ep' t' ks B->Heap.SameBut S s.heap h'->Q () { s with heap:=h' }):wpAny (model prog w) A (setRelay S want) Q E s:=by
 have fit:=fits_of T;unfold setRelay;refine wpAny_bind (wpAny_setState_of hat hd fit ?_);dsimp only;rw[if_neg (Nat.not_lt.mpr hw2)];obtain⟨t2,order,e1,e2,e3,e4,e5,e6,e7,e8⟩:=zgh hc ho t.finger (t.movedTo m2) t.led t.plain (es.map (·.1)) (by rw[Array.size_map]; exact hr);have er:t.relaid (es.map (·.1)) want=some (t2,order):=by
  unfold SetTable.relaid;rw[hw];exact e1
 rw[Array.size_map] at e5 e7;obtain⟨l',f1,f2,f3,f4⟩:=zfz (es:=es) e7;have eo:order.filterMap (es[·]?)=l'.toArray:=by
  apply Array.toList_inj.mp;rw[Array.toList_filterMap,f1]
 have hl:l'.length=es.size:=by rw[f2,Array.length_toList,e5]
 rw[er];refine wpAny_bind ?_;show wpAny _ _ (ite (((order.filterMap (es[·]?)).size != es.size)=true) _ _) _ _ _;rw[if_neg (by rw[eo,List.size_toArray,hl]; simp),eo];refine wpAny_pure ?_;dsimp only;have hes:(l'.toArray.map (·.1))=order.map fun q=>((es.map (·.1))[q]?).getD 0:=by
  apply Array.ext_getElem?;intro i;rw[Array.getElem?_map,Array.getElem?_map,List.getElem?_toArray];cases q:order[i]? with
  | none=>
   have:order.toList.length<=i:=by rw[Array.length_toList]; exact Array.getElem?_eq_none_iff.mp q
   rw[List.getElem?_eq_none (by omega)]
   rfl
  | some p=>
   have e:=f4 i p (by rw[Array.getElem?_toList]; exact q);have hp:=e7 p (by rw[<- Array.getElem?_toList] at q; exact List.mem_of_getElem? q);rw[e,getElem?_pos es p hp];simp[hp]
 have T2:Tb t2 (l'.toArray.map (·.1)):=by rw[hes]; exact e8
 have hne:∀q,q<es.size->q∈order.toList:=fun q hq=>Classical.byContradiction fun z=>by
  have nd2:(q::order.toList).Nodup:=List.nodup_cons.mpr ⟨z,e6⟩;have sub:(q::order.toList) ⊆ List.range es.size:=fun x hx=>by
   rcases List.mem_cons.mp hx with rfl | hx
   ·exact List.mem_range.mpr hq
   ·exact List.mem_range.mpr (e7 x hx)
  have:=nd2.length_le_of_subset sub;rw[List.length_cons,Array.length_toList,e5,List.length_range] at this;omega
 refine wpAny_storeSet_of hat hd ?_ (by rw[List.size_toArray,hl,sizeLine_eq]; omega);refine h _ { o with data:=.set l'.toArray (ep+1) t2 } l'.toArray (ep+1) t2 ?_ (Heap.SameBut.update ..);have sb:Heap.SameBut S s.heap (s.heap.update S (Obj.putSet l'.toArray t2)):=Heap.SameBut.update ..;refine⟨zaJ hat hd,hex,rfl,T2,by rw[List.size_toArray,hl]; exact hsz,nd,fun e he=>?_,fun k hk=>?_,?_,fun e he=>ad e (f3 e he),by rw[e3,e4]; exact wk⟩
 ·obtain⟨k,b,a1,a2,a3⟩:=el e (f3 e he)
  exact⟨k,b,a1,a2,zau a3 hat hd sb⟩
 ·obtain⟨b,a1,a2⟩:=ke k hk
  refine⟨b,?_,zau a2 hat hd sb⟩;obtain⟨q,hq,eq⟩:=List.mem_iff_getElem.mp a1;rw[Array.length_toList] at hq;obtain⟨i,hi,ei⟩:=List.mem_iff_getElem.mp (hne q hq);have e:=f4 i q (by rw[List.getElem?_eq_getElem hi,ei]);refine List.mem_of_getElem? (i:=i) ?_;rw[e,<- eq];simp[hq]
 ·rw[e2,List.size_toArray,hl]
  exact hmk
theorem ins_map {α β:Type} (f:α->β) (xs:Array α) (p:Nat) (x:α) (hp:p<=xs.size):(insertAt xs p x).map f=insertAt (xs.map f) p (f x):=by
 apply Array.ext_getElem?;intro i;rw[Array.getElem?_map,zW _ _ _ hp,zW _ _ _ (by rw[Array.size_map]; exact hp),Array.getElem?_map,Array.getElem?_map]
 by_cases h1:i<p
 ·rw[if_pos h1,if_pos h1]
 ·rw[if_neg h1,if_neg h1]
  by_cases h2:i=p
  ·rw[if_pos h2,if_pos h2]; rfl
  ·rw[if_neg h2,if_neg h2]
theorem ins_mem {α:Type}{xs:Array α}{p:Nat}{x y:α} (hp:p<=xs.size):y∈(insertAt xs p x).toList ↔ y=x \/ y∈xs.toList:=by
 constructor
 ·intro h
  obtain⟨i,hi,e⟩:=List.mem_iff_getElem.mp h;have e2:(insertAt xs p x)[i]?=some y:=by rw[<- Array.getElem?_toList,List.getElem?_eq_getElem hi,e]
  rw[zW _ _ _ hp] at e2
  by_cases h1:i<p
  ·rw[if_pos h1,<- Array.getElem?_toList] at e2; exact .inr (List.mem_of_getElem? e2)
  ·rw[if_neg h1] at e2
   by_cases h2:i=p
   ·rw[if_pos h2] at e2; exact .inl (Option.some.inj e2).symm
   ·rw[if_neg h2,<- Array.getElem?_toList] at e2; exact .inr (List.mem_of_getElem? e2)
 ·rintro (rfl | h)
  ·refine List.mem_of_getElem? (i:=p) ?_
   rw[Array.getElem?_toList,zW _ _ _ hp,if_neg (Nat.lt_irrefl _),if_pos rfl]
  ·obtain⟨i,hi,e⟩:=List.mem_iff_getElem.mp h
   have e2:xs[i]?=some y:=by rw[<- Array.getElem?_toList,List.getElem?_eq_getElem hi,e]
   by_cases h1:i<p
   ·refine List.mem_of_getElem? (i:=i) ?_
    rw[Array.getElem?_toList,zW _ _ _ hp,if_pos h1]; exact e2
   ·refine List.mem_of_getElem? (i:=i+1) ?_
    rw[Array.getElem?_toList,zW _ _ _ hp,if_neg (by omega),if_neg (by omega),Nat.add_sub_cancel]; exact e2
theorem ziK {B:List Addr}{S:Addr}{o:Obj}{es:Array (Int×Value)}{ep:Nat}{t:SetTable}{ks:List (List K)} (X:TS knd s.heap S o es ep t ks B) (hu:A.units<cLine) (hv:∀k v n,knd.is k v=true->hashByValue n v=pure true)
  {k:List K} {b:Addr} (hk:IsTupleKey knd s.heap k b) (hbB:b∈B) (hn:ks.length<60) {Q:Bool->Shared->Prop}
  (h:∀(r:Bool) h' o' es' ep' t',TS knd h' S o' es' ep' t' (if k∈ks then ks else ks++[k]) B->Heap.SameBut S s.heap h'->Q r { s with heap:=h' }):wpAny (model prog w) A (setAddHashed S (.ref b) (tupleKeyHash knd k)) Q E s:=by
 unfold setAddHashed;refine wpAny_holding ?_;have T:=X.tb;have fit:=fits_of T;have X':TS knd s.heap S o es ep t ks B:=X;unfold setAddHashedIn;refine wpAny_bind (wpAny_setState_of (s:=s) X.at_ X.dt fit ?_);dsimp only;have nb:byScan (.ref b) es=false:=rfl;rw[nb];simp only[Bool.false_eq_true,if_false];obtain⟨ne,hne,he,hm⟩:=zcm T (tupleKeyHash knd k);refine wpAny_bind ?_;unfold setSearch;refine zf9 (s:=s) X' hu hk hne he hm (fun hin r0 _=>?_) (fun hout=>?_) 100000 0 none ?_ (Nat.zero_le _) rfl (fun m i c hm'=>absurd hm' (Nat.not_lt_zero _))
 ·dsimp only
  refine wpAny_pure (h false s.heap o es ep t ?_ (Heap.SameBut.refl ..));rw[if_pos hin];exact X
 ·dsimp only
  refine wpAny_bind (wpAny_setState_of (s:=s) X.at_ X.dt fit ?_);dsimp only;have hroom:(es.map (·.1)).size+1<=t.mask:=by
   rw[Array.size_map];rcases X.msk with ⟨a,b⟩ | ⟨a,b⟩ | ⟨a,b⟩ | ⟨a,b⟩ | ⟨a,b⟩ | ⟨a,b⟩ <;> omega
  obtain⟨p1,p2,p3⟩:=zhZ T he hm hroom;rw[Array.size_map] at p1;obtain⟨t1,p,eput⟩:∃t1 p,t.put (pos t.mask (tupleKeyHash knd k) ne)=(t1,p):=⟨_,_,rfl⟩;rw[eput] at p1 p2 p3 ⊢;dsimp only at p1 p2 p3 ⊢;have hnin:k∉ks:=hout;have hsz2:(insertAt es p (tupleKeyHash knd k,Value.ref b)).size=es.size+1:=zaX _ _ _ p1;have hlen:=X.sz;have hle:es.size<60:=by omega
  have hst:∀t2:SetTable,Tb t2 (insertAt (es.map (·.1)) p (tupleKeyHash knd k))->t2.mask=t.mask->wpAny (model prog w) A (storeSet S (insertAt es p (tupleKeyHash knd k,Value.ref b)) t2)
    (fun _ s'=>∃h',s'={ s with heap:=h' }/\h'.get? S=some { o with data:=.set (insertAt es p (tupleKeyHash knd k,Value.ref b)) (ep+1) t2 }/\Heap.SameBut S s.heap h') E s:=fun t2 T2 m2=>
   wpAny_storeSet_of (s:=s) X.at_ X.dt ⟨_,rfl,zaJ X.at_ X.dt,Heap.SameBut.update ..⟩ (by rw[hsz2,sizeLine_eq]; omega)
  have emap:(insertAt es p (tupleKeyHash knd k,Value.ref b)).map (·.1)=insertAt (es.map (·.1)) p (tupleKeyHash knd k):=ins_map (·.1) es p _ p1;have knd2:(ks++[k]).Nodup:=by
   rw[List.nodup_append];refine⟨X.nd,by simp,fun x hx y hy=>?_⟩;rw[List.mem_singleton.mp hy];exact fun z=>hnin (z ▸ hx)
  have els:∀h',Heap.SameBut S s.heap h'->∀e∈(insertAt es p (tupleKeyHash knd k,Value.ref b)).toList,∃k' b',k'∈ks++[k]/\e=(tupleKeyHash knd k',Value.ref b')/\IsTupleKey knd h' k' b':=fun h' hsb e he=>by
   rcases (ins_mem p1).mp he with rfl | he
   ·exact⟨k,b,by simp,rfl,zau hk X.at_ X.dt hsb⟩
   ·obtain⟨k',b',a1,a2,a3⟩:=X.el e he
    exact⟨k',b',List.mem_append_left _ a1,a2,zau a3 X.at_ X.dt hsb⟩
  have kes:∀h',Heap.SameBut S s.heap h'->∀k'∈ks++[k],∃b',(tupleKeyHash knd k',Value.ref b')∈(insertAt es p (tupleKeyHash knd k,Value.ref b)).toList/\IsTupleKey knd h' k' b':=fun h' hsb k' hk'=>by
   rcases List.mem_append.mp hk' with hk' | hk'
   ·obtain⟨b',a1,a2⟩:=X.ke k' hk'
    exact⟨b',(ins_mem p1).mpr (.inr a1),zau a2 X.at_ X.dt hsb⟩
   ·rw[List.mem_singleton.mp hk']
    exact⟨b,(ins_mem p1).mpr (.inl rfl),zau hk X.at_ X.dt hsb⟩
  have ads:∀e∈(insertAt es p (tupleKeyHash knd k,Value.ref b)).toList,∃b'∈B,e.2=Value.ref b':=fun e he=>by
   rcases (ins_mem p1).mp he with rfl | he
   ·exact⟨b,hbB,rfl⟩
   ·exact X.ad e he
  have hlast:∀(t2:SetTable) (h':Heap),Tb t2 (insertAt (es.map (·.1)) p (tupleKeyHash knd k))->t2.mask=t.mask->(w.params.followText "set-order"=true \/ (t2.led=true/\t2.plain=true))->h'.get? S=some { o with data:=.set (insertAt es p (tupleKeyHash knd k,Value.ref b)) (ep+1) t2 }->Heap.SameBut S s.heap h'->
    wpAny (model prog w) A (if (!false && t2.tooFull)=true then (setRelay S (SetTable.grown (es.size+1)) >>= fun _=>pure true) else pure true) Q E { s with heap:=h' }:=fun t2 h' T2 m2 wk2 hg hsb=>by
   have T2':Tb t2 ((insertAt es p (tupleKeyHash knd k,Value.ref b)).map (·.1)):=by rw[emap]; exact T2
   have fl:t2.fill=es.size+1:=by
    unfold SetTable.fill;rw[T2'.dum,T2'.size,Array.size_map,hsz2]
    rfl
   have tf:t2.tooFull=decide ((es.size+1)*5 ≥ t.mask*3):=by unfold SetTable.tooFull; rw[fl,m2]
   have lk:es.size+1=(ks++[k]).length:=by rw[List.length_append,hlen]; rfl
   have stay:((es.size+1)*5<t.mask*3)->((t2.mask=7/\es.size+1<=4) \/ (t2.mask=31/\es.size+1<=18) \/ (t2.mask=127/\es.size+1<=76) \/ (t2.mask=15/\es.size+1<=8) \/ (t2.mask=63/\es.size+1<=37) \/ (t2.mask=255/\es.size+1<=152))->wpAny (model prog w) A (if (!false && t2.tooFull)=true then (setRelay S (SetTable.grown (es.size+1)) >>= fun _=>pure true) else pure true) Q E { s with heap:=h' }:=fun q mk=>by
    rw[tf,decide_eq_false (by omega)];simp only[Bool.and_false,Bool.false_eq_true,if_false];refine wpAny_pure (h true h' { o with data:=.set (insertAt es p (tupleKeyHash knd k,Value.ref b)) (ep+1) t2 } (insertAt es p (tupleKeyHash knd k,Value.ref b)) (ep+1) t2 ?_ hsb);rw[if_neg hnin];exact⟨hg,X.ex,rfl,T2',by rw[hsz2]; exact lk,knd2,els h' hsb,kes h' hsb,by rw[hsz2]; exact mk,ads,wk2⟩
   have grow:∀m3 n,es.size+1=n->((es.size+1)*5 ≥ t.mask*3)->SetTable.sizeAbove (SetTable.grown n) - 1=m3->SetTable.sizeAbove (SetTable.grown n)<=1000->Cov m3->m3 % 2=1->es.size+1<=m3->((m3=7/\es.size+1<=4) \/ (m3=31/\es.size+1<=18) \/ (m3=127/\es.size+1<=76) \/ (m3=15/\es.size+1<=8) \/ (m3=63/\es.size+1<=37) \/ (m3=255/\es.size+1<=152))->
     wpAny (model prog w) A (if (!false && t2.tooFull)=true then (setRelay S (SetTable.grown (es.size+1)) >>= fun _=>pure true) else pure true) Q E { s with heap:=h' }:=fun m3 n en q w1 w2 c1 c2 c3 mk=>by
    rw[tf,decide_eq_true q];simp only[Bool.not_false,Bool.and_self,if_true];subst en;refine wpAny_bind (zhG (s:={ s with heap:=h' }) (ks:=ks++[k]) hg X.ex rfl T2' (by rw[hsz2]; exact lk) knd2 ads (els h' hsb) (kes h' hsb) w1 (by rw[sizeLine_eq]; omega) c1 c2 (by rw[hsz2]; exact c3) (by rw[hsz2]; omega) (by rw[hsz2]; exact mk) wk2 fun h'' o'' es'' ep'' t'' X'' hsb2=>?_);refine wpAny_pure (h true h'' o'' es'' ep'' t'' ?_ (hsb.trans hsb2));rw[if_neg hnin];exact X''
   rcases X.msk with ⟨a,c⟩ | ⟨a,c⟩ | ⟨a,c⟩ | ⟨a,c⟩ | ⟨a,c⟩ | ⟨a,c⟩
   ·by_cases q:es.size+1<=4
    ·exact stay (by omega) (.inl ⟨by omega,q⟩)
    ·exact grow 31 5 (by omega) (by omega) (by decide +kernel) (by decide +kernel) cov31 rfl (by omega) (.inr (.inl ⟨rfl,by omega⟩))
   ·by_cases q:es.size+1<=18
    ·exact stay (by omega) (.inr (.inl ⟨by omega,q⟩))
    ·exact grow 127 19 (by omega) (by omega) (by decide +kernel) (by decide +kernel) cov127 rfl (by omega) (.inr (.inr (.inl ⟨rfl,by omega⟩)))
   ·exact stay (by omega) (.inr (.inr (.inl ⟨by omega,by omega⟩)))
   ·by_cases q:es.size+1<=8
    ·exact stay (by omega) (.inr (.inr (.inr (.inl ⟨by omega,q⟩))))
    ·exact grow 63 9 (by omega) (by omega) (by decide +kernel) (by decide +kernel) cov63 rfl (by omega) (.inr (.inr (.inr (.inr (.inl ⟨rfl,by omega⟩)))))
   ·by_cases q:es.size+1<=37
    ·exact stay (by omega) (.inr (.inr (.inr (.inr (.inl ⟨by omega,q⟩)))))
    ·exact grow 255 38 (by omega) (by omega) (by decide +kernel) (by decide +kernel) cov255 rfl (by omega) (.inr (.inr (.inr (.inr (.inr ⟨rfl,by omega⟩)))))
   ·exact stay (by omega) (.inr (.inr (.inr (.inr (.inr ⟨by omega,by omega⟩)))))
  have wk1:w.params.followText "set-order"=true \/ (t1.led=true/\t1.plain=true):=by
   have e1:t1=(t.put (pos t.mask (tupleKeyHash knd k) ne)).1:=by rw[eput]
   have e2:t1.led=t.led:=by rw[e1]; rfl
   have e3:t1.plain=t.plain:=by rw[e1]; rfl
   rw[e2,e3];exact X.wk
  cases hpl:t1.plain with
  | true=>
   simp only[if_true];refine wpAny_bind (zjX (s:=s) hv hk ?_);simp only[if_true];refine wpAny_bind (wpAny_mono (hst t1 p3 p2) (fun _ s' hs'=>?_) fun _ _ e=>e);obtain⟨h',rfl,g1,g2⟩:=hs';exact hlast t1 h' p3 p2 wk1 g1 g2
  | false=>
   simp only[Bool.false_eq_true,if_false];refine wpAny_bind (wpAny_pure ?_);simp only[if_true];refine wpAny_bind (wpAny_mono (hst t1 p3 p2) (fun _ s' hs'=>?_) fun _ _ e=>e);obtain⟨h',rfl,g1,g2⟩:=hs';exact hlast t1 h' p3 p2 wk1 g1 g2
 ·have:t.mask<=255:=by rcases X.msk with ⟨a,_⟩ | ⟨a,_⟩ | ⟨a,_⟩ | ⟨a,_⟩ | ⟨a,_⟩ | ⟨a,_⟩ <;> omega
  unfold turns at hne;omega
theorem zjS {B:List Addr}{S:Addr}{o:Obj}{es:Array (Int×Value)}{ep:Nat}{t:SetTable}{ks:List (List K)} (X:TS knd s.heap S o es ep t ks B) (hu:A.units<cLine) (hv:∀k v n,knd.is k v=true->hashByValue n v=pure true)
  {k:List K} {b:Addr} (hk:IsTupleKey knd s.heap k b) (hbB:b∈B) (hn:ks.length<60) {Q:Bool->Shared->Prop}
  (h:∀(r:Bool) h' o' es' ep' t',TS knd h' S o' es' ep' t' (if k∈ks then ks else ks++[k]) B->Heap.SameBut S s.heap h'->Q r { s with heap:=h',toks:=s.toks+(k.length+1) }):wpAny (model prog w) A (setAdd S (.ref b)) Q E s:=by
 unfold setAdd;exact wpAny_holding (wpAny_bind (wpAny_pyHash_tuple hu hk (ziK (s:={ s with toks:=s.toks+(k.length+1) }) X hu hv hk hbB hn h)))
end
end STb
end
section
namespace STb
def dd {α:Type} [DecidableEq α] (l:List α):List α:=l.foldl (fun acc x=>if x∈acc then acc else acc++[x]) []
theorem zbl {α:Type} [DecidableEq α] (l:List α) (x:α):dd (l++[x])=if x∈dd l then dd l else dd l++[x]:=by unfold dd; rw[List.foldl_append]; rfl
theorem zaM {α:Type} [DecidableEq α] (l:List α):(dd l).length<=l.length:=by
 have:∀(l acc:List α),(l.foldl (fun acc x=>if x∈acc then acc else acc++[x]) acc).length<=acc.length+l.length:=by
  intro l
  induction l with
  | nil=>intro acc; simp
  | cons x l ih=>
   intro acc;rw[List.foldl_cons];refine Nat.le_trans (ih _) ?_;split
   ·rw[List.length_cons]; omega
   ·rw[List.length_append,List.length_cons,List.length_cons,List.length_nil]; omega
 simpa[dd] using this l []
theorem za4 {α:Type} [DecidableEq α] (l:List α) (x:α):x∈dd l ↔ x∈l:=by
 have:∀(l acc:List α),x∈(l.foldl (fun acc x=>if x∈acc then acc else acc++[x]) acc) ↔ x∈acc \/ x∈l:=by
  intro l
  induction l with
  | nil=>intro acc; simp
  | cons y l ih=>
   intro acc;rw[List.foldl_cons,ih]
   by_cases h:y∈acc
   ·rw[if_pos h,List.mem_cons]
    constructor
    ·rintro (q | q)
     ·exact .inl q
     ·exact .inr (.inr q)
    ·rintro (q | q | q)
     ·exact .inl q
     ·subst q; exact .inl h
     ·exact .inr q
   ·rw[if_neg h,List.mem_append,List.mem_singleton,List.mem_cons]
    constructor
    ·rintro ((q | q) | q)
     ·exact .inl q
     ·exact .inr (.inl q)
     ·exact .inr (.inr q)
    ·rintro (q | q | q)
     ·exact .inl (.inl q)
     ·exact .inl (.inr q)
     ·exact .inr q
 simpa[dd] using this l []
theorem zcP {α:Type} [DecidableEq α] (l:List α):(dd l).Nodup:=by
 have:∀(l acc:List α),acc.Nodup->(l.foldl (fun acc x=>if x∈acc then acc else acc++[x]) acc).Nodup:=by
  intro l
  induction l with
  | nil=>intro acc h; exact h
  | cons y l ih=>
   intro acc h;rw[List.foldl_cons]
   by_cases q:y∈acc
   ·rw[if_pos q]; exact ih acc h
   ·rw[if_neg q]
    refine ih _ ?_;rw[List.nodup_append];refine⟨h,by simp,fun a ha b hb e=>?_⟩;rw[List.mem_singleton] at hb;subst hb; subst e; exact q ha
 exact this l [] List.nodup_nil
theorem zcw {α:Type} [DecidableEq α] (l m:List α):(dd (l++m)).length<=(dd l).length+m.length:=by
 have:∀(m acc:List α),(m.foldl (fun acc x=>if x∈acc then acc else acc++[x]) acc).length<=acc.length+m.length:=by
  intro m
  induction m with
  | nil=>intro acc; simp
  | cons x l ih=>
   intro acc;rw[List.foldl_cons];refine Nat.le_trans (ih _) ?_;split
   ·rw[List.length_cons]; omega
   ·rw[List.length_append,List.length_cons,List.length_cons,List.length_nil]; omega
 unfold dd;rw[List.foldl_append];exact this m _
theorem zeE {α:Type} [DecidableEq α] (l:List α) (h:∀(k:Nat) x,l[k]?=some x->x∉l.take k):dd l=l:=by
 have:∀k,k<=l.length->dd (l.take k)=l.take k:=by
  intro k
  induction k with
  | zero=>intro _; rfl
  | succ k ih=>
   intro hk;have hx:l[k]?=some l[k]:=List.getElem?_eq_getElem (by omega);rw[List.take_add_one,hx];show dd (l.take k++[l[k]])=_;rw[zbl,ih (by omega),if_neg (h k _ hx)]
   rfl
 have q:=this l.length (Nat.le_refl _);rw[List.take_of_length_le (Nat.le_refl _)] at q;exact q
theorem zhu {α:Type} [DecidableEq α] (l:List α) {k:Nat}{x:α} (h:l[k]?=some x) (hx:x∈l.take k):(dd l).length<l.length:=by
 have hk:k<l.length:=(List.getElem?_eq_some_iff.mp h).1;have e:l=(l.take k++[x])++l.drop (k+1):=by
  have:=List.take_append_drop (k+1) l;rw[List.take_add_one,h] at this;exact this.symm
 have h1:=zcw (l.take k++[x]) (l.drop (k+1));rw[<- e,zbl,if_pos ((za4 _ _).mpr hx)] at h1;have h2:=zaM (l.take k);rw[List.length_take] at h2;rw[List.length_drop] at h1;omega
theorem zjK {α:Type} [DecidableEq α] (l:List α):(dd l).length<l.length ↔ ∃(k:Nat) (x:α),l[k]?=some x/\x∈l.take k:=by
 constructor
 ·intro h
  apply Classical.byContradiction;intro n;have:=zeE l fun k x e hx=>n ⟨k,x,e,hx⟩;rw[this] at h;exact Nat.lt_irrefl _ h
 ·rintro⟨k,x,e,hx⟩
  exact zhu l e hx
end STb
end
section
set_option maxHeartbeats 3200000
namespace STb
open PySem PySem.SetTable PyProof.Rows
section
variable {prog:Program}{w:World}{K:Type} [DecidableEq K] {knd:KeyKind prog w K}{A:Around}{R:Result->Shared->Prop}{I:Addr}{fp wr:List Addr}{G:Array GenState->Array GenState->Prop}{n:Nat}{P:Nat->Value->Prop}{St:Nat->Shared->Prop}
theorem TS.moved {B:List Addr}{h h':Heap}{S:Addr}{o:Obj}{es:Array (Int×Value)}{ep:Nat}{t:SetTable}{ks:List (List K)} (X:TS knd h S o es ep t ks B) (hS:h'.get? S=some o) (hk:∀k b,IsTupleKey knd h k b->IsTupleKey knd h' k b):TS knd h' S o es ep t ks B:=
 ⟨hS,X.ex,X.dt,X.tb,X.sz,X.nd,fun e he=>let ⟨k,b,a1,a2,a3⟩:=X.el e he; ⟨k,b,a1,a2,hk k b a3⟩,fun k hk'=>let ⟨b,a1,a2⟩:=X.ke k hk'; ⟨b,a1,hk k b a2⟩,X.msk,X.ad,X.wk⟩
theorem zhA {h h':Heap}{k:List K}{b:Addr} (hk:IsTupleKey knd h k b) (e:∀o,h.get? b=some o->h'.get? b=some o):IsTupleKey knd h' k b:=by
 obtain⟨o,items,n,ho,r⟩:=hk;exact⟨o,items,n,e o ho,r⟩
theorem zgV {B:List Addr} (W:WalksS prog w A.in1 I fp wr G n P St) (hu:A.in1.units<cLine) (hv:∀k v n,knd.is k v=true->hashByValue n v=pure true) (S:Addr) (hSf:S∉fp) (vals:List (List K)) (adr:Nat->Addr) (hn:vals.length=n) (hB:∀i,i<n->adr i∈B) (hz:n<=59)
  (hval:∀i v,P i v->v=.ref (adr i)) (hna:∀b o,(∃items m,o.cls=Value.type "tuple"/\o.data=.seq items m)->∀s i,St i s->s.heap.get? b=some o->b∉wr) :
  ∀(k i:Nat) (s:Shared),n - i=k->i<=n->St i s->(∃o es ep t,TS knd s.heap S o es ep t (dd (vals.take i)) B)->(∀(j:Nat) (x:List K),vals[j]?=some x->IsTupleKey knd s.heap x (adr j))->
   (∀s',Moved (S::wr) G s s'->(∃o es ep t,TS knd s'.heap S o es ep t (dd vals) B)->R (.ok (.ret .none)) s')->codeAny (model prog w) A (.builtin "set.update.loop" ⟨[.ref S,.ref I],[]⟩) R s:=by
 have hSw:S∉wr:=fun h=>hSf (W.sub _ h);have hsub:∀b∈wr,b∈S::wr:=fun b hb=>List.mem_cons_of_mem _ hb;have kmove:∀{i:Nat} {s s':Shared} {x:List K} {b:Addr},St i s->Moved wr G s s'->IsTupleKey knd s.heap x b->IsTupleKey knd s'.heap x b:=fun {i s s' x b} hst hm hk=>by
  obtain⟨o,items,m,ho,hc,hd,hi⟩:=id hk;exact⟨o,items,m,hm.heap b o (hna b o ⟨items,m,hc,hd⟩ s i hst ho) ho,hc,hd,hi⟩
 intro k
 induction k with
 | zero=>
  intro i s hk hi hst hS hT hR;have hin:i=n:=by omega
  subst hin;refine codeAny_builtin F.entry_set_update_loop ?_;rw[Around.under_plainId F.plain_set_update_loop _];show wpAny _ A.in1 (pyNext (.ref I) >>= _) _ _ s;refine wpAny_bind (W.done s _ _ hst fun s' hm=>?_);show wpAny _ A.in1 (ret Value.none) _ _ s';refine wpAny_pure (hR s' (hm.mono hsub) ?_);obtain⟨o,es,ep,t,X⟩:=hS;rw[List.take_of_length_le (by omega)] at X;exact⟨o,es,ep,t,X.moved (hm.heap S _ hSw X.at_) fun k b hk=>kmove hst hm hk⟩
 | succ k ih=>
  intro i s hk hi hst hS hT hR;have hlt:i<n:=by omega
  refine codeAny_builtin F.entry_set_update_loop ?_;rw[Around.under_plainId F.plain_set_update_loop _];show wpAny _ A.in1 (pyNext (.ref I) >>= _) _ _ s;refine wpAny_bind (W.item i s _ _ hlt hst fun v s' hP hst' hm=>?_);obtain rfl:=hval i v hP;obtain⟨o,es,ep,t,X⟩:=hS;have X':TS knd s'.heap S o es ep t (dd (vals.take i)) B:=X.moved (hm.heap S _ hSw X.at_) fun k b hk=>kmove hst hm hk;have hx:vals[i]?=some vals[i]:=List.getElem?_eq_getElem (by omega);have hlen:=zaM (vals.take i);rw[List.length_take] at hlen;show wpAny _ A.in1 (holding [Value.ref (adr i)] (setAdd S (.ref (adr i))) >>= _) _ _ s';refine wpAny_bind (wpAny_holding (zjS X' hu hv (kmove hst hm (hT i _ hx)) (hB i hlt) (by omega) fun r h' o' es' ep' t' X2 hsb=>?_));have htk:s'.toks<=s'.toks+(vals[i].length+1):=Nat.le_add_right _ _;have st2:St (i+1) { s' with heap:=h',toks:=s'.toks+(vals[i].length+1) }:=W.frame _ s' _ _ hst' htk fun b hb o2 e=>by
   rw[hsb.2 b (fun h:b=S=>hSf (by rw[<- h]; exact hb))]; exact e
  have etake:vals.take (i+1)=vals.take i++[vals[i]]:=by rw[List.take_add_one,hx]; rfl
  have X3:TS knd h' S o' es' ep' t' (dd (vals.take (i+1))) B:=by
   rw[etake,zbl]
   by_cases q:vals[i]∈dd (vals.take i)
   ·rw[if_pos q] at X2 ⊢; exact X2
   ·rw[if_neg q] at X2 ⊢; exact X2
  refine wpAny_pure ⟨plainId_quiet F.plain_set_update_loop _,ih (i+1) _ (by omega) hlt st2 ⟨o',es',ep',t',X3⟩ (fun j x hj=>zau (kmove hst hm (hT j x hj)) X'.at_ X'.dt hsb) fun s'' hm'' hS''=>?_⟩;refine hR s'' (Moved.trans W.gtrans ((hm.mono hsub).then_heap htk fun b o2 hb e=>?_) hm'') hS'';rw[hsb.2 b (fun h:b=S=>hb (by rw[h]; exact List.mem_cons_self))]; exact e
end
end STb
end
section
namespace STb
open PySem PySem.SetTable PyProof.Rows
section
variable {prog:Program}{w:World}{K:Type} [DecidableEq K] {knd:KeyKind prog w K}{A:Around}{E:Value->Shared->Prop}{s:Shared}
theorem zez (a:Value) {Q₁:Value->Shared->Prop} (h:Q₁ (.ref s.heap.objs.size) { s with heap:=s.heap.push { cls:=.type "set",dict:=none,data:=.set #[] 0 (.fresh 0 0 (!w.params.followText "set-order")) } }) :
  codeAny (model prog w) A (.call (.builtin "set.__new__") ⟨[.type "set",a],[]⟩) (wants Q₁ E) s:=by
 refine codeAny_of_tree (show wpAny _ A.in1 (do checkBuiltinCall "set.__new__" ⟨[.type "set",a],[]⟩; again (.builtin "set.__new__" ⟨[.type "set",a],[]⟩)) _ _ s from wpAny_bind (wpAny_of_eq (F.newCall_set_1 a) (wpAny_pure ⟨plainId_quiet F.plain_set_new _,codeAny_builtin F.entry_set_new ?_⟩)));rw[Around.under_plainId F.plain_set_new _]; unfold Builtin.«set.__new__» Builtin.Frozenset.newClass;have hsub:=sub_set_self; obtain⟨hp,g,d,tk,os⟩:=s;dsimp only; wp_walk;refine wpAny_askSetting (wpAny_pure ?_); dsimp only; simp only[newObj];exact wpAny_bind (wpAny_alloc (wpAny_pure (wpAny_pure h)))
theorem zbR {B:List Addr}{l:Addr}{items:Array Value}{vals:List (List K)}{adr:Nat->Addr}{Q:Value->Shared->Prop}
  (hh:A.handled=none) (hl:s.heap.IsList l items) (hu:A.units+64<cLine) (hv:∀k v n,knd.is k v=true->hashByValue n v=pure true) (hz:items.size<=59) (hn:vals.length=items.size) (hB:∀i,i<items.size->adr i∈B)
  (hit:∀(i:Nat) v,items[i]?=some v->v=.ref (adr i)) (hT:∀(j:Nat) x,vals[j]?=some x->IsTupleKey knd s.heap x (adr j))
  (h:∀h' tk,(∃o es ep t,TS knd h' s.heap.objs.size o es ep t (dd vals) B)->(∀b o,b<s.heap.objs.size->s.heap.get? b=some o->h'.get? b=some o)->Q (.ref s.heap.objs.size) { s with heap:=h',toks:=tk }) :
  wpAny (model prog w) A (call (.type "set") [.ref l]) Q E s:=by
 obtain⟨c,tl,hmro⟩:=F.called_set.mro;have hmade:=F.called_set.made;have hsub:=F.called_set.sub;refine wpAny_call (codeAny_of_tree ?_);show wpAny _ _ (callAny (.type "set") _) _ _ _;refine wpAny_pure ⟨Code.quiet_builtin _ (by decide +kernel),codeAny_builtin F.entry_type_call ?_⟩;rw[Around.under_plain (weight_type_call_type "set" [.ref l] []) rfl];have h1:=F.called_set.notType;have h2:=F.called_set.canCreate;have hct:=F.typeCall_set_1 (.ref l)
 repeat (any_goals (first | assumption | wp_step))
 refine codeAny_mono (zez (.ref l) (E:=E) (Q₁:=fun obj s₁=>∃led:Bool,(w.params.followText "set-order"=true \/ led=true)/\obj=.ref s.heap.objs.size/\s₁={ s with heap:=s.heap.push { cls:=.type "set",dict:=none,data:=.set #[] 0 (.fresh 0 0 led) } }) ⟨_,by cases w.params.followText "set-order" <;> simp,rfl,rfl⟩) fun r s₁ hr=>?_;cases r with
 | error e=>exact hr
 | ok fl=>
  cases fl with
  | ret obj=>
   obtain⟨led,hled,rfl,rfl⟩:=hr;have hS:(s.heap.push { cls:=.type "set",dict:=none,data:=.set #[] 0 (.fresh 0 0 led) }).get? s.heap.objs.size=some { cls:=.type "set",dict:=none,data:=.set #[] 0 (.fresh 0 0 led) }:=Heap.get?_push_size _ rfl;have hTy:Shared.TypeIs { s with heap:=s.heap.push { cls:=.type "set",dict:=none,data:=.set #[] 0 (.fresh 0 0 led) } } (.ref s.heap.objs.size) "set":=⟨_,hS,rfl⟩;have hli:=F.called_set.init.lookup;have hbi:=F.called_set.init.bind (.ref s.heap.objs.size)
   repeat (any_goals (first | assumption | wp_step))
   refine codeAny_mono (codeAny_call_builtin (R:=wants (fun r s₂=>r=.none/\∃h' tk,s₂={ s with heap:=h',toks:=tk }/\
     (∃o es ep t,TS knd h' s.heap.objs.size o es ep t (dd vals) B)/\
     (∀b o,b<s.heap.objs.size->s.heap.get? b=some o->h'.get? b=some o)) E) F.called_set.init.plain F.entry_set_init (check_set_init_1 hTy ?_)) fun r₂ s₂ hr₂=>?_
   ·obtain⟨ol,hol,hcl,nl,hdl⟩:=hl
    obtain⟨ocls,odict,odata,oslots⟩:=ol;simp only at hcl hdl;subst hcl; subst hdl;have hol':(s.heap.push { cls:=.type "set",dict:=none,data:=.set #[] 0 (.fresh 0 0 led) }).get? l=some { cls:=.type "list",dict:=odict,data:=.seq items nl,slots:=oslots }:=Heap.get?_push_of_some _ hol;have hsls:=F.sub_list_set;have hslf:=F.sub_list_frozenset;have hne:(Value.type "list" == Value.type "dict")=false:=by decide
    have hl1:(s.heap.push { cls:=.type "set",dict:=none,data:=.set #[] 0 (.fresh 0 0 led) }).IsList l items:=⟨_,hol',rfl,nl,rfl⟩;unfold Builtin.«set.__init__» noKeywords Builtin.Frozenset.updateFrom;generalize hPI:pyIter=PI
    wp_walk
    subst hPI;refine wpAny_pyIter_list hl1 ?_;refine wpAny_bind (wpAny_runValue ?_);have hlS:l<s.heap.objs.size:=Heap.lt_size hol;have hh3:A.in1.in1.in1.handled=none:=by simp[hh]
    have hneI:l≠(s.heap.push { cls:=.type "set",dict:=none,data:=.set #[] 0 (.fresh 0 0 led) }).objs.size:=by
     rw[Heap.size_push]; exact Nat.ne_of_lt (Nat.lt_succ_of_lt hlS)
    have hSf:s.heap.objs.size∉[(s.heap.push { cls:=.type "set",dict:=none,data:=.set #[] 0 (.fresh 0 0 led) }).objs.size,l]:=by
     rw[Heap.size_push]; simp only[List.mem_cons,List.mem_singleton,List.not_mem_nil,or_false,not_or];exact⟨Nat.ne_of_lt (Nat.lt_succ_self _),Nat.ne_of_gt hlS⟩
    refine zgV (knd:=knd) ((Walks.list hh3 _ l hneI items).toS) (by show A.units+1+1+1<cLine; omega) hv s.heap.objs.size hSf vals adr hn hB hz (fun i v q=>hit i v q) (fun b o ho s' i st e hb=>?hna)
     (items.size - 0) 0 _ (by omega) (Nat.zero_le _) ⟨⟨_,Heap.get?_push_size _ rfl,rfl,rfl⟩,(hl1.push _)⟩ ⟨{ cls:=.type "set",dict:=none,data:=.set #[] 0 (.fresh 0 0 led) },#[],0,.fresh 0 0 led,?hS0⟩ (fun j x hx=>zhA (hT j x hx) fun o e=>Heap.get?_push_of_some _ (Heap.get?_push_of_some _ e)) ?hR
    case hna=>
     obtain⟨⟨oi,e1,e2,_⟩,_⟩:=st;obtain⟨its,m,hc,_⟩:=ho;simp only[List.mem_singleton] at hb;subst hb;have e3:=Option.some.inj (e1.symm.trans e);rw[<- e3,e2] at hc;exact absurd hc (by decide)
    case hS0=>
     have hget:((s.heap.push { cls:=.type "set",dict:=none,data:=.set #[] 0 (.fresh 0 0 led) }).push { cls:=.type "list_iterator",data:=.fields #[.ref l,.int 0 0] }).get? s.heap.objs.size
      =some { cls:=.type "set",dict:=none,data:=.set #[] 0 (.fresh 0 0 led) }:=Heap.get?_push_of_some _ hS
     exact⟨hget,⟨rfl,rfl,rfl⟩,rfl,(by simpa using zes 0 0 led),rfl,List.nodup_nil,fun e he=>by simp at he,fun k hk=>by simp[dd] at hk,.inl ⟨rfl,Nat.zero_le _⟩,(fun e he=>by simp at he),hled.imp id fun z=>⟨z,rfl⟩⟩
    case hR=>
     intro s' hm hS';obtain⟨h',g',d',tk',os'⟩:=s';have eg:g'=s.gens:=hm.gens;have ed:d'=s.drawn:=hm.drawn;have eo:os'=s.os:=hm.os;subst eg; subst ed; subst eo;show wpAny _ _ _ _ _ _;refine wpAny_pure ?_;show wpAny _ _ (ret Value.none) _ _ _;refine wpAny_pure ⟨rfl,h',tk',rfl,hS',fun b o hb e=>?_⟩;have hb1:b≠s.heap.objs.size:=Nat.ne_of_lt hb;have hb2:b≠(s.heap.push { cls:=.type "set",dict:=none,data:=.set #[] 0 (.fresh 0 0 led) }).objs.size:=by
      rw[Heap.size_push]; exact Nat.ne_of_lt (Nat.lt_succ_of_lt hb)
     exact hm.heap b o (by simp only[List.mem_cons,List.mem_singleton,List.not_mem_nil,or_false,not_or]; exact⟨hb1,hb2⟩) (Heap.get?_push_of_some _ (Heap.get?_push_of_some _ e))
   ·cases r₂ with
    | error e=>exact hr₂
    | ok fl₂=>
     cases fl₂ with
     | ret r=>
      obtain⟨rfl,h',tk,rfl,hS',hk'⟩:=hr₂
      repeat (any_goals (first | assumption | wp_step))
      exact h _ _ hS' hk'
     | _=>exact hr₂.elim
  | _=>exact hr.elim
end
end STb
namespace L2
open PySem PySem.Spec PyProof.Rows
def SetN (D:Addr) (n:Nat):HO:=.ext fun h=>∃o es ep t,h.get? D=some o/\o.ExactSet/\o.data=.set es ep t/\t.fits es.size=true/\es.size=n/\n<=100
section
variable {X:Cx}
theorem zfj {prog:Program}{w:World}:∀(k:Int) (v:Value) (n:Nat),(intKind prog w).is k v=true->hashByValue n v=pure true:=by
 intro k v n h;obtain⟨t,rfl⟩:=Value.isInt_shape h;cases n <;> rfl
theorem zL {prog:Program}{w:World}{h:Heap}{c:Addr}{cs:List Value}{qs:List Int} (hc:IsTup h c cs.toArray) (hi:IntsAre cs qs):IsTupleKey (intKind prog w) h qs c:=by
 obtain⟨o,e,hcl,k,d⟩:=hc;refine⟨o,cs.toArray,k,e,hcl,d,?_⟩;have:∀{cs:List Value} {qs:List Int},IntsAre cs qs->ItemsAre (intKind prog w) qs cs:=by
  intro cs qs hi
  induction hi with
  | nil=>exact .nil
  | cons n t h ih=>exact .cons (by show Value.isInt n (.int n t)=true; simp[Value.isInt]) ih
 simpa using this hi
theorem zdy (hc:X.calm=true) (hu:X.A.units+64<cLine):zaz X (.type "set") (fun xs H Q=>∃(l:Addr) (as:List Addr) (pss:List (List Int)),xs=[.ref l]/\SqL X.K H l (as.map V.ref)/\Tps H as pss/\pss.length<=59/\
  ∀D,H D=none->Q (.ref D) (upd H D (SetN D (STb.dd pss).length))):=by
 intro pins s σ H xs us Q I r h;obtain⟨l,as,pss,rfl,hq,hp,hz,q⟩:=h;obtain⟨u,rfl,ru⟩:=vals1 r;cases ru;obtain⟨its,r1,p1,_⟩:=I.list hq;obtain rfl:=vals_refs r1;have hla:=hp.length;refine STb.zbR (B:=as) (knd:=intKind X.prog X.w) (vals:=pss) (adr:=fun i=>as.getD i 0) (I.ok.hd hc) p1.isList hu zfj (by rw[List.size_toArray,List.length_map]; omega) (by rw[List.size_toArray,List.length_map]; omega) (fun i hi=>by rw[List.size_toArray,List.length_map] at hi; rw[List.getD_eq_getElem?_getD,List.getElem?_eq_getElem hi]; exact List.getElem_mem hi)
  (fun i v e=>?_) (fun j x e=>?_) fun h' tk ⟨o,es,ep,t,T⟩ kk=>?_
 ·have e':(as.map Value.ref)[i]?=some v:=by simpa using e
  rw[List.getElem?_map] at e';cases ea:as[i]? with
  | none=>rw[ea] at e'; simp at e'
  | some a=>
   rw[ea] at e';rw[<- Option.some.inj e',List.getD_eq_getElem?_getD,ea]
   rfl
 ·have hj:j<as.length:=by rw[hla]; exact (List.getElem?_eq_some_iff.mp e).1
  have ea:as[j]?=some as[j]:=List.getElem?_eq_getElem hj;obtain⟨ps',e1,e2⟩:=hp.get ea;rw[e] at e1;obtain rfl:=Option.some.inj e1;obtain⟨its,r2,p2,_⟩:=I.tuple (SqT.of (K:=X.K) e2);rw[List.getD_eq_getElem?_getD,ea];exact zL p2 (intsAre_of r2)
 ·have hlen:=STb.zaM pss
  refine⟨.ref s.heap.objs.size,_,I.laid (o:=SetN s.heap.objs.size (STb.dd pss).length) (fun b u e=>kk b u (Heap.lt_size e) e) (Nat.le_refl _) ?_,rfl,q _ (I.hok.fresh (Nat.le_refl _))⟩;refine⟨⟨o,es,ep,t,T.at_,T.ex,T.dt,STb.fits_of T.tb,T.sz,by omega⟩,⟨o,T.at_⟩,fun h1 h2 ⟨o',es',ep',t',g1,g2⟩ kp=>⟨o',es',ep',t',kp _ g1,g2⟩⟩
theorem za2:zaz X (.builtin "len") (fun xs H Q=>∃D n,xs=[.ref D]/\H D=some (SetN D n)/\Q (.int n) H):=by
 intro pins s σ H xs us Q I r h;obtain⟨D,n,rfl,hq,q⟩:=h;obtain⟨u,rfl,ru⟩:=vals1 r;cases ru;obtain⟨⟨o,es,ep,t,h1,h2,h3,h4,h5,h6⟩,_⟩:=(show zI X.prog X.w H s.heap D (SetN D n) from I.hok D _ hq);exact call_len_set h1 h2 h3 h4 (by omega) ⟨.int n,H,I.tok _,⟨_,by rw[h5]⟩,q⟩
end
end L2
end
section
namespace Spl
open PySem PySem.Spec PySem.Builtin PySem.Builtin.Str PyProof.Rows
section
variable {prog:Program}{w:World}{A:Around}{E:Value->Shared->Prop}{s:Shared}{x y:PySem.Str}{t u:Tok}{Q:Value->Shared->Prop}
theorem split1 (hy:(y.length == 0)=false)
  (h:∀(l:List (PySem.Str×Tok)) k,l.map (·.1)=Txt.split x y->Q (.ref s.heap.objs.size) { s with heap:=s.heap.push { cls:=.type "list",data:=.seq (strValues l).toArray },toks:=k })
  (hsz:x.length+2<=sizeLine):wpAny (model prog w) A (call (.builtin "str.split") [.str x t,.str y u]) Q E s:=by
 have hn:(partsBetween x (occurrences x y 0 x.length (x.length+1)) y.length).length<=sizeLine:=by
  have e1:=StrLaws.occ_length_le x y 0 x.length (x.length+1);rw[length_partsBetween]; omega
 cases h1:(decide (x.length<y.length) || decide (strKind x<strKind y))
 ·cases hf:(occurrences x y 0 x.length (x.length+1)).isEmpty
  ·refine call_meets F.slot_str_split (typeIs_str _ _ _) F.entry_str_split (F.args_str_split_2 _ _) (meets_str_split_sep x y t u h1 hy hf (by omega) hn) ?_
   show wants Q E _ { s with toks:=_,heap:=s.heap.push { cls:=.type "list",data:=.seq (strsFrom s.toks (partsBetween x (occurrences x y 0 x.length (x.length+1)) y.length)).toArray } };rw[strsFrom_eq];exact h (numbered s.toks _) _ ((numbered_texts _ _).trans ((if_neg (ne_true_of_eq_false h1)).trans (if_neg (ne_true_of_eq_false hf))).symm)
  ·exact call_meets F.slot_str_split (typeIs_str _ _ _) F.entry_str_split (F.args_str_split_2 _ _) (meets_str_split_not_found x y t u h1 hy hf)
    (h [(x,t)] s.toks ((if_neg (ne_true_of_eq_false h1)).trans (if_pos hf)).symm)
 ·exact call_meets F.slot_str_split (typeIs_str _ _ _) F.entry_str_split (F.args_str_split_2 _ _) (meets_str_split_cannot_occur x y t u h1)
   (h [(x,t)] s.toks (if_pos h1).symm)
end
end Spl
namespace L2
open PySem PySem.Spec PyProof.Rows
section
variable {X:Cx}
theorem zdt:∀(l:List (PySem.Str×Tok)),Vals ((l.map (·.1)).map V.str) (strValues l)
 | []=>.nil
 | p::l=>.cons ⟨p.2,rfl⟩ (zdt l)
def zjw:V->List V->Hp->VK->Prop:=fun x vs H Q=>∃z y,x=.str z/\vs=[.str y]/\(y.length == 0)=false/\z.length+2<=sizeLine/\(Txt.split z y).length<=sizeLine/\∀D,H D=none->Q (.ref D) (upd H D (.lst ((Txt.split z y).map V.str)))
theorem zhN:MtM X "str.split" zjw:=by
 intro pins s σ H x vs v us Q I rx rv h;obtain⟨z,y,rfl,rfl,hy,hz,hl,q⟩:=h;obtain⟨t,rfl⟩:=rx;obtain⟨u,rfl,ru⟩:=rv.one;obtain⟨t',rfl⟩:=ru;refine Spl.split1 hy (fun l k e=>?_) hz;refine⟨.ref s.heap.objs.size,_,I.laid (t':=k) (o:=.lst ((Txt.split z y).map V.str)) (fun b ob q=>Heap.get?_push_of_some _ q) (Nat.le_refl _) ?_,rfl,q _ (I.hok.fresh (Nat.le_refl _))⟩;refine⟨by rw[List.length_map]; exact hl,strValues l,0,?_,Heap.get?_push_size _ rfl⟩;rw[<- e];exact zdt l
def Its (x:PySem.Str):It:=⟨fun i _=>i<x.cps.size,fun i H v H'=>H'=H/\∃c,x.cps[i]?=some c/\v=.str ⟨#[c]⟩,fun i _=>i=x.cps.size⟩
theorem zeA {P:Program}{w:World}{K:PySem.W.Frag}{tg:Expr} (x:PySem.Str) (it:Addr) (T:String) (hn:["enumerate","zip","dict_itemiterator","dict_reverseitemiterator","odict_iterator","itertools.zip_longest","itertools.pairwise"].contains T=false) (t:Tok)
  (W:∀A':Around,A'.handled=none->Walks P w A' it [it] [it] x.cps.size (SignAt x) (fun i h=>h.IsStrIter it T x t i))
  (slf:∀(A:Around) (i:Nat) (s:Shared) (Q:Value->Shared->Prop) (E:Value->Shared->Prop),s.heap.IsStrIter it T x t i->Q (.ref it) s->wpAny (model P w) A (pyIter (.ref it)) Q E s) :
  Turn P w K tg (Its x) [it] it (fun i h=>h.IsStrIter it T x t i) where
 mem:=by simp
 obj:=fun i h st b hb=>by
  have e:b=it:=by simpa using hb
  subst e;obtain⟨o,e,c,d⟩:=st;exact⟨o,e,fun v z=>by rw[d] at z; cases z⟩
 keep:=fun i h h' st k=>by
  obtain⟨o,e,c⟩:=st;exact⟨o,k it (by simp) o e,c⟩
 item:=by
  intro X hP hw hK hc i pins s σ H E I hf st hg;subst hP hw hK;obtain⟨f0,f1,f2,f3,f4,f5⟩:=hf it (by simp);refine (W X.A (I.ok.hd hc)).item i s _ _ hg st fun v h' tk hv st' kk=>?_;obtain⟨c,u,hx,rfl⟩:=hv;have I1:Inv X pins σ H { s with heap:=h',toks:=tk }:=I.turned (fun b o hb e=>kk b o (by simpa using hb) e) f0 f1 f3 f4 f5;obtain⟨o,e1,e2,e3⟩:=id st';exact⟨_,rfl,zgY (s:={ s with heap:=h',toks:=tk }) e1 e2 e3 hn ⟨.str ⟨#[c]⟩,H,I1,⟨u,rfl⟩,⟨rfl,c,hx,rfl⟩,st',fun b hb=>(hf b hb).1⟩⟩
 done:=by
  intro X hP hw hK hc i pins s σ H E I hf st hg;subst hP hw hK;obtain⟨f0,f1,f2,f3,f4,f5⟩:=hf it (by simp);have hi:i=x.cps.size:=hg;subst hi;exact (W X.A (I.ok.hd hc)).done s _ _ st fun h' tk kk=>⟨rfl,I.turned (fun b o hb e=>kk b o (by simpa using hb) e) f0 f1 f3 f4 f5⟩
 self:=slf
def iStr (te:TE):TI:=fun σ H R=>te σ H fun v H1=>∃x,v=.str x/\R (Its x) H1
theorem zjy {tg l:Expr}{tl:TE} (hl:PE X l tl):PI X tg l (iStr tl):=by
 intro pins s σ H R I h;refine thn (hl pins s σ H _ I h) fun v s1 ⟨x,H1,I1,r1,q1⟩=>?_;obtain⟨z,e,q⟩:=q1;subst e;obtain⟨t,rfl⟩:=r1;have fin:∀(o:Obj),Inv X pins σ H1 { s1 with heap:=s1.heap.push o }:=fun o=>I1.kept (t':=s1.toks) fun b o e=>Heap.get?_push_of_some _ e;have fp:∀b∈[s1.heap.objs.size],FpOk X pins H1 b:=fun b hb=>by
  have e:b=s1.heap.objs.size:=by simpa using hb
  subst e;exact I1.fpOk (Nat.le_refl _) (I1.hok.fresh (Nat.le_refl _))
 cases ha:z.cps.all (·<128)
 ·refine wpAny_pyIter_wide ha ?_
  exact⟨s1.heap.objs.size,[s1.heap.objs.size],_,_,H1,rfl,fin _,zeA z _ "str_iterator" (by decide) t (fun A' hA=>Walks.strWide hA _ z t) (fun A i s Q E st h=>wpAny_pyIter_striter_wide st h),⟨_,Heap.get?_push_size _ rfl,rfl,rfl⟩,fp,q⟩
 ·refine wpAny_pyIter_ascii ha ?_
  exact⟨s1.heap.objs.size,[s1.heap.objs.size],_,_,H1,rfl,fin _,zeA z _ "str_ascii_iterator" (by decide) t (fun A' hA=>Walks.strAscii hA _ z t) (fun A i s Q E st h=>wpAny_pyIter_striter_ascii st h),⟨_,Heap.get?_push_size _ rfl,rfl,rfl⟩,fp,q⟩
theorem zgP {g:TG}{tc:TT}{te:TE}{σ:St}{H1:Hp}{Q:VK}{D:Addr}{x:PySem.Str} (Pv:Nat->St->List V->Hp->Prop) (h0:Pv 0 σ [] (upd H1 D (.lst [])))
  (hs:∀i σ ys H c,x.cps[i]?=some c->i<x.cps.size->ys.length<=i->Pv i σ ys H->g (.str ⟨#[c]⟩) σ H fun σ3 H4=>tc σ3 H4 fun b H5=>if b=true then te σ3 H5 (CPut x.cps.size Pv D i σ3) else CSkip x.cps.size Pv i σ3 H5)
  (hd:∀σ ys H,Pv x.cps.size σ ys H->Q (.ref D) H):zap (Its x) g tc te σ H1 D Q:=by
 refine zbT x.cps.size Pv h0 (fun σ ys H p=>rfl) (fun i σ ys H hi p=>hi) (fun i σ ys H v H' hi hy p y=>?_) hd;obtain⟨e,c,hc,rfl⟩:=y;subst e;exact hs i σ ys _ c hc hi hy p
end
end L2
end
section
namespace K1
open STb
def subs (ps:List Int):List (List Int):=ps.foldl (fun found x=>found++found.map (·++[x])) [[]]
def parts (ps:List Int):List (List Int):=(subs ps).drop 1
theorem zbU (ps:List Int) (x:Int):subs (ps++[x])=subs ps++(subs ps).map (·++[x]):=by unfold subs; rw[List.foldl_append]; rfl
theorem zbD (ps:List Int):(subs ps).length=2 ^ ps.length:=by
 have:∀(ps:List Int) (acc:List (List Int)),(ps.foldl (fun found x=>found++found.map (·++[x])) acc).length=acc.length*2 ^ ps.length:=by
  intro ps
  induction ps with
  | nil=>intro acc; simp
  | cons x ps ih=>
   intro acc;rw[List.foldl_cons,ih,List.length_append,List.length_map,List.length_cons,Nat.pow_succ];rw[<- Nat.two_mul,Nat.mul_comm 2,Nat.mul_assoc,Nat.mul_comm 2]
 simpa[subs] using this ps [[]]
theorem zcg (ps:List Int):∃t,subs ps=[]::t/\∀q∈t,q≠[]:=by
 have:∀(ps:List Int) (acc:List (List Int)),(∃t,acc=[]::t/\∀q∈t,q≠[])->∃t,ps.foldl (fun found x=>found++found.map (·++[x])) acc=[]::t/\∀q∈t,q≠[]:=by
  intro ps
  induction ps with
  | nil=>intro acc h; exact h
  | cons x ps ih=>
   rintro acc ⟨t,rfl,h⟩;rw[List.foldl_cons];refine ih _ ⟨t++([]::t).map (·++[x]),rfl,fun q hq=>?_⟩;rcases List.mem_append.mp hq with hq | hq
   ·exact h q hq
   ·obtain⟨r,_,rfl⟩:=List.mem_map.mp hq
    simp
 exact this ps [[]] ⟨[],rfl,fun q hq=>nomatch hq⟩
theorem zdi (ps:List Int):(subs ps).filter (fun q=>!decide (q=[]))=parts ps:=by
 obtain⟨t,e,h⟩:=zcg ps;unfold parts;rw[e];show List.filter _ ([]::t)=t;rw[List.filter_cons,if_neg (by simp)];exact List.filter_eq_self.mpr fun q hq=>by simp[h q hq]
theorem zat (ps:List Int):(parts ps).length=2 ^ ps.length - 1:=by unfold parts; rw[List.length_drop,zbD]
theorem zbx (ps:List Int):∀q∈subs ps,q.length<=ps.length:=by
 have:∀(ps:List Int) (acc:List (List Int)) (n:Nat),(∀q∈acc,q.length<=n)->∀q∈ps.foldl (fun found x=>found++found.map (·++[x])) acc,q.length<=n+ps.length:=by
  intro ps
  induction ps with
  | nil=>intro acc n h q hq; simpa using h q hq
  | cons x ps ih=>
   intro acc n h q hq;rw[List.foldl_cons] at hq;have:=ih _ (n+1) (fun r hr=>by
    rcases List.mem_append.mp hr with hr | hr
    ·exact Nat.le_succ_of_le (h r hr)
    ·obtain⟨u,hu,rfl⟩:=List.mem_map.mp hr
     rw[List.length_append];exact Nat.succ_le_succ (h u hu)) q hq
   rw[List.length_cons];omega
 intro q hq;have:=this ps [[]] 0 (fun r hr=>by simp at hr; subst hr; exact Nat.le_refl _) q hq;omega
def rises:List Int->Bool
 | a::b::r=>decide (a<b) && rises (b::r)
 | _=>true
theorem zdv:∀ps:List Int,((ps.zip (ps.drop 1)).map fun p=>decide (p.1<p.2)).all id=rises ps
 | []=>rfl
 | [_]=>rfl
 | a::b::r=>by
  have:=zdv (b::r);unfold rises;rw[<- this]
  rfl
theorem zcS:∀ps:List Int,rises ps=true ↔ ∀(i:Nat) a b,ps[i]?=some a->ps[i+1]?=some b->a<b
 | []=>by simp[rises]
 | [x]=>by simp[rises]
 | x::y::r=>by
  unfold rises;rw[Bool.and_eq_true,decide_eq_true_eq,zcS (y::r)];constructor
  ·rintro⟨h1,h2⟩ i a b ha hb
   cases i with
   | zero=>simp at ha hb; subst ha hb; exact h1
   | succ i=>exact h2 i a b (by simpa using ha) (by simpa using hb)
  ·intro h
   exact⟨h 0 x y rfl rfl,fun i a b ha hb=>h (i+1) a b (by simpa using ha) (by simpa using hb)⟩
theorem zev (ps:List Int) (h:rises ps=true):∀(d i:Nat) a b,ps[i]?=some a->ps[i+d]?=some b->a<=b:=by
 intro d
 induction d with
 | zero=>intro i a b ha hb; rw[Nat.add_zero,ha] at hb; cases hb; exact Int.le_refl _
 | succ d ih=>
  intro i a b ha hb;have hl:i+(d+1)<ps.length:=(List.getElem?_eq_some_iff.mp hb).1;have hc:ps[i+d]?=some ps[i+d]:=List.getElem?_eq_getElem (by omega);have h1:=ih i a _ ha hc;have h2:=(zcS ps).mp h (i+d) _ b hc hb;omega
def zS (ps:List Int):Bool:=decide (1<=ps.length) && decide (ps.length<=5) && !(decide (ps.headD 0<0)) && !(decide (99<ps.getLastD 0)) && rises ps
def zas (ps:List Int):Bool:=decide (1<=ps.length) && decide (ps.length<=5) && ps.all (fun p=>decide (0<=p) && decide (p<=99)) && rises ps
theorem zey (ps:List Int):zS ps=zas ps:=by
 unfold zS zas;cases ps with
 | nil=>rfl
 | cons x r=>
  by_cases hr:rises (x::r)=true
  ·rw[hr,Bool.and_true,Bool.and_true]
   by_cases h5:(x::r).length<=5
   ·have e1:(x::r).getLastD 0=(x::r)[(x::r).length - 1]:=by
     rw[List.getLastD_eq_getLast?,List.getLast?_eq_getElem?,List.getElem?_eq_getElem (by simp)]; rfl
    have key:(!(decide ((x::r).headD 0<0)) && !(decide (99<(x::r).getLastD 0)))=(x::r).all (fun p=>decide (0<=p) && decide (p<=99)):=by
     rw[Bool.eq_iff_iff];rw[Bool.and_eq_true,Bool.not_eq_true',Bool.not_eq_true',decide_eq_false_iff_not,decide_eq_false_iff_not,List.all_eq_true];constructor
     ·rintro⟨h0,h9⟩ p hp
      obtain⟨i,hi⟩:=List.mem_iff_getElem?.mp hp;have hil:i<(x::r).length:=(List.getElem?_eq_some_iff.mp hi).1;have g1:=zev (x::r) hr i 0 x p rfl (by simpa using hi);have g2:=zev (x::r) hr ((x::r).length - 1 - i) i p ((x::r)[(x::r).length - 1]) hi (by
       rw[show i+((x::r).length - 1 - i)=(x::r).length - 1 by omega];exact List.getElem?_eq_getElem (by simp))
      rw[e1] at h9;have h0':¬ x<0:=h0;simp only[Bool.and_eq_true,decide_eq_true_eq];constructor <;> omega
     ·intro h
      have g1:=h x List.mem_cons_self;have g2:=h ((x::r)[(x::r).length - 1]) (List.getElem_mem _);rw[e1];simp only[Bool.and_eq_true,decide_eq_true_eq] at g1 g2;constructor
      ·show ¬ x<0; omega
      ·omega
    rw[<- key];simp only[Bool.and_assoc]
   ·rw[decide_eq_false h5]; simp
  ·have:rises (x::r)=false:=by simpa using hr
   rw[this,Bool.and_false,Bool.and_false]
def webM (pss:List (List Int)):Bool:=decide (pss.length<=20) && pss.all zS && !(decide ((dd pss).length<pss.length)) && decide ((dd (pss.flatMap parts)).length<=200)
def zig (pss:List (List Int)) (k:Nat):Prop:=∀(i:Nat) ps,i<k->pss[i]?=some ps->ps∉pss.take i/\zas ps=true
theorem zgS (pss:List (List Int)) (h:pss.length<=20) (hg:zig pss pss.length):webM pss=decide ((dd (pss.flatMap parts)).length<=200):=by
 unfold webM;have h1:pss.all zS=true:=List.all_eq_true.mpr fun ps hp=>by
  obtain⟨i,hi⟩:=List.mem_iff_getElem?.mp hp;rw[zey];exact (hg i ps (List.getElem?_eq_some_iff.mp hi).1 hi).2
 have h2:¬ (dd pss).length<pss.length:=fun z=>by
  obtain⟨k,x,e,hx⟩:=(zjK pss).mp z;exact (hg k x (List.getElem?_eq_some_iff.mp e).1 e).1 hx
 rw[decide_eq_true h,h1,decide_eq_false h2]
 rfl
theorem zgO (pss:List (List Int)) (h:¬ pss.length<=20):webM pss=false:=by unfold webM; rw[decide_eq_false h]; rfl
end K1
end
section
namespace L2
open PySem PySem.Spec PyProof.Rows
def capB (N N':List Str) (caps:List (Option Nat)) (scope:Scope):Bool:=decide (caps.length=N'.length) && (caps.zip N').all fun p=>match p.1 with
 | none=>true
 | some j=>decide (N[j]?=some p.2) && decide (scope.names.lookup p.2=some .free)
theorem zew {N N':List Str}{caps:List (Option Nat)}{scope:Scope} (h:capB N N' caps scope=true):zhg N N' caps scope:=by
 unfold capB at h;rw[Bool.and_eq_true,decide_eq_true_eq,List.all_eq_true] at h;refine⟨h.1,fun i j e=>?_⟩;have hi:i<caps.length:=(List.getElem?_eq_some_iff.mp e).1;have e2:N'[i]?=some N'[i]:=List.getElem?_eq_getElem (by rw[<- h.1]; exact hi);have:=h.2 (some j,N'[i]) (List.mem_iff_getElem?.mpr ⟨i,by rw[Srt.zipget,e,e2]; rfl⟩);simp only[Bool.and_eq_true,decide_eq_true_eq] at this;exact⟨N'[i],e2,this.1,this.2⟩
section
variable {X:Cx}{scope:Scope}{caps:List (Option Nat)}{tg iter elt:Expr}{ifs:List Expr}{wi:TI}{g:TG}{tc:TT}{te:TE}{pos:Pos}
theorem zE (N N':List Str) (caps:List (Option Nat)) (hi:PI X tg iter wi) (hg:∀cl C s₀ H₀ ex,PG (cxC X scope N' cl C s₀ H₀ ex) tg g) (ht:∀cl C s₀ H₀ ex,PTL (cxC X scope N' cl C s₀ H₀ ex) ifs tc) (he:∀cl C s₀ H₀ ex,PE (cxC X scope N' cl C s₀ H₀ ex) elt te)
  (hc:X.calm=true:=by rfl) (hk:scope.kind=.function:=by rfl) (hcell:∀y∈scope.names,y.2≠.cell:=by decide +kernel) (hnames:∀y∈scope.names,y.2=.local->scope.names.lookup y.1=some .local:=by decide +kernel)
  (hfr:∀y∈scope.names,y.2=.free->X.env.kindOf y.1=some .cell \/ X.env.kindOf y.1=some .free) (hN:X.N=N:=by rfl) (hcap:capB N N' caps scope=true:=by decide +kernel)
  (hs:∀x,foldedSetIterable iter X.env x=pure x:=by intro _; rfl):PE X (.ListComp elt [⟨tg,iter,ifs,0⟩] scope pos) (tLC wi caps g tc te):=
 zil hc hk hcell hnames hfr (zew (by rw[hN]; exact hcap)) hi hg ht he hs
end
theorem nofr {env:Env}{scope:Scope} (h:scope.names.all (fun y=>decide (y.2≠.free))=true):∀y∈scope.names,y.2=.free->env.kindOf y.1=some .cell \/ env.kindOf y.1=some .free:=fun y hy e=>
 absurd e (of_decide_eq_true (List.all_eq_true.mp h y hy))
theorem frOf {env:Env}{scope:Scope} (sc:Scope) (h:scope.names.all (fun y=>decide (y.2≠.free) || decide (sc.names.lookup y.1=some .cell) || decide (sc.names.lookup y.1=some .free))=true) (hsc:env.scope=sc:=by rfl):∀y∈scope.names,y.2=.free->env.kindOf y.1=some .cell \/ env.kindOf y.1=some .free:=fun y hy e=>by
 subst hsc;have:=List.all_eq_true.mp h y hy;simp only[Bool.or_eq_true,decide_eq_true_eq] at this;rcases this with (q | q) | q
 ·exact absurd e q
 ·exact .inl q
 ·exact .inr q
theorem ndN (l:List Str) (h:l.Nodup:=by decide +kernel):l.Nodup:=h
theorem yes_ {te:TE}{σ:St}{H:Hp}{P:VK}{S:Hp->Prop} (h:te σ H P):tYes σ H fun b H5=>if b=true then te σ H5 P else S H5:=by
 show if true=true then te σ H P else S H;rw[if_pos rfl];exact h
theorem gyes {i:Nat}{v:V}{te:TE}{σ:St}{H:Hp}{P:St->VK}{S:St->Hp->Prop} (h:te (σ.set i (some v)) H (P (σ.set i (some v)))) :
  zaA i v σ H fun σ3 H4=>tYes σ3 H4 fun b H5=>if b=true then te σ3 H5 (P σ3) else S σ3 H5:=yes_ (S:=S (σ.set i (some v))) h
theorem zN {J:It}{g:TG}{tc:TT}{te:TE}{σ:St}{H1:Hp}{Q:VK}{D:Addr} (h:zap J g tc te σ H1 D Q):zap J g tc te σ H1 D Q:=h
end L2
namespace L2
open PySem PySem.Spec PyProof.Rows
theorem Paired.of_at {α β:Type}{R:α->β->Prop}:∀{l:List α}{m:List β},l.length=m.length->(∀(i:Nat) x y,l[i]?=some x->m[i]?=some y->R x y)->Paired R l m
 | [],[],_,_=>.nil
 | x::l,y::m,h,f=>.cons (f 0 x y rfl rfl) (Paired.of_at (by simpa using h) fun i a b h1 h2=>f (i+1) a b (by simpa using h1) (by simpa using h2))
 | [],_::_,h,_=>by simp at h
 | _::_,[],h,_=>by simp at h
end L2
end
section
namespace HT
open PySem PyProof.Rows
section
variable {prog:Program}{w:World}{A:Around}{E:Value->Shared->Prop}{s:Shared}
theorem zaV {t sl:Addr}{items:Array Value}{vl vu:Value}{lo hi:Option Int}{Q:Value->Shared->Prop} (ht:IsTup s.heap t items) (hs:s.heap.IsSliceOf sl vl vu .none) (pl:IsPart vl lo) (pu:IsPart vu hi)
  (hw:sIx items.size 0 lo=0/\sIx items.size items.size hi=items.size)
  (h:Q (.ref t) s):wpAny (model prog w) A (getItem (.ref t) (.ref sl)) Q E s:=by
 obtain⟨os,hos,hcs,hds⟩:=id hs;have hTs:s.TypeIs (.ref sl) "slice":=⟨os,hos,hcs⟩;obtain⟨ot,hot,hct,nt,hdt⟩:=id ht;unfold getItem
 try with_reducible refine wpAny_holding ?_
 first | refine wpAny_bind (wpAny_pure ?_) | skip
 refine wpAny_bind (wpAny_sequenceKey ht.typeIs (by decide) ?_);refine wpAny_bind (wpAny_callSpecial?_slot (name:=Str.ofString "__getitem__") ht.typeIs PyProof.Rows.slot_tuple_getitem
  (wpAny_call_entry PyProof.Rows.slot_tuple_getitem ht.typeIs entry_tuple_getitem ?_ (args_tuple_getitem _ _)))
 show wpAny _ _ (Builtin.Tuple.tupleItemsOf (.ref t) >>= _) _ _ s;refine wpAny_bind (tupleItemsOf_ ht ?_);refine wpAny_bind (wpAny_typeOf hTs ?_);rw[if_pos (by decide)];refine wpAny_bind (zay hs pl pu ?_);have hyes:((((sIx items.size 0 lo:Nat):Int) == 0 && (1:Int) == 1 && (sIx items.size items.size hi - sIx items.size 0 lo) == items.size)=true):=by
  rw[hw.1,hw.2]; simp
 show wpAny _ _ (if (((sIx items.size 0 lo:Nat):Int) == 0 && (1:Int) == 1 && (sIx items.size items.size hi - sIx items.size 0 lo) == items.size)=true then _ else _) _ _ s;rw[if_pos hyes];refine wpAny_bind ?_;unfold Builtin.Tuple.tupleIsExact;refine wpAny_bind (wpAny_typeOf ht.typeIs (wpAny_pure ?_));rw[if_pos (by decide)];refine wpAny_bind (wpAny_rule ?_);exact wpAny_pure ⟨_,rfl,wpAny_pure h⟩
end
end HT
namespace L2
open PySem PySem.Spec PyProof.Rows
section
variable {X:Cx}
def rSlA:V->Option Int->Option Int->Hp->VK->Prop:=fun x lo hi H Q=>∃a xs,x=.ref a/\H a=some (.tup xs)/\∀p H',Same H H'->H' p=some (.tup (cutV xs lo hi))->Q (.ref p) H'
theorem zcR:SlR X rSlA:=by
 intro pins s σ H x v vl vu lo hi sl Q I rx hs pl pu h;obtain⟨a,xs,rfl,hx,q⟩:=h
 by_cases hw:HT.sIx xs.length 0 lo=0/\HT.sIx xs.length xs.length hi=xs.length
 ·cases rx
  obtain⟨its,r,ht,hz⟩:=I.tuple (SqT.of (K:=X.K) hx);have hlen:its.toArray.size=xs.length:=by rw[List.size_toArray]; exact r.length.symm
  refine⟨"tuple",_,PyProof.Rows.slot_tuple_getitem.lookup,ht.typeIs,HT.zaV ht hs pl pu (by rw[hlen]; exact hw) ⟨.ref a,H,I,rfl,q a H (Same.refl H) ?_⟩⟩;rw[hx];unfold cutV;rw[hw.1,hw.2,List.drop_zero,Nat.sub_zero,List.take_of_length_le (Nat.le_refl _)]
 ·exact zih pins s σ H (.ref a) v vl vu lo hi sl Q I rx hs pl pu ⟨a,xs,rfl,SqT.of hx,hw,fun p hp=>q p _ (Same.new hp) upd_same⟩
end
end L2
end
section
namespace K45
open K1
open PySem L2
def top (i:Nat):Stmt:=PySem.Challenge.pw_seamwright_k45_pairs_looked_at.main.body.getD i (.Pass ⟨0,0,0,0⟩)
abbrev zbS:Stmt:=top 6
abbrev zaZ:Stmt:=top 7
abbrev sKey:Stmt:=top 9
abbrev zbr:Stmt:=top 10
abbrev sAll:Stmt:=top 11
abbrev zcd:Stmt:=top 15
structure Bt (mg:Str->Option Value):Prop where
 len:mg "len"=none
 all:mg "all"=none
 zip:mg "zip"=none
 sorted:mg "sorted"=none
 set:mg "set"=none
 list:mg "list"=none
 tuple:mg "tuple"=none
 range:mg "range"=none
 enumerate:mg "enumerate"=none
 int:mg "int"=none
 isinstance:mg "isinstance"=none
 reversed:mg "reversed"=none
 bool:mg "bool"=none
theorem zab:bootBuiltins "len"=some (.builtin "len"):=by decide +kernel
theorem zjM:bootBuiltins "all"=some (.builtin "all"):=by decide +kernel
theorem zky:bootBuiltins "zip"=some (.type "zip"):=by decide +kernel
theorem zcM:bootBuiltins "sorted"=some (.builtin "sorted"):=by decide +kernel
theorem zjI:bootBuiltins "set"=some (.type "set"):=by decide +kernel
theorem zb7:bootBuiltins "list"=some (.type "list"):=by decide +kernel
theorem zcQ:bootBuiltins "tuple"=some (.type "tuple"):=by decide +kernel
theorem zaR:bootBuiltins "enumerate"=some (.type "enumerate"):=by decide +kernel
theorem zkD:bootBuiltins "int"=some (.type "int"):=by decide +kernel
theorem zaE:bootBuiltins "isinstance"=some (.builtin "isinstance"):=by decide +kernel
theorem zjD:bootBuiltins "bool"=some (.type "bool"):=by decide +kernel
theorem zg {n:Nat} (h:n<=100000):n<=sizeLine:=by rw[sizeLine_eq]; omega
theorem zJ {n:Nat} (h:n<=100000):n<sizeLine:=by rw[sizeLine_eq]; omega
theorem zji (x:Int) (r:List Int):atI ((x::r).map V.int) (-1)=some (.int ((x::r).getLastD 0)):=by
 obtain⟨q,z,e⟩:∃q z,x::r=q++[z]:=⟨(x::r).dropLast,(x::r).getLast (List.cons_ne_nil x r),(List.dropLast_concat_getLast (List.cons_ne_nil x r)).symm⟩;rw[e,List.map_append,List.getLastD_eq_getLast?,List.getLast?_append];exact zep _ _
theorem zc4 {ps:List Int}{i:Nat}{x:V} (h:(ps.map V.int)[i]?=some x):∃p,ps[i]?=some p/\x=.int p:=by
 rw[List.getElem?_map] at h;cases e:ps[i]? with
 | none=>rw[e] at h; cases h
 | some p=>rw[e] at h; exact⟨p,rfl,(Option.some.inj h).symm⟩
theorem z0 {as:List Addr}{i:Nat}{x:V} (h:(as.map V.ref)[i]?=some x):∃a,as[i]?=some a/\x=.ref a:=by
 rw[List.getElem?_map] at h;cases e:as[i]? with
 | none=>rw[e] at h; cases h
 | some p=>rw[e] at h; exact⟨p,rfl,(Option.some.inj h).symm⟩
theorem take_snoc {α:Type}{l:List α}{i:Nat}{x:α} (h:l[i]?=some x):l.take (i+1)=l.take i++[x]:=by rw[List.take_add_one,h]; rfl
theorem take_all {α:Type} (l:List α):l.take l.length=l:=List.take_of_length_le (Nat.le_refl _)
theorem cut1 (x:Int) (r:List Int):cutV ((x::r).map V.int) (some 1) none=r.map V.int:=by
 unfold cutV;have e:HT.sIx ((x::r).map V.int).length 0 (some 1)=1:=by
  have:=HT.zb6 ((x::r).map V.int).length 0 1;rw[show ((1:Nat):Int)=1 from rfl] at this;rw[this,List.length_map,List.length_cons]; omega
 rw[e,HT.zbI];show List.take _ (r.map V.int)=_;rw[List.take_of_length_le (by simp)]
section
variable {P:Program}{w:World}{K:PySem.W.Frag}{mg:Str->Option Value}{base:Heap}
def zfZ:Sp:=fun vs H Q _=>∃a ps,vs=[.ref a]/\Tp H a ps/\∀H',Same H H'->Q (.bl (zS ps)) H'
theorem zi7:zv ["numbers"] ["numbers"] (zf zbS):=⟨rfl,rfl,rfl,by decide +kernel,rfl,by decide +kernel,by decide +kernel⟩
theorem zhx {f:Addr}{fd:FuncData}{t5 t99:Tok} (F:Fun K "is_piece" "is_piece" zbS f fd) (B:Bt mg) (m5:mg "MOST_POINTS"=some (.int 5 t5)) (m99:mg "LAST_POINT"=some (.int 99 t99)) :
  FnOk P w K mg base CX0 1 f fd ["numbers"] zfZ:=by
 refine F.ok zi7 (fun vs H Q E h=>?_) (fun cdv A outer s H vs Q E hr h=>?_)
 ·obtain⟨a,ps,rfl,_⟩:=h; rfl
 ·obtain⟨a,ps,rfl,ha,k⟩:=h
  refine⟨_,ze (zR (zb1 (zhE zi5 zi5 zi (zo zk rfl B.len zab (zc (pv 0) zd)) (zcT rfl m5 (v:=.int 5) ⟨_,rfl⟩))) (zh (zp zaL)) zw)
   (ze (zR (PW.pt (zbo (zn zhh (zx zB (pv 0) zi (fun _ _=>rfl)) zi (nomark _)) (zaP (zn ze9 (zx zB (pv 0) (ziU zf4 zi) (fun _ _=>rfl)) (zcT rfl m99 (v:=.int 99) ⟨_,rfl⟩) (nomark _))))) (zh (zp zaL)) zw)
   (zh (zp (zo (zef rfl) rfl B.all zjM (zc
    (zE ["numbers"] ["low","high"] [none,none] (zkh rfl B.zip zky (zc (pv 0) (zc (zaH zih (pv 0) (zbk zi) zbe) zd)))
     (fun cl C s₀ H₀ ex=>zeQ rfl (zai (zr (i:=0) (ndN ["low","high"]) rfl (Or.inl rfl)) (zai (zr (i:=1) (ndN ["low","high"]) rfl (Or.inl rfl)) zcv)))
     (fun cl C s₀ H₀ ex=>zak) (fun cl C s₀ H₀ ex=>zbg zhh (pv 0) (pv 1) (nomark _)) (hfr:=nofr (by decide +kernel)) (g:=gTup K 2 (zi6 (zaA 0) (zi6 (zaA 1) gNil)))) zd))))),?_⟩
  have no:zS ps=false->Q (.bl false) H:=fun e=>by have:=k H (Same.refl H); rw[e] at this; exact this
  refine⟨_,rfl,a,_,rfl,.inr (SqT.of ha),_,_,rfl,rfl,_,rfl,?_⟩;rw[List.length_map];refine ite2 (fun h1=>?_) (fun h1=>?_)
  ·refine⟨_,_,rfl,rfl,_,rfl,?_⟩
   have h1':1<=ps.length:=by have:=of_decide_eq_true h1; omega
   cases h5:decide ((ps.length:Int)<=5) with
   | false=>
    have h5':¬ ps.length<=5:=by have:=of_decide_eq_false h5; omega
    exact iteT (no (by unfold zS; rw[decide_eq_false h5']; simp))
   | true=>
    have h5':ps.length<=5:=by have:=of_decide_eq_true h5; omega
    refine iteF ?_;obtain⟨x,r,rfl⟩:∃x r,ps=x::r:=by
     cases ps with
     | nil=>simp at h1'
     | cons x r=>exact⟨x,r,rfl⟩
    refine⟨_,rfl,a,_,_,_,rfl,rfl,SqT.of ha,zq (j:=0) rfl,_,_,rfl,rfl,_,rfl,?_⟩;refine ite2 (fun hx=>?_) (fun hx=>?_)
    ·refine iteT (no ?_)
     unfold zS;rw[show decide ((x::r).headD 0<0)=true from hx];simp
    ·refine⟨_,rfl,_,rfl,a,_,_,_,rfl,rfl,SqT.of ha,zji x r,_,_,rfl,rfl,_,rfl,?_⟩
     cases hl:decide (99<(x::r).getLastD 0) with
     | true=>
      refine iteT (no ?_);unfold zS;rw[hl];simp
     | false=>
      refine iteF ?_;refine⟨_,rfl,_,rfl,_,rfl,a,_,rfl,SqT.of ha,?_,fun p hp=>?_⟩
      ·intro z
       have e:=HT.zb6 ((x::r).map V.int).length 0 1;rw[show ((1:Nat):Int)=1 from rfl,z.1,List.length_map,List.length_cons] at e;omega
      ·rw[cut1]
       have s1:Same H (upd H p (.tup (r.map V.int))):=Same.new hp;refine⟨a,p,rfl,⟨_,SqT.of (s1.tp ha)⟩,⟨_,SqT.of upd_same⟩,fun D hD=>?_⟩;have hm:min ((x::r).map V.int).length (r.map V.int).length=r.length:=by simp
       refine zN (zhr (K:=K) (xs:=(x::r).map V.int) (ys:=r.map V.int) (fun i σ zs H3=>∃v1 v2,σ=[v1,v2]/\Same (upd H p (.tup (r.map V.int))) H3/\H3 D=some (.lst zs)/\zs=((((x::r).zip r).map fun q=>decide (q.1<q.2)).take i).map V.bl)
        ⟨none,none,rfl,Same.new hD,upd_same,rfl⟩ (fun i σ zs H3 ⟨_,_,_,sm,_⟩=>⟨SqT.of (sm.tp (s1.tp ha)),SqT.of (sm _ _ upd_same)⟩) ?_ ?_)
       ·rintro i σ zs H3 p' y1 y2 e1 e2 hi hz ⟨v1,v2,rfl,sm,hD3,rfl⟩ hp'
        obtain⟨q1,g1,rfl⟩:=zc4 e1;obtain⟨q2,g2,rfl⟩:=zc4 e2;refine⟨p',_,rfl,SqT.of upd_same,rfl,_,_,rfl,_,_,rfl,rfl,yes_ ?_⟩;refine⟨_,rfl,_,rfl,_,_,rfl,rfl,cput (Nat.le_trans (Nat.min_le_right _ _) (by rw[List.length_map]; exact zg (by simp at h5'; omega))) hi hz (by rw[upd_ne (zj hD3 hp')]; exact hD3) ⟨_,_,rfl,?_,upd_same,?_⟩⟩
        ·exact (sm.then (sm.free hp')).then hD
        ·have e3:(((x::r).zip r).map fun q=>decide (q.1<q.2))[i]?=some (decide (q1<q2)):=by
          rw[List.getElem?_map,Srt.zipget,g1,g2]; rfl
         rw[take_snoc e3,List.map_append]; rfl
       ·rintro σ zs H3 ⟨v1,v2,rfl,sm,hD3,rfl⟩
        refine⟨D,(((x::r).zip r).map fun q=>decide (q.1<q.2)),rfl,SqL.of ?_,?_⟩
        ·rw[hD3,hm,List.take_of_length_le (by simp)]
        ·have:=k H3 (s1.trans sm)
         have e4:=zdv (x::r);rw[show (x::r).drop 1=r from rfl] at e4;rw[e4];have e5:zS (x::r)=rises (x::r):=by
          unfold zS;rw[decide_eq_true h1',decide_eq_true h5',hl];rw[show decide ((x::r).headD 0<0)=false from by simpa using hx]
          rfl
         rw[e5] at this;exact this
  ·refine⟨_,rfl,iteT (no ?_)⟩
   have h1':¬ 1<=ps.length:=fun z=>h1 (decide_eq_true (by omega));unfold zS;rw[decide_eq_false h1']
   rfl
end
end K45
end
section
namespace K45
open K1
open PySem L2
section
variable {P:Program}{w:World}{K:PySem.W.Frag}{mg:Str->Option Value}{base:Heap}
def zcN:Sp:=fun vs H Q _=>∃a ps,vs=[.ref a]/\Tp H a ps/\ps.length<=5/\∀D as H',Same H H'->H D=none->H' D=some (.lst (as.map V.ref))->Tps H' as (parts ps)->Q (.ref D) H'
theorem zcL:zv ["piece","found","point"] ["piece"] (zf zaZ):=⟨rfl,rfl,rfl,by decide +kernel,rfl,by decide +kernel,by decide +kernel⟩
theorem pow5 {n:Nat} (h:n<=5):2 ^ n<=32:=by
 have:2 ^ n<=2 ^ 5:=Nat.pow_le_pow_right (by decide) h;exact this
theorem zcn {H2:Hp}{as:List Addr}{fs:List (List Int)}{q:Int}{D:Addr}{l:Addr}{Q:VK} (hl:H2 l=some (.lst (as.map V.ref))) (ht:Tps H2 as fs) (hz:as.length<=100) (hz2:∀f∈fs,f.length<=100) (hD:H2 D=none)
  (k:∀bs H3,Same H2 H3->H3 D=some (.lst (bs.map V.ref))->Tps H3 bs (fs.map (·++[q]))->Q (.ref D) H3) :
  zap (Itl K l) (zaA 0) tYes (tOp zjd (tVar 0) (tTup (zU (tVar 1) tNil))) [none,some (.int q)] H2 D Q:=by
 have hla:=ht.length;refine zaf (xs:=as.map V.ref) (fun j σ ys H3=>∃bs v,σ=[v,some (.int q)]/\Same H2 H3/\H3 D=some (.lst ys)/\ys=bs.map V.ref/\Tps H3 bs ((fs.take j).map (·++[q]))) ?_ ?_ ?_ ?_
 ·exact⟨[],none,rfl,Same.new hD,upd_same,rfl,.nil⟩
 ·rintro j σ ys H3 ⟨bs,v,rfl,sm,hD3,rfl,hb⟩
  exact SqL.of (sm _ _ hl)
 ·rintro j σ ys H3 x hx hj hy ⟨bs,v,rfl,sm,hD3,rfl,hb⟩
  obtain⟨a,ea,rfl⟩:=z0 hx;obtain⟨f,ef,hf⟩:=ht.get ea;refine gyes ?_;refine⟨_,rfl,_,rfl,zg (by simp),fun t htn=>?_⟩;have hf3:=sm.tp hf;have s1:Same H3 (upd H3 t (.tup [.int q])):=Same.new htn;refine⟨a,t,_,_,rfl,rfl,s1 _ _ hf3,upd_same,?_,fun p H4 s2 hp=>?_⟩
  ·rw[List.length_map]
   exact zg (by have:=hz2 f (List.mem_of_getElem? ef); simp; omega)
  ·have s3:Same H3 H4:=s1.trans s2
   refine cput (ys:=bs.map V.ref) (by rw[List.length_map]; exact zg (by omega)) hj hy (s3 _ _ hD3) ⟨bs++[p],_,rfl,(sm.trans s3).then hD,upd_same,by rw[List.map_append]; rfl,?_⟩;rw[take_snoc ef,List.map_append];have hpD:p≠D:=zbA hp (s3 _ _ hD3) (by intro z; cases z);have keep:∀c xs,H4 c=some (.tup xs)->upd H4 D (.lst (bs.map V.ref++[V.ref p])) c=some (.tup xs):=fun c xs e=>by
    rw[upd_ne (zbA e (s3 _ _ hD3) (by intro z; cases z))]; exact e
   refine Tps.snoc (Paired.mapP (s3.tps hb) fun c xs e=>keep c _ e) (keep p _ ?_);rw[hp,List.map_append]; rfl
 ·rintro σ ys H3 ⟨bs,v,rfl,sm,hD3,rfl,hb⟩
  rw[List.length_map,hla,take_all] at hb;exact k bs H3 sm hD3 hb
theorem zg9 {f:Addr}{fd:FuncData} (F:Fun K "parts_of" "parts_of" zaZ f fd):FnOk P w K mg base CX0 1 f fd ["piece"] zcN:=by
 refine F.ok zcL (fun vs H Q E h=>?_) (fun cdv A outer s H vs Q E hr h=>?_)
 ·obtain⟨a,ps,rfl,_⟩:=h; rfl
 ·obtain⟨a,ps,rfl,ha,h5,k⟩:=h
  refine⟨_,ze (zt (i:=1) zcL.nd rfl (Or.inl rfl) (zz (zc (zaa zd) zd)))
   (ze (zX PassesOwn.never rfl (zdq (pv 0)) (zr (i:=2) zcL.nd rfl (Or.inr rfl))
    (zh (zt (i:=1) zcL.nd rfl (Or.inl rfl) (zC zbW (pv 1) (zE ["piece","found","point"] ["part","point"] [none,some 2] (zH (pv 1)) (fun cl C s₀ H₀ ex=>zr (i:=0) (ndN ["part","point"]) rfl (Or.inl rfl)) (fun cl C s₀ H₀ ex=>zak)
     (fun cl C s₀ H₀ ex=>zC zcG (pv 0) (zaa (zc (pv 1) zd))) (hfr:=frOf (zf zaZ) (by decide +kernel)))))))
   (zh (zp (zaH zjb (pv 1) (zbk zi) zbe)))),?_⟩
  refine⟨zg (by simp),fun e he=>⟨zg (by simp),fun l hl=>?_⟩⟩;have s1:Same H (upd (upd H e (.tup [])) l (.lst [.ref e])):=(Same.new he).then ((Same.new he).free hl);have hle:e≠l:=zj (H:=upd H e (.tup [])) upd_same hl;refine⟨_,rfl,a,rfl,⟨_,SqT.of (s1 _ _ ha)⟩,zd1 (K:=K) (a:=a) (xs:=ps.map V.int) (fun i σ H2=>∃l as v,σ=[some (.ref a),some (.ref l),v]/\Same H H2/\H l=none/\H2 l=some (.lst (as.map V.ref))/\Tps H2 as (subs (ps.take i)))
   ⟨l,[e],none,rfl,s1,(Same.new he).free hl,upd_same,.cons (by show upd _ _ _ e=_; rw[upd_ne hle]; exact upd_same) .nil⟩ (fun i σ H2 _ ⟨_,_,_,_,sm,_⟩=>SqT.of (sm _ _ ha)) ?_ ?_⟩
  ·rintro i x σ H2 hx ⟨l,as,v,rfl,sm,hl0,hl,ht⟩
   obtain⟨q,eq,rfl⟩:=zc4 hx;have hi:i<ps.length:=(List.getElem?_eq_some_iff.mp eq).1;have hla:=ht.length;have hn:as.length<=32:=by
    rw[hla,zbD,List.length_take];exact pow5 (by omega)
   have hm:∀f∈subs (ps.take i),f.length<=100:=fun f hf=>by
    have:=zbx _ f hf;rw[List.length_take] at this;omega
   refine⟨_,rfl,_,rfl,l,rfl,⟨_,SqL.of hl⟩,fun D hD=>zN (zcn hl ht (by omega) hm hD fun bs H3 sm3 hD3 hb=>?_)⟩;have hlb:=hb.length;rw[List.length_map] at hlb;refine⟨l,D,_,_,rfl,rfl,sm3 _ _ hl,hD3,by rw[List.length_map,List.length_map]; exact zg (by omega),fun l2 hl2=>?_⟩;have h02:H l2=none:=(sm.trans sm3).free hl2;refine⟨l2,as++bs,_,rfl,(sm.trans sm3).then h02,h02,by rw[upd_same,List.map_append],?_⟩;rw[take_snoc eq,zbU];exact (Same.new hl2).tps ((sm3.tps ht).append hb)
  ·rintro σ H2 ⟨l,as,v,rfl,sm,hl0,hl,ht⟩
   rw[List.length_map,take_all] at ht;refine⟨_,rfl,_,rfl,l,_,rfl,SqL.of hl,fun D hD=>?_⟩;have h0:H D=none:=sm.free hD;obtain⟨t,et,_⟩:=zcg ps;refine k D (as.drop 1) _ (sm.then h0) h0 ?_ ?_
   ·rw[upd_same]
    unfold cutV;have hl1:1<=as.length:=by rw[ht.length,et]; simp
    have e1:HT.sIx (as.map V.ref).length 0 (some 1)=1:=by
     have:=HT.zb6 (as.map V.ref).length 0 1;rw[show ((1:Nat):Int)=1 from rfl] at this;rw[this,List.length_map]; omega
    rw[e1,HT.zbI,<- List.map_drop,List.take_of_length_le (by simp)]
   ·exact (Same.new hD).tps (ht.drop 1)
theorem zkt:zv ["piece"] ["piece"] (zf sKey):=⟨rfl,rfl,rfl,by decide +kernel,rfl,by decide +kernel,by decide +kernel⟩
theorem zjU {f:Addr}{fd:FuncData} (F:Fun K "order_key" "order_key" sKey f fd) (B:Bt mg):FnOk P w K mg base CX0 1 f fd ["piece"] zhb:=by
 refine F.ok zkt (fun vs H Q E h=>?_) (fun cdv A outer s H vs Q E hr h=>?_)
 ·obtain⟨a,ps,rfl,_⟩:=h; rfl
 ·obtain⟨a,ps,rfl,ha,k⟩:=h
  refine⟨_,zh (zp (zaa (zc (zo zk rfl B.len zab (zc (pv 0) zd)) (zc (pv 0) zd)))),?_⟩;refine⟨_,rfl,a,_,rfl,.inr (SqT.of ha),_,rfl,zg (by simp),fun p hp=>?_⟩;rw[List.length_map];exact k p hp
def zgl (K:PySem.W.Frag):Sp:=fun vs H Q _=>∃l as pss,vs=[.ref l]/\SqL K H l (as.map V.ref)/\Tps H as pss/\pss.length<64/\
 ∀D H2 (qs:List (List Int×Addr)),Same H H2->H D=none->H2 D=some (.lst (qs.map fun q=>V.ref q.2))->qs.Perm (pss.zip as)->qs.Pairwise (fun a b=>HT.lexLt ((b.1.length:Int)::b.1) ((a.1.length:Int)::a.1)=false)->Q (.ref D) H2
theorem zje:zv ["some"] ["some"] (zf zbr):=⟨rfl,rfl,rfl,by decide +kernel,rfl,by decide +kernel,by decide +kernel⟩
theorem zg6 {f fk:Addr}{fd fdk:FuncData} (F:Fun K "in_order" "in_order" zbr f fd) (B:Bt mg) (Fk:Fun K "order_key" "order_key" sKey fk fdk) (bk:Binds K fdk ["piece"] []) (mk:mg "order_key"=some (.ref fk)):FnOk P w K mg base CX0 4 f fd ["some"] (zgl K):=by
 have Gk:FnOk P w K mg base CX0 1 fk fdk ["piece"] zhb:=zjU Fk B;refine F.ok zje (fun vs H Q E h=>?_) (fun cdv A outer s H vs Q E hr h=>?_)
 ·obtain⟨l,as,pss,rfl,_⟩:=h; rfl
 ·obtain⟨l,as,pss,rfl,hl,ht,h64,k⟩:=h
  refine⟨_,zh (zp (ze7 Gk hr bk rfl B.sorted zcM rfl mk (zc (pv 0) zd))),?_⟩;exact⟨_,rfl,l,as,pss,rfl,hl,ht,h64,k⟩
end
end K45
end
section
namespace K45
open K1
open PySem L2 STb
theorem Tps.upd {H:Hp}{d:Addr}{o o':HO}{as:List Addr}{pss:List (List Int)} (h:Tps H as pss) (hd:H d=some o') (hn:∀xs,o'≠.tup xs):Tps (L2.upd H d o) as pss:=
 Paired.mapP h fun a ps e=>by
  show L2.upd H d o a=_;rw[upd_ne (zbA (show H a=some _ from e) hd fun z=>hn _ z.symm)]; exact e
def kvM (seq:List (List Int)):List (List Key×V):=(dd seq).map fun ps=>((ps.map Sum.inl:List Key),V.bl true)
theorem zbX (seq:List (List Int)):(kvM seq).length<=seq.length:=by unfold kvM; rw[List.length_map]; exact zaM seq
theorem zbN (seq:List (List Int)) (ps:List Int):putK (kvM seq) (ps.map Sum.inl) (.bl true)=kvM (seq++[ps]):=by
 unfold putK kvM;rw[zbl];have ha:(((dd seq).map fun ps=>((ps.map Sum.inl:List Key),V.bl true)).any fun kv=>decide (kv.1=ps.map Sum.inl))=decide (ps∈dd seq):=by
  rw[List.any_map]
  by_cases h:ps∈dd seq
  ·rw[decide_eq_true h,List.any_eq_true]
   exact⟨ps,h,by simp⟩
  ·rw[decide_eq_false h,List.any_eq_false]
   intro q hq;simp only[Function.comp,decide_eq_true_eq,zd3];rintro rfl;exact h hq
 rw[ha]
 by_cases h:ps∈dd seq
 ·rw[decide_eq_true h,if_pos rfl,if_pos h,List.map_map]
  refine List.map_congr_left fun q hq=>?_;simp only[Function.comp];split <;> rfl
 ·rw[decide_eq_false h,if_neg (by simp),if_neg h,List.map_append]
  rfl
theorem zeq {H:Hp}{seq:List (List Int)}{bs:List Addr} (h:Paired (fun (p:List Key×V) b=>H b=some (.tup (p.1.map kV))) (kvM seq) bs):Tps H bs (dd seq):=by
 unfold kvM at h;generalize dd seq=l at h
 induction l generalizing bs with
 | nil=>cases h; exact .nil
 | cons x l ih=>
  rw[List.map_cons] at h;cases h with
  | cons r t=>
   refine .cons ?_ (ih t);show H _=_;rw[r,List.map_map]
   rfl
theorem zei (pss:List (List Int)) (h:∀ps∈pss,ps.length<=5):(pss.flatMap parts).length<=31*pss.length:=by
 induction pss with
 | nil=>simp
 | cons x l ih=>
  rw[List.flatMap_cons,List.length_append,zat,List.length_cons];have:=ih fun ps hp=>h ps (List.mem_cons_of_mem _ hp);have:=pow5 (h x List.mem_cons_self);omega
theorem zdb {pss:List (List Int)}{i:Nat}{ps:List Int} (h:pss[i]?=some ps):(pss.take (i+1)).flatMap parts=(pss.take i).flatMap parts++parts ps:=by
 rw[take_snoc h,List.flatMap_append]; simp
def Told (H H2:Hp) (pss:List (List Int)) (D:Addr) (qs:List (List Int×Addr)):Prop:=
 Same H H2/\H D=none/\H2 D=some (.lst (qs.map fun q=>V.ref q.2))/\(∀q∈qs,Tp H2 q.2 q.1)/\(qs.map (·.1)).Perm (dd (pss.flatMap parts))/\qs.Pairwise (fun a b=>HT.lexLt ((b.1.length:Int)::b.1) ((a.1.length:Int)::a.1)=false)
section
variable {P:Program}{w:World}{K:PySem.W.Frag}{mg:Str->Option Value}{base:Heap}
def zgH (K:PySem.W.Frag):Sp:=fun vs H Q _=>∃l as pss,vs=[.ref l]/\SqL K H l (as.map V.ref)/\Tps H as pss/\(∀ps∈pss,ps.length<=5)/\pss.length<=200/\(dd (pss.flatMap parts)).length<64/\∀D H2 qs,Told H H2 pss D qs->Q (.ref D) H2
theorem zhs:zv ["some","found","piece","part"] ["some"] (zf sAll):=⟨rfl,rfl,rfl,by decide +kernel,rfl,by decide +kernel,by decide +kernel⟩
theorem zh3 {f fp fo fk:Addr}{fd fdp fdo fdk:FuncData} (F:Fun K "all_parts" "all_parts" sAll f fd) (B:Bt mg)
  (Fp:Fun K "parts_of" "parts_of" zaZ fp fdp) (bp:Binds K fdp ["piece"] []) (mp:mg "parts_of"=some (.ref fp)) (Fo:Fun K "in_order" "in_order" zbr fo fdo) (bo:Binds K fdo ["some"] []) (mo:mg "in_order"=some (.ref fo))
  (Fk:Fun K "order_key" "order_key" sKey fk fdk) (bk:Binds K fdk ["piece"] []) (mk:mg "order_key"=some (.ref fk)):FnOk P w K mg base CX0 5 f fd ["some"] (zgH K):=by
 have Gp:FnOk P w K mg base CX0 1 fp fdp ["piece"] zcN:=zg9 Fp;have Go:FnOk P w K mg base CX0 4 fo fdo ["some"] (zgl K):=zg6 Fo B Fk bk mk;refine F.ok zhs (fun vs H Q E h=>?_) (fun cdv A outer s H vs Q E hr h=>?_)
 ·obtain⟨l,as,pss,rfl,_⟩:=h; rfl
 ·obtain⟨l,as,pss,rfl,hl,ht,h5,h20,h64,k⟩:=h
  have hu:=ze6 hr;have hr1:Room 1 _:=hr.mono (by decide);refine⟨_,ze (zt (i:=1) zhs.nd rfl (Or.inl rfl) zaY)
   (ze (zX PassesOwn.never rfl (zH (pv 0)) (zr (i:=2) zhs.nd rfl (Or.inl rfl))
    (zh (zX PassesOwn.never rfl (zH (zl Gp hr1 rfl mp Fp.kp bp .nil pass0 (zc (pv 2) zd))) (zr (i:=3) zhs.nd rfl (Or.inl rfl))
     (zh (zbd hu (pv 1) (pv 3) zaL rfl)))))
   (zh (zp (zl Go hr rfl mo Fo.kp bo .nil pass0 (zc (zF (zbs rfl) rfl B.list zb7 (zc (pv 1) zd)) zd))))),?_⟩
  intro d hd;have hla:=ht.length;refine⟨_,rfl,l,rfl,⟨_,(Same.new hd).seq hl⟩,zah (K:=K) (a:=l) (xs:=as.map V.ref) (fun i σ H2=>∃v v',σ=[some (.ref l),some (.ref d),v,v']/\Same H H2/\H2 d=some (.dT (kvM ((pss.take i).flatMap parts))))
   ⟨none,none,rfl,Same.new hd,upd_same⟩ (fun i σ H2 _ ⟨_,_,_,sm,_⟩=>sm.seq hl) ?_ ?_⟩
  ·rintro i x σ H2 hx ⟨v,v',rfl,sm,hd2⟩
   obtain⟨a,ea,rfl⟩:=z0 hx;obtain⟨ps,eps,hps⟩:=ht.get ea;have hps5:=h5 ps (List.mem_of_getElem? eps);have hi:i<pss.length:=(List.getElem?_eq_some_iff.mp eps).1;refine⟨_,rfl,a,ps,rfl,sm.tp hps,hps5,fun D cs H3 sm3 hD0 hD hcs=>⟨D,rfl,⟨_,SqL.of hD⟩,?_⟩⟩;have hlc:=hcs.length;have hdD:D≠d:=zbA hD (sm3 _ _ hd2) (by intro z; cases z);refine zah (K:=K) (a:=D) (xs:=cs.map V.ref) (fun j σ H4=>∃v',σ=[some (.ref l),some (.ref d),some (.ref a),v']/\Same H H4/\H4 D=some (.lst (cs.map V.ref))/\Tps H4 cs (parts ps)/\H4 d=some (.dT (kvM ((pss.take i).flatMap parts++(parts ps).take j))))
    ⟨_,rfl,sm.trans sm3,hD,hcs,by rw[List.take_zero,List.append_nil]; exact sm3 _ _ hd2⟩ (fun j σ H4 _ ⟨_,_,_,q,_⟩=>SqL.of q) ?_ ?_
   ·rintro j x σ H4 hx ⟨v',rfl,sm4,hD4,hcs4,hd4⟩
    obtain⟨c,ec,rfl⟩:=z0 hx;obtain⟨f,ef,hf⟩:=hcs4.get ec;have hlen:(kvM ((pss.take i).flatMap parts++(parts ps).take j)).length<sizeLine:=by
     refine zJ (Nat.le_trans (zbX _) ?_);rw[List.length_append];have h1:=zei (pss.take i) (fun q hq=>h5 q (List.mem_of_mem_take hq));have h2:=zat ps;have h3:=pow5 hps5;rw[List.length_take] at h1 ⊢;omega
    refine⟨_,rfl,_,rfl,d,_,rfl,DPut.t (k:=f.map Sum.inl) hd4 (by rw[List.map_map]; exact hf) hlen,⟨_,rfl,sm4.then hd,?_,?_,?_⟩⟩
    ·rw[upd_ne hdD]; exact hD4
    ·exact Tps.upd hcs4 hd4 (by intro xs z; cases z)
    ·rw[upd_same,zbN,List.append_assoc,<- take_snoc ef]
   ·rintro σ H4 ⟨v',rfl,sm4,hD4,hcs4,hd4⟩
    refine⟨_,_,rfl,sm4,?_⟩;rw[List.length_map,hlc,take_all] at hd4;rw[zdb eps];exact hd4
  ·rintro σ H2 ⟨v,v',rfl,sm,hd2⟩
   rw[List.length_map,hla,take_all] at hd2;refine⟨_,rfl,d,_,rfl,hd2,fun bs hb l2 hl2=>?_⟩;have tb:=zeq hb;have hlb:=tb.length;refine⟨l2,bs,dd (pss.flatMap parts),rfl,SqL.of upd_same,(Same.new hl2).tps tb,h64,fun D H3 qs sm3 hD hD3 hp hs=>?_⟩;have hl20:H l2=none:=sm.free hl2;refine k D H3 qs ⟨(sm.then hl20).trans sm3,(sm.then hl20).free hD,hD3,fun q hq=>?_,?_,hs⟩
   ·obtain⟨m,em⟩:=List.mem_iff_getElem?.mp (hp.mem_iff.mp hq)
    rw[Srt.zipget] at em;cases e1:(dd (pss.flatMap parts))[m]? with
    | none=>rw[e1] at em; cases em
    | some f=>
     cases e2:bs[m]? with
     | none=>rw[e1,e2] at em; cases em
     | some b=>
      rw[e1,e2] at em;obtain rfl:(f,b)=q:=Option.some.inj em;exact sm3.tp ((Same.new hl2).tp (zba tb m b f e2 e1))
   ·have:=hp.map (·.1)
    rw[List.map_fst_zip (by omega)] at this;exact this
def zfM (K:PySem.W.Frag):Sp:=fun vs H Q _=>∃l as pss,vs=[.ref l]/\SqL K H l (as.map V.ref)/\Tps H as pss/\(pss.all zS=true->(dd (pss.flatMap parts)).length<64)/\∀H',Same H H'->Q (.bl (webM pss)) H'
theorem zi9:zv ["web"] ["web"] (zf zcd):=⟨rfl,rfl,rfl,by decide +kernel,rfl,by decide +kernel,by decide +kernel⟩
theorem zhD {f fi fa fp fo fk:Addr}{fd fdi fda fdp fdo fdk:FuncData}{t5 t99 t20 t200:Tok} (F:Fun K "is_web" "is_web" zcd f fd) (B:Bt mg) (m5:mg "MOST_POINTS"=some (.int 5 t5)) (m99:mg "LAST_POINT"=some (.int 99 t99))
  (m20:mg "MOST_HANDED"=some (.int 20 t20)) (m200:mg "MOST_PIECES"=some (.int 200 t200))
  (Fi:Fun K "is_piece" "is_piece" zbS fi fdi) (bi:Binds K fdi ["numbers"] []) (mi:mg "is_piece"=some (.ref fi))
  (Fa:Fun K "all_parts" "all_parts" sAll fa fda) (ba:Binds K fda ["some"] []) (ma:mg "all_parts"=some (.ref fa))
  (Fp:Fun K "parts_of" "parts_of" zaZ fp fdp) (bp:Binds K fdp ["piece"] []) (mp:mg "parts_of"=some (.ref fp)) (Fo:Fun K "in_order" "in_order" zbr fo fdo) (bo:Binds K fdo ["some"] []) (mo:mg "in_order"=some (.ref fo))
  (Fk:Fun K "order_key" "order_key" sKey fk fdk) (bk:Binds K fdk ["piece"] []) (mk:mg "order_key"=some (.ref fk)):FnOk P w K mg base CX0 6 f fd ["web"] (zfM K):=by
 have Gi:FnOk P w K mg base CX0 1 fi fdi ["numbers"] zfZ:=zhx Fi B m5 m99;have Ga:FnOk P w K mg base CX0 5 fa fda ["some"] (zgH K):=zh3 Fa B Fp bp mp Fo bo mo Fk bk mk;refine F.ok zi9 (fun vs H Q E h=>?_) (fun cdv A outer s H vs Q E hr h=>?_)
 ·obtain⟨l,as,pss,rfl,_⟩:=h; rfl
 ·obtain⟨l,as,pss,rfl,hl,ht,h64,k⟩:=h
  have hu64:=hr.units;have hr1:Room 1 _:=hr.mono (by decide);refine⟨_,ze (zR (zn ze9 (zo zk rfl B.len zab (zc (pv 0) zd)) (zcT rfl m20 (v:=.int 20) ⟨_,rfl⟩) (nomark _)) (zh (zp zaL)) zw)
   (ze (zR (zb1 (zbP (zo (zef rfl) rfl B.all zjM (zc
    (zE ["web"] ["numbers"] [none] (zH (pv 0)) (fun cl C s₀ H₀ ex=>zr (i:=0) (ndN ["numbers"]) rfl (Or.inl rfl)) (fun cl C s₀ H₀ ex=>zak)
     (fun cl C s₀ H₀ ex=>zl Gi hr1 rfl mi Fi.kp bi .nil pass0 (zc (pv 0) zd)) (hfr:=nofr (by decide +kernel))) zd)))) (zh (zp zaL)) zw)
   (ze (zR (zn zhh (zo za2 rfl B.len zab (zc (zF (zdy rfl hu64) rfl B.set zjI (zc (pv 0) zd)) zd)) (zo zk rfl B.len zab (zc (pv 0) zd)) (nomark _)) (zh (zp zaL)) zw)
   (zh (zp (zbg zi5 (zo zk rfl B.len zab (zc (zl Ga hr rfl ma Fa.kp ba .nil pass0 (zc (pv 0) zd)) zd)) (zcT rfl m200 (v:=.int 200) ⟨_,rfl⟩) (nomark _)))))),?_⟩
  have hla:=ht.length;refine⟨_,rfl,l,_,rfl,.inl hl,_,_,rfl,rfl,_,rfl,?_⟩;rw[List.length_map];refine ite2 (fun h1=>?_) (fun h1=>?_)
  ·have:=k H (Same.refl H)
   rw[zgO pss (by have:=of_decide_eq_true h1; omega)] at this;exact this
  ·have h20:pss.length<=20:=by
    have:¬ ((20:Int)<as.length):=fun z=>h1 (decide_eq_true z);omega
   refine⟨_,rfl,l,rfl,⟨_,hl⟩,fun D hD=>zN (zaf (K:=K) (a:=l) (xs:=as.map V.ref) (fun i σ ys H3=>∃v,σ=[v]/\Same H H3/\H3 D=some (.lst ys)/\ys=((pss.map zS).take i).map V.bl)
    ⟨none,rfl,Same.new hD,upd_same,rfl⟩ (fun i σ ys H3 ⟨_,_,sm,_⟩=>sm.seq hl) ?_ ?_)⟩
   ·rintro i σ ys H3 x hx hi hy ⟨v,rfl,sm,hD3,rfl⟩
    obtain⟨a,ea,rfl⟩:=z0 hx;obtain⟨ps,eps,hps⟩:=ht.get ea;refine gyes ?_;refine⟨_,rfl,a,ps,rfl,sm.tp hps,fun H4 sm4=>cput (by rw[List.length_map]; exact zg (by omega)) hi hy (sm4 _ _ hD3) ⟨_,rfl,(sm.trans sm4).then hD,upd_same,?_⟩⟩;have e:(pss.map zS)[i]?=some (zS ps):=by rw[List.getElem?_map,eps]; rfl
    rw[take_snoc e,List.map_append]; rfl
   ·rintro σ ys H3 ⟨v,rfl,sm,hD3,rfl⟩
    rw[List.length_map,hla,List.take_of_length_le (by simp)] at hD3;refine⟨D,pss.map zS,rfl,SqL.of hD3,_,rfl,?_⟩;have eall:(pss.map zS).all id=pss.all zS:=by rw[List.all_map]; rfl
    rw[eall];cases hp:pss.all zS with
    | false=>
     refine iteT ?_;have:=k H3 sm;rw[show webM pss=false from by unfold webM; rw[hp]; simp] at this;exact this
    | true=>
     refine iteF ?_;refine⟨_,rfl,l,as,pss,rfl,sm.seq hl,sm.tps ht,by omega,fun S hS=>?_⟩;have sS:Same H (upd H3 S (SetN S (dd pss).length)):=sm.then (sm.free hS);refine⟨S,_,rfl,upd_same,_,rfl,l,_,rfl,.inl (sS.seq hl),_,_,rfl,rfl,_,rfl,?_⟩;rw[List.length_map,hla];refine ite2 (fun h2=>?_) (fun h2=>?_)
     ·have h2':(dd pss).length<pss.length:=by have:=of_decide_eq_true h2; omega
      have:=k _ sS;rw[show webM pss=false from by unfold webM; rw[decide_eq_true h2']; simp] at this;exact this
     ·have h2':¬ (dd pss).length<pss.length:=fun z=>h2 (decide_eq_true (by omega))
      refine⟨_,rfl,l,as,pss,rfl,sS.seq hl,sS.tps ht,fun ps hps=>?_,Nat.le_trans h20 (by decide),h64 hp,fun D2 H4 qs ⟨sm4,_,hD4,_,hperm,_⟩=>?_⟩
      ·have:=List.all_eq_true.mp hp ps hps
       unfold zS at this;simp only[Bool.and_eq_true,decide_eq_true_eq] at this;exact this.1.1.1.2
      ·refine⟨D2,_,rfl,.inl (SqL.of hD4),_,_,rfl,rfl,?_⟩
       have hlen:(qs.map fun q=>V.ref q.2).length=(dd (pss.flatMap parts)).length:=by
        rw[List.length_map,<- hperm.length_eq,List.length_map]
       rw[hlen];have:=k H4 (sS.trans sm4);have e:webM pss=decide (((dd (pss.flatMap parts)).length:Int)<=200):=by
        unfold webM;rw[hp,decide_eq_true h20,decide_eq_false h2']
        by_cases q:(dd (pss.flatMap parts)).length<=200
        ·rw[decide_eq_true q,decide_eq_true (show ((dd (pss.flatMap parts)).length:Int)<=200 by omega)]; rfl
        ·rw[decide_eq_false q,decide_eq_false (show ¬ ((dd (pss.flatMap parts)).length:Int)<=200 by omega)]; rfl
       rw[e] at this;exact this
end
end K45
end
section
namespace K45
open K1
open PySem L2 STb
abbrev zdF:Stmt:=top 26
abbrev sBox:Stmt:=top 27
abbrev zci:Stmt:=top 28
def zjW (x y:Int):Prop:=0<=x/\(y=0 \/ (y=1/\x<4294967296))
def zM (H:Hp) (p:Addr):Prop:=∃x y,H p=some (.lst [.int x,.int y])/\zjW x y
def zT (p:Addr) (H H':Hp):Prop:=∀b o,b≠p->H b=some o->H' b=some o
theorem zT.trans {p:Addr}{H H1 H2:Hp} (a:zT p H H1) (b:zT p H1 H2):zT p H H2:=fun c o hc e=>b c o hc (a c o hc e)
theorem zT.of {p:Addr}{H H1:Hp} (a:Same H H1):zT p H H1:=fun c o _ e=>a c o e
theorem zT.free {p:Addr}{H H':Hp} (e:zT p H H') (hb:zM H p) (hb':zM H' p) {l:Addr} (h:H' l=none):H l=none:=by
 cases q:H l with
 | none=>rfl
 | some o=>
  obtain⟨x,y,e1,_⟩:=hb';have hl:l≠p:=fun z=>by rw[z,e1] at h; cases h
  rw[e l o hl q] at h;cases h
theorem zM.same {H H':Hp}{p:Addr} (b:zM H p) (e:Same H H'):zM H' p:=let ⟨x,y,h,o⟩:=b; ⟨x,y,e _ _ h,o⟩
theorem zM.ne {H:Hp}{p l:Addr}{as:List Addr} (b:zM H p) (h:H l=some (.lst (as.map V.ref))):l≠p:=by
 obtain⟨x,y,e,_⟩:=b;refine zbA h e fun z=>?_;injection z with z
 cases as with
 | nil=>cases z
 | cons a r=>rw[List.map_cons] at z; cases z
theorem zM.net {H:Hp}{p t:Addr}{xs:List V} (b:zM H p) (h:H t=some (.tup xs)):t≠p:=by
 obtain⟨x,y,e,_⟩:=b;exact zbA h e (by intro z; cases z)
theorem zT.tp {p:Addr}{H H':Hp}{a:Addr}{ps:List Int} (e:zT p H H') (b:zM H p) (h:Tp H a ps):Tp H' a ps:=e _ _ (b.net h) h
theorem zT.tps {p:Addr}{H H':Hp}{as:List Addr}{pss:List (List Int)} (e:zT p H H') (b:zM H p) (h:Tps H as pss):Tps H' as pss:=Paired.mapP h fun _ _ q=>e.tp b q
theorem zT.then {p:Addr}{H H1:Hp}{a:Addr}{o:HO} (e:zT p H H1) (h:H a=none):zT p H (L2.upd H1 a o):=fun b u hb q=>by rw[upd_ne (zj q h)]; exact e b u hb q
theorem zM.upd {H:Hp}{p l:Addr}{o:HO} (b:zM H p) (h:l≠p):zM (L2.upd H l o) p:=let ⟨x,y,e,k⟩:=b; ⟨x,y,by rw[upd_ne h.symm]; exact e,k⟩
theorem zM.new {H:Hp}{p l:Addr}{o:HO} (b:zM H p) (h:H l=none):zM (L2.upd H l o) p:=b.same (Same.new h)
section
variable {P:Program}{w:World}{K:PySem.W.Frag}{mg:Str->Option Value}{base:Heap}
def zie (K:PySem.W.Frag):Sp:=fun vs H Q _=>∃(l:Addr) (ns:List Int),vs=[.ref l,.int 0]/\SqL K H l (ns.map V.int)/\∀n,Q (.int n) H
theorem zjV:zv ["script","k"] ["script","k"] (zf zdF):=⟨rfl,rfl,rfl,by decide +kernel,rfl,by decide +kernel,by decide +kernel⟩
theorem ziH {f:Addr}{fd:FuncData} (F:Fun K "_law_cell_at" "_law_cell_at" zdF f fd) (B:Bt mg):FnOk P w K mg base CX0 1 f fd ["script","k"] (zie K):=by
 refine F.ok zjV (fun vs H Q E h=>?_) (fun cdv A outer s H vs Q E hr h=>?_)
 ·obtain⟨l,ns,rfl,_⟩:=h; rfl
 ·obtain⟨l,ns,rfl,hl,k⟩:=h
  refine⟨_,ze (zR (zn zhh (pv 1) (zo zk rfl B.len zab (zc (pv 0) zd)) (nomark _)) (zh (zp (zx zK (pv 0) (pv 1) (fun _ _=>rfl)))) zw) (zh (zp zi)),?_⟩;refine⟨_,rfl,_,rfl,l,_,rfl,.inl hl,_,_,rfl,rfl,_,rfl,?_⟩;refine ite2 (fun h1=>?_) (fun h1=>?_)
  ·cases ns with
   | nil=>have:=of_decide_eq_true h1; simp at this
   | cons n ns=>exact⟨_,rfl,_,rfl,l,_,_,_,rfl,rfl,hl,zq (j:=0) rfl,k n⟩
  ·exact k 0
def zj9:Sp:=fun vs H Q _=>∃n,vs=[.int n]/\∀p x y,H p=none->zjW x y->Q (.ref p) (upd H p (.lst [.int x,.int y]))
theorem zkC:zv ["cell"] ["cell"] (zf sBox):=⟨rfl,rfl,rfl,by decide +kernel,rfl,by decide +kernel,by decide +kernel⟩
theorem zjn {f:Addr}{fd:FuncData} (F:Fun K "_law_box" "_law_box" sBox f fd):FnOk P w K mg base CX0 1 f fd ["cell"] zj9:=by
 refine F.ok zkC (fun vs H Q E h=>?_) (fun cdv A outer s H vs Q E hr h=>?_)
 ·obtain⟨n,rfl,_⟩:=h; rfl
 ·obtain⟨n,rfl,k⟩:=h
  refine⟨_,ze (zR (zn zkz (pv 0) (zC zfn zi zi) (nomark _)) (zh (zp (zz (zc (zC zjG (pv 0) (zC zfn zi zi)) (zc zi zd))))) zw)
   (zh (zp (zz (zc (zC zbw (zC zaq (zC zcj (zC zbw (pv 0) (zC zfn zi zi)) zi) zi) zi) (zc zi zd))))),?_⟩
  have hc:CPow 10 18:=⟨by decide,by decide,by decide⟩;have e18:(10:Int) ^ (18:Int).toNat=1000000000000000000:=by decide
  refine⟨_,rfl,_,_,rfl,rfl,hc,_,_,rfl,rfl,_,rfl,?_⟩;refine ite2 (fun h1=>?_) (fun h1=>?_)
  ·refine⟨_,rfl,_,_,rfl,rfl,hc,_,_,rfl,rfl,zg (by simp),fun p hp=>k p _ 0 hp ⟨?_,.inl rfl⟩⟩
   have:=of_decide_eq_true h1;omega
  ·refine⟨_,rfl,_,_,rfl,rfl,hc,_,_,rfl,rfl,(by show (0:Int)<10 ^ (18:Int).toNat; rw[e18]; decide),_,_,rfl,rfl,.inr ⟨by decide,by decide⟩,_,_,rfl,rfl,_,_,rfl,rfl,(by show (0:Int)<2147483629; decide),zg (by simp),fun p hp=>k p _ 1 hp ⟨?_,.inr ⟨rfl,?_⟩⟩⟩
   ·exact Int.emod_nonneg _ (by decide)
   ·have:=Int.emod_lt_of_pos (n % 10 ^ (18:Int).toNat*69621+7001) (show (0:Int)<2147483629 by decide)
    omega
def zdn:Sp:=fun vs H Q _=>∃p m,vs=[.ref p,.int m]/\zM H p/\0<m/\m<1073741824/\∀r H',0<=r->r<m->zT p H H'->zM H' p->Q (.int r) H'
theorem zfm:zv ["box","most","found","mixed"] ["box","most"] (zf zci):=⟨rfl,rfl,rfl,by decide +kernel,rfl,by decide +kernel,by decide +kernel⟩
theorem zcF {f:Addr}{fd:FuncData} (F:Fun K "_law_take" "_law_take" zci f fd):FnOk P w K mg base CX0 1 f fd ["box","most"] zdn:=by
 refine F.ok zfm (fun vs H Q E h=>?_) (fun cdv A outer s H vs Q E hr h=>?_)
 ·obtain⟨p,m,rfl,_⟩:=h; rfl
 ·obtain⟨p,m,rfl,⟨x,y,hp,h0,hxy⟩,hm0,hm,k⟩:=h
  refine⟨_,ze (zR (zn zfh (zx zK (pv 0) zi (fun _ _=>rfl)) zi (nomark _))
    (ze (zt (i:=2) zfm.nd rfl (Or.inl rfl) (zC zbw (zx zK (pv 0) zi (fun _ _=>rfl)) (pv 1)))
    (ze (zh1 (zC zgI (zx zK (pv 0) zi (fun _ _=>rfl)) (pv 1)) (zhR (pv 0) zi set_list))
    (zh (zp (pv 2))))) zw)
   (ze (zt (i:=3) zfm.nd rfl (Or.inl rfl) (zC zbw (zC zaq (zC zaq (zC zcj (zx zK (pv 0) zi (fun _ _=>rfl)) (zx zK (pv 0) zi (fun _ _=>rfl))) (zC zcj zi (zx zK (pv 0) zi (fun _ _=>rfl)))) zi) zi))
   (ze (zh1 (zC zbw (zC zaq (zC zaq (zC zcj (pv 3) (pv 3)) (zC zcj zi (pv 3))) zi) zi) (zhR (pv 0) zi set_list))
   (zh (zp (zC zbw (zC zgI (zx zK (pv 0) zi (fun _ _=>rfl)) zi) (pv 1)))))),?_⟩
  have a0:atI ([.int x,.int y]:List V) 0=some (.int x):=zq (j:=0) rfl;have a1:atI ([.int x,.int y]:List V) 1=some (.int y):=zq (j:=1) rfl;refine⟨_,rfl,p,_,_,_,rfl,rfl,SqL.of hp,a1,rfl,_,rfl,?_⟩;refine ite2 (fun h1=>?_) (fun h1=>?_)
  ·refine⟨_,rfl,p,_,_,_,rfl,rfl,SqL.of hp,a0,_,rfl,_,_,rfl,rfl,hm0,?_⟩
   refine⟨_,rfl,p,_,_,_,rfl,rfl,SqL.of hp,a0,_,rfl,_,_,rfl,rfl,⟨hm0,hm⟩,_,rfl,p,_,_,0,rfl,rfl,hp,rfl,?_⟩;refine⟨_,rfl,k (x % m) _ (Int.emod_nonneg _ (by omega)) (Int.emod_lt_of_pos _ hm0) (fun b o hb e=>by rw[upd_ne hb]; exact e) ⟨x / m,y,upd_same,Int.ediv_nonneg h0 (by omega),?_⟩⟩;rcases hxy with q | ⟨q,hx⟩
   ·exact .inl q
   ·refine .inr ⟨q,Int.lt_of_le_of_lt (Int.ediv_le_self _ h0) hx⟩
  ·have hy:y=1/\x<4294967296:=by
    rcases hxy with q | q
    ·exact absurd (by subst q; rfl) h1
    ·exact q
   obtain⟨rfl,hx⟩:=hy;have hb:CMul x x:=.inl ⟨by omega,by omega⟩;refine⟨_,rfl,p,_,_,_,rfl,rfl,SqL.of hp,a0,_,rfl,p,_,_,_,rfl,rfl,SqL.of hp,a0,_,_,rfl,rfl,hb,_,rfl,p,_,_,_,rfl,rfl,SqL.of hp,a0,_,_,rfl,rfl,.inl ⟨by decide,by decide⟩,_,_,rfl,rfl,_,_,rfl,rfl,_,_,rfl,rfl,(by show (0:Int)<2147483647; decide),?_⟩;have m0:=Int.emod_nonneg (x*x+39373*x+12345) (show (2147483647:Int)≠0 by decide);have m1:=Int.emod_lt_of_pos (x*x+39373*x+12345) (show (0:Int)<2147483647 by decide);obtain⟨z,ez⟩:∃z,z=(x*x+39373*x+12345) % 2147483647:=⟨_,rfl⟩;rw[<- ez] at m0 m1;show tSeq _ _ _ ([some (.ref p),some (.int m),none,some (.int ((x*x+39373*x+12345) % 2147483647))]:St) H;rw[<- ez];refine⟨_,rfl,_,rfl,_,_,rfl,rfl,.inl ⟨by omega,by omega⟩,_,rfl,_,_,rfl,rfl,.inl ⟨by decide,by decide⟩,_,_,rfl,rfl,_,_,rfl,rfl,_,_,rfl,rfl,(by show (0:Int)<2147483587; decide),_,rfl,p,_,_,0,rfl,rfl,hp,rfl,?_⟩;have g0:=Int.emod_nonneg (z*z+16807*z+7) (show (2147483587:Int)≠0 by decide);have g1:=Int.emod_lt_of_pos (z*z+16807*z+7) (show (0:Int)<2147483587 by decide);obtain⟨u,eu⟩:∃u,u=(z*z+16807*z+7) % 2147483587:=⟨_,rfl⟩;rw[<- eu] at g0 g1;have hpu:upd H p (.lst [.int ((z*z+16807*z+7) % 2147483587),.int 1]) p=some (.lst [.int u,.int 1]):=by rw[eu]; exact upd_same
   refine⟨_,rfl,p,_,_,_,rfl,rfl,SqL.of hpu,zq (j:=0) rfl,_,_,rfl,rfl,⟨by decide,by decide⟩,_,rfl,_,_,rfl,rfl,hm0,?_⟩;exact k _ _ (Int.emod_nonneg _ (by omega)) (Int.emod_lt_of_pos _ hm0) (fun b o hb e=>by rw[upd_ne hb]; exact e) ⟨u,1,hpu,g0,.inr ⟨rfl,by omega⟩⟩
end
end K45
end
section
namespace K45
open K1
open PySem L2 STb
abbrev zaD:Stmt:=top 29
abbrev zaw:Stmt:=top 30
section
variable {P:Program}{w:World}{K:PySem.W.Frag}{mg:Str->Option Value}{base:Heap}
theorem zdZ {H2:Hp}{as:List Addr}{fs:List (List Int)}{D l:Addr}{Q:VK} (hl:H2 l=some (.lst (as.map V.ref))) (ht:Tps H2 as fs) (hz:as.length<=100) (hD:H2 D=none)
  (k:∀bs H3,Same H2 H3->H3 D=some (.lst (bs.map V.ref))->Tps H3 bs (fs.filter fun q=>!decide (q=[]))->Q (.ref D) H3) :
  zap (Itl K l) (zaA 0) (zb5 (tOp (rEqT true K) (tVar 0) (tTup tNil))) (tVar 0) [none] H2 D Q:=by
 have hla:=ht.length;refine zaf (xs:=as.map V.ref) (fun j σ ys H3=>∃bs v,σ=[v]/\Same H2 H3/\H3 D=some (.lst ys)/\ys=bs.map V.ref/\Tps H3 bs ((fs.take j).filter fun q=>!decide (q=[]))) ?_ ?_ ?_ ?_
 ·exact⟨[],none,rfl,Same.new hD,upd_same,rfl,.nil⟩
 ·rintro j σ ys H3 ⟨bs,v,rfl,sm,hD3,rfl,hb⟩
  exact SqL.of (sm _ _ hl)
 ·rintro j σ ys H3 x hx hj hy ⟨bs,v,rfl,sm,hD3,rfl,hb⟩
  obtain⟨a,ea,rfl⟩:=z0 hx;obtain⟨f,ef,hf⟩:=ht.get ea;refine⟨_,rfl,zg (by simp),fun t htn=>?_⟩;have hf3:=sm.tp hf;have s1:Same H3 (upd H3 t (.tup [])):=Same.new htn;refine .inl ⟨a,t,f,[],rfl,rfl,s1.tp hf3,upd_same,_,rfl,?_⟩;have sm1:=sm.trans s1;have keep:∀(o:HO) c xs,upd H3 t (.tup []) c=some (.tup xs)->upd (upd H3 t (.tup [])) D o c=some (.tup xs):=fun o c xs e=>by
   rw[upd_ne (zbA e (s1 _ _ hD3) (by intro z; cases z))]; exact e
  by_cases h:f=[]
  ·subst h
   refine iteF (cskip hj hy ⟨bs,_,rfl,sm1,s1 _ _ hD3,rfl,?_⟩);rw[take_snoc ef,List.filter_append]
   simpa using s1.tps hb
  ·rw[if_pos rfl,show (!decide (f=[]))=true by simp[h]]
   refine iteT ⟨_,rfl,cput (ys:=bs.map V.ref) (by rw[List.length_map]; exact zg (by omega)) hj hy (s1 _ _ hD3) ⟨bs++[a],_,rfl,sm1.then hD,upd_same,by rw[List.map_append]; rfl,?_⟩⟩;rw[take_snoc ef,List.filter_append,show [f].filter (fun q=>!decide (q=[]))=[f] by simp[h]];exact Tps.snoc (Paired.mapP (s1.tps hb) fun c xs e=>keep _ c _ e) (keep _ a _ (s1.tp hf3))
 ·rintro σ ys H3 ⟨bs,v,rfl,sm,hD3,rfl,hb⟩
  rw[List.length_map,hla,take_all] at hb;exact k bs H3 sm hD3 hb
theorem zbH:zv ["piece","found","point"] ["piece"] (zf zaD):=⟨rfl,rfl,rfl,by decide +kernel,rfl,by decide +kernel,by decide +kernel⟩
theorem zgy {f:Addr}{fd:FuncData} (F:Fun K "_law_parts" "_law_parts" zaD f fd):FnOk P w K mg base CX0 1 f fd ["piece"] zcN:=by
 refine F.ok zbH (fun vs H Q E h=>?_) (fun cdv A outer s H vs Q E hr h=>?_)
 ·obtain⟨a,ps,rfl,_⟩:=h; rfl
 ·obtain⟨a,ps,rfl,ha,h5,k⟩:=h
  have hu64:=hr.units;refine⟨_,ze (zt (i:=1) zbH.nd rfl (Or.inl rfl) (zz (zc (zaa zd) zd)))
   (ze (zX PassesOwn.never rfl (zdq (pv 0)) (zr (i:=2) zbH.nd rfl (Or.inr rfl))
    (zh (zt (i:=1) zbH.nd rfl (Or.inl rfl) (zC zbW (pv 1) (zE ["piece","found","point"] ["part","point"] [none,some 2] (zH (pv 1)) (fun cl C s₀ H₀ ex=>zr (i:=0) (ndN ["part","point"]) rfl (Or.inl rfl)) (fun cl C s₀ H₀ ex=>zak)
     (fun cl C s₀ H₀ ex=>zC zcG (pv 0) (zaa (zc (pv 1) zd))) (hfr:=frOf (zf zaD) (by decide +kernel)))))))
   (zh (zp (zE ["piece","found","point"] ["part"] [none] (zH (pv 1)) (fun cl C s₀ H₀ ex=>zr (i:=0) (ndN ["part"]) rfl (Or.inl rfl)) (fun cl C s₀ H₀ ex=>zbm (zn (zc1 hu64) (pv 0) (zaa zd) (nomark _)))
     (fun cl C s₀ H₀ ex=>pv 0) (hfr:=nofr (by decide +kernel)) (tc:=zb5 (tOp (rEqT true K) (tVar 0) (tTup tNil))))))),?_⟩
  refine⟨zg (by simp),fun e he=>⟨zg (by simp),fun l hl=>?_⟩⟩;have s1:Same H (upd (upd H e (.tup [])) l (.lst [.ref e])):=(Same.new he).then ((Same.new he).free hl);have hle:e≠l:=zj (H:=upd H e (.tup [])) upd_same hl;refine⟨_,rfl,a,rfl,⟨_,SqT.of (s1 _ _ ha)⟩,zd1 (K:=K) (a:=a) (xs:=ps.map V.int) (fun i σ H2=>∃l as v,σ=[some (.ref a),some (.ref l),v]/\Same H H2/\H l=none/\H2 l=some (.lst (as.map V.ref))/\Tps H2 as (subs (ps.take i)))
   ⟨l,[e],none,rfl,s1,(Same.new he).free hl,upd_same,.cons (by show upd _ _ _ e=_; rw[upd_ne hle]; exact upd_same) .nil⟩ (fun i σ H2 _ ⟨_,_,_,_,sm,_⟩=>SqT.of (sm _ _ ha)) ?_ ?_⟩
  ·rintro i x σ H2 hx ⟨l,as,v,rfl,sm,hl0,hl,ht⟩
   obtain⟨q,eq,rfl⟩:=zc4 hx;have hi:i<ps.length:=(List.getElem?_eq_some_iff.mp eq).1;have hla:=ht.length;have hn:as.length<=32:=by
    rw[hla,zbD,List.length_take];exact pow5 (by omega)
   have hm:∀f∈subs (ps.take i),f.length<=100:=fun f hf=>by
    have:=zbx _ f hf;rw[List.length_take] at this;omega
   refine⟨_,rfl,_,rfl,l,rfl,⟨_,SqL.of hl⟩,fun D hD=>zN (zcn hl ht (by omega) hm hD fun bs H3 sm3 hD3 hb=>?_)⟩;have hlb:=hb.length;rw[List.length_map] at hlb;refine⟨l,D,_,_,rfl,rfl,sm3 _ _ hl,hD3,by rw[List.length_map,List.length_map]; exact zg (by omega),fun l2 hl2=>?_⟩;have h02:H l2=none:=(sm.trans sm3).free hl2;refine⟨l2,as++bs,_,rfl,(sm.trans sm3).then h02,h02,by rw[upd_same,List.map_append],?_⟩;rw[take_snoc eq,zbU];exact (Same.new hl2).tps ((sm3.tps ht).append hb)
  ·rintro σ H2 ⟨l,as,v,rfl,sm,hl0,hl,ht⟩
   rw[List.length_map,take_all] at ht;have hla:=ht.length;refine⟨_,rfl,l,rfl,⟨_,SqL.of hl⟩,fun D hD=>zN (zdZ hl ht (by rw[hla,zbD]; have:=pow5 h5; omega) hD fun bs H3 sm3 hD3 hb=>?_)⟩;rw[zdi] at hb;exact k D bs H3 (sm.trans sm3) (sm.free hD) hD3 hb
theorem zeW {H2:Hp}{bs:List Addr}{fs:List (List Int)}{D l:Addr}{Q:VK} (hl:H2 l=some (.lst (bs.map V.ref))) (ht:Tps H2 bs fs) (hz:bs.length<=1000) (hD:H2 D=none)
  (k:∀(cs:List Addr) H3,Same H2 H3->H3 D=some (.lst (cs.map V.ref))->cs.length=bs.length->(∀(i:Nat) c,cs[i]?=some c->∃b f,bs[i]?=some b/\fs[i]?=some f/\H3 c=some (.tup [.int f.length,.ref b]))->Q (.ref D) H3) :
  zap (Itl K l) (zaA 0) tYes (tTup (zU (tCB (fun xs H Q=>∃p ys,xs=[V.ref p]/\(SqL K H p ys \/ SqT K H p ys)/\Q (.int ys.length) H) (zU (tVar 0) tNil)) (zU (tVar 0) tNil))) [none] H2 D Q:=by
 have hla:=ht.length;refine zaf (xs:=bs.map V.ref) (fun j σ ys H3=>∃(cs:List Addr) (v:Option V),σ=[v]/\Same H2 H3/\H3 D=some (.lst ys)/\ys=cs.map V.ref/\cs.length=j/\∀(i:Nat) c,cs[i]?=some c->∃b f,bs[i]?=some b/\fs[i]?=some f/\H3 c=some (.tup [.int f.length,.ref b])) ?_ ?_ ?_ ?_
 ·exact⟨[],none,rfl,Same.new hD,upd_same,rfl,rfl,fun i c e=>by simp at e⟩
 ·rintro j σ ys H3 ⟨cs,v,rfl,sm,hD3,rfl,hj,hc⟩
  exact SqL.of (sm _ _ hl)
 ·rintro j σ ys H3 x hx hj hy ⟨cs,v,rfl,sm,hD3,rfl,hcl,hc⟩
  obtain⟨b,eb,rfl⟩:=z0 hx;obtain⟨f,ef,hf⟩:=ht.get eb;refine gyes ?_;refine⟨_,rfl,b,_,rfl,.inr (SqT.of (sm.tp hf)),_,rfl,zg (by simp),fun t htn=>?_⟩;rw[show (f.map V.int).length=f.length from List.length_map _];have s1:Same H3 (upd H3 t (.tup [.int f.length,.ref b])):=Same.new htn;have keep:∀(o:HO) c xs,upd H3 t (.tup [.int f.length,.ref b]) c=some (.tup xs)->upd (upd H3 t (.tup [.int f.length,.ref b])) D o c=some (.tup xs):=fun o c xs e=>by
   rw[upd_ne (zbA e (s1 _ _ hD3) (by intro z; cases z))]; exact e
  refine cput (ys:=cs.map V.ref) (by rw[List.length_map]; exact zg (by omega)) hj hy (s1 _ _ hD3) ⟨cs++[t],_,rfl,(sm.trans s1).then hD,upd_same,by rw[List.map_append]; rfl,by rw[List.length_append,hcl]; rfl,fun i c e=>?_⟩
  by_cases hi:i<cs.length
  ·rw[List.getElem?_append_left hi] at e
   obtain⟨b',f',e1,e2,e3⟩:=hc i c e;exact⟨b',f',e1,e2,keep _ c _ (s1 _ _ e3)⟩
  ·rw[List.getElem?_append_right (by omega)] at e
   have h0:i - cs.length=0:=by
    rcases Nat.eq_zero_or_pos (i - cs.length) with z | z
    ·exact z
    ·rw[List.getElem?_eq_none (by simp only[List.length_cons,List.length_nil]; omega)] at e; cases e
   rw[h0] at e;obtain rfl:t=c:=by simpa using e
   have:i=j:=by omega
   subst this;exact⟨b,f,eb,ef,keep _ t _ upd_same⟩
 ·rintro σ ys H3 ⟨cs,v,rfl,sm,hD3,rfl,hcl,hc⟩
  rw[List.length_map] at hcl;exact k cs H3 sm hD3 hcl hc
def zdB (H:Hp) (c:Addr):Addr:=match H c with
 | some (.tup [_,.ref b])=>b
 | _=>0
theorem zfr {H2:Hp}{cs:List Addr}{D l:Addr}{Q:VK} (hl:H2 l=some (.lst (cs.map V.ref))) (ht:∀c∈cs,∃n b,H2 c=some (.tup [.int n,.ref b])) (hz:cs.length<=1000) (hD:H2 D=none)
  (k:∀H3,Same H2 H3->H3 D=some (.lst (cs.map fun c=>V.ref (zdB H2 c)))->Q (.ref D) H3) :
  zap (Itl K l) (zaA 0) tYes (tOp (rIxT K) (tVar 0) (tC (.int 1))) [none] H2 D Q:=by
 refine zaf (xs:=cs.map V.ref) (fun j σ ys H3=>∃v,σ=[v]/\Same H2 H3/\H3 D=some (.lst ys)/\ys=(cs.take j).map fun c=>V.ref (zdB H2 c)) ?_ ?_ ?_ ?_
 ·exact⟨none,rfl,Same.new hD,upd_same,rfl⟩
 ·rintro j σ ys H3 ⟨v,rfl,sm,hD3,rfl⟩
  exact SqL.of (sm _ _ hl)
 ·rintro j σ ys H3 x hx hj hy ⟨v,rfl,sm,hD3,rfl⟩
  obtain⟨c,ec,rfl⟩:=z0 hx;obtain⟨n,b,e⟩:=ht c (List.mem_of_getElem? ec);refine gyes ?_;refine⟨_,rfl,c,_,_,_,rfl,rfl,SqT.of (sm _ _ e),zq (j:=1) rfl,cput (by rw[List.length_map]; exact zg (by omega)) hj hy hD3 ⟨_,rfl,sm.then hD,upd_same,?_⟩⟩;rw[take_snoc ec,List.map_append];have:zdB H2 c=b:=by unfold zdB; rw[e]
  rw[<- this]; rfl
 ·rintro σ ys H3 ⟨v,rfl,sm,hD3,rfl⟩
  rw[List.length_map,take_all] at hD3;exact k H3 sm hD3
theorem zaC:zv ["web","found","piece","part","ranked"] ["web"] (zf zaw):=⟨rfl,rfl,rfl,by decide +kernel,rfl,by decide +kernel,by decide +kernel⟩
theorem ze5 {f fp:Addr}{fd fdp:FuncData} (F:Fun K "_law_pieces" "_law_pieces" zaw f fd) (B:Bt mg)
  (Fp:Fun K "_law_parts" "_law_parts" zaD fp fdp) (bp:Binds K fdp ["piece"] []) (mp:mg "_law_parts"=some (.ref fp)):FnOk P w K mg base CX0 2 f fd ["web"] (zgH K):=by
 have Gp:FnOk P w K mg base CX0 1 fp fdp ["piece"] zcN:=zgy Fp;refine F.ok zaC (fun vs H Q E h=>?_) (fun cdv A outer s H vs Q E hr h=>?_)
 ·obtain⟨l,as,pss,rfl,_⟩:=h; rfl
 ·obtain⟨l,as,pss,rfl,hl,ht,h5,h20,h64,k⟩:=h
  have hu:=ze6 hr;have hu64:=hr.units;refine⟨_,ze (zt (i:=1) zaC.nd rfl (Or.inl rfl) zaY)
   (ze (zX PassesOwn.never rfl (zH (pv 0)) (zr (i:=2) zaC.nd rfl (Or.inl rfl))
    (zh (zX PassesOwn.never rfl (zH (zl Gp hr rfl mp Fp.kp bp .nil pass0 (zc (pv 2) zd))) (zr (i:=3) zaC.nd rfl (Or.inl rfl))
     (zh (zbd hu (pv 1) (pv 3) zaL rfl)))))
   (ze (zt (i:=4) zaC.nd rfl (Or.inl rfl) (zo (zcf hu64) rfl B.sorted zcM (zc
    (zE ["web","found","piece","part","ranked"] ["piece"] [none] (zH (zF (zbs rfl) rfl B.list zb7 (zc (pv 1) zd))) (fun cl C s₀ H₀ ex=>zr (i:=0) (ndN ["piece"]) rfl (Or.inl rfl)) (fun cl C s₀ H₀ ex=>zak)
     (fun cl C s₀ H₀ ex=>zaa (zc (zo zk rfl B.len zab (zc (pv 0) zd)) (zc (pv 0) zd))) (hfr:=nofr (by decide +kernel)) (te:=tTup (zU (tCB (fun xs H Q=>∃p ys,xs=[V.ref p]/\(SqL K H p ys \/ SqT K H p ys)/\Q (.int ys.length) H) (zU (tVar 0) tNil)) (zU (tVar 0) tNil)))) zd)))
   (zh (zp (zE ["web","found","piece","part","ranked"] ["one"] [none] (zH (pv 4)) (fun cl C s₀ H₀ ex=>zr (i:=0) (ndN ["one"]) rfl (Or.inl rfl)) (fun cl C s₀ H₀ ex=>zak)
     (fun cl C s₀ H₀ ex=>zx zB (pv 0) zi (fun _ _=>rfl)) (hfr:=nofr (by decide +kernel)) (te:=tOp (rIxT K) (tVar 0) (tC (.int 1)))))))),?_⟩
  intro d hd;have hla:=ht.length;refine⟨_,rfl,l,rfl,⟨_,(Same.new hd).seq hl⟩,zah (K:=K) (a:=l) (xs:=as.map V.ref) (fun i σ H2=>∃v v' u,σ=[some (.ref l),some (.ref d),v,v',u]/\Same H H2/\H2 d=some (.dT (kvM ((pss.take i).flatMap parts))))
   ⟨none,none,none,rfl,Same.new hd,upd_same⟩ (fun i σ H2 _ ⟨_,_,_,_,sm,_⟩=>sm.seq hl) ?_ ?_⟩
  ·rintro i x σ H2 hx ⟨v,v',u,rfl,sm,hd2⟩
   obtain⟨a,ea,rfl⟩:=z0 hx;obtain⟨ps,eps,hps⟩:=ht.get ea;have hps5:=h5 ps (List.mem_of_getElem? eps);have hi:i<pss.length:=(List.getElem?_eq_some_iff.mp eps).1;refine⟨_,rfl,a,ps,rfl,sm.tp hps,hps5,fun D cs H3 sm3 hD0 hD hcs=>⟨D,rfl,⟨_,SqL.of hD⟩,?_⟩⟩;have hlc:=hcs.length;have hdD:D≠d:=zbA hD (sm3 _ _ hd2) (by intro z; cases z);refine zah (K:=K) (a:=D) (xs:=cs.map V.ref) (fun j σ H4=>∃v',σ=[some (.ref l),some (.ref d),some (.ref a),v',u]/\Same H H4/\H4 D=some (.lst (cs.map V.ref))/\Tps H4 cs (parts ps)/\H4 d=some (.dT (kvM ((pss.take i).flatMap parts++(parts ps).take j))))
    ⟨_,rfl,sm.trans sm3,hD,hcs,by rw[List.take_zero,List.append_nil]; exact sm3 _ _ hd2⟩ (fun j σ H4 _ ⟨_,_,_,q,_⟩=>SqL.of q) ?_ ?_
   ·rintro j x σ H4 hx ⟨v',rfl,sm4,hD4,hcs4,hd4⟩
    obtain⟨c,ec,rfl⟩:=z0 hx;obtain⟨f,ef,hf⟩:=hcs4.get ec;have hlen:(kvM ((pss.take i).flatMap parts++(parts ps).take j)).length<sizeLine:=by
     refine zJ (Nat.le_trans (zbX _) ?_);rw[List.length_append];have h1:=zei (pss.take i) (fun q hq=>h5 q (List.mem_of_mem_take hq));have h2:=zat ps;have h3:=pow5 hps5;rw[List.length_take] at h1 ⊢;omega
    refine⟨_,rfl,_,rfl,d,_,rfl,DPut.t (k:=f.map Sum.inl) hd4 (by rw[List.map_map]; exact hf) hlen,⟨_,rfl,sm4.then hd,?_,?_,?_⟩⟩
    ·rw[upd_ne hdD]; exact hD4
    ·exact Tps.upd hcs4 hd4 (by intro xs z; cases z)
    ·rw[upd_same,zbN,List.append_assoc,<- take_snoc ef]
   ·rintro σ H4 ⟨v',rfl,sm4,hD4,hcs4,hd4⟩
    refine⟨_,_,_,rfl,sm4,?_⟩;rw[List.length_map,hlc,take_all] at hd4;rw[zdb eps];exact hd4
  ·rintro σ H2 ⟨v,v',u,rfl,sm,hd2⟩
   rw[List.length_map,hla,take_all] at hd2;refine⟨_,rfl,d,_,rfl,hd2,fun bs hb l2 hl2=>?_⟩;have tb:=zeq hb;have hlb:=tb.length;have hdl:(dd (pss.flatMap parts)).length<=1000:=by omega
   have s2:Same H2 (upd H2 l2 (.lst (bs.map V.ref))):=Same.new hl2;refine⟨l2,rfl,⟨_,SqL.of upd_same⟩,fun D hD=>zN (zeW (K:=K) upd_same (s2.tps tb) (by omega) hD fun cs H3 sm3 hD3 hcl hc=>?_)⟩;have tb3:=sm3.tps (s2.tps tb);refine⟨D,cs,(dd (pss.flatMap parts)).map fun f=>((f.length:Int)::f),rfl,SqL.of hD3,?_,(by rw[List.length_map]; exact h64),fun R qs hp hs hR=>?_⟩
   ·refine Paired.of_at (by rw[List.length_map]; omega) fun i c y e1 e2=>?_
    obtain⟨b,f,g1,g2,g3⟩:=hc i c e1;rw[List.getElem?_map,g2] at e2;obtain rfl:=Option.some.inj e2;exact⟨_,b,f,rfl,g3,zba tb3 i b f g1 g2⟩
   ·have s4:Same H3 (upd H3 R (.lst (qs.map fun q=>V.ref q.2))):=Same.new hR
    have hq:∀q∈qs,∃b f,q.1=((f:List Int).length:Int)::f/\H3 q.2=some (.tup [.int f.length,.ref b])/\Tp H3 b f:=fun q hq=>by
     obtain⟨m,em⟩:=List.mem_iff_getElem?.mp (hp.mem_iff.mp hq);rw[Srt.zipget,List.getElem?_map] at em;cases e2:cs[m]? with
     | none=>rw[e2] at em; cases h:(dd (pss.flatMap parts))[m]? <;> rw[h] at em <;> cases em
     | some c=>
      obtain⟨b,f,g1,g2,g3⟩:=hc m c e2;rw[g2,e2] at em;obtain rfl:(((f.length:Int)::f),c)=q:=Option.some.inj em;exact⟨b,f,rfl,g3,zba tb3 m b f g1 g2⟩
    have hql:qs.length<=1000:=by rw[hp.length_eq,List.length_zip,List.length_map]; omega
    refine⟨_,rfl,R,rfl,⟨_,SqL.of upd_same⟩,fun D2 hD2=>zN (zfr (K:=K) (cs:=qs.map (·.2)) (by rw[upd_same,List.map_map]; rfl) (fun c hcm=>?_) (by rw[List.length_map]; omega) hD2 fun H5 sm5 hD5=>?_)⟩
    ·obtain⟨q,hqm,rfl⟩:=List.mem_map.mp hcm
     obtain⟨b,f,_,g2,_⟩:=hq q hqm;exact⟨_,b,s4 _ _ g2⟩
    ·have sAll:Same H H5:=((sm.trans s2).trans sm3).trans (s4.trans sm5)
     have snd:∀q∈qs,∀b f,H3 q.2=some (.tup [.int (f:List Int).length,.ref b])->zdB (upd H3 R (.lst (qs.map fun q=>V.ref q.2))) q.2=b:=fun q _ b f e=>by
      unfold zdB; rw[s4 _ _ e]
     refine k D2 H5 (qs.map fun q=>(q.1.tail,zdB (upd H3 R (.lst (qs.map fun q=>V.ref q.2))) q.2)) ⟨sAll,(((sm.trans s2).trans sm3).trans s4).free hD2,?_,fun q hqm=>?_,?_,?_⟩
     ·rw[hD5,List.map_map,List.map_map]; rfl
     ·obtain⟨q0,h0,rfl⟩:=List.mem_map.mp hqm
      obtain⟨b,f,g1,g2,g3⟩:=hq q0 h0;show Tp H5 (zdB _ q0.2) q0.1.tail;rw[snd q0 h0 b f g2,g1];exact sm5.tp (s4.tp g3)
     ·rw[List.map_map]
      have h1:=hp.map (fun q:List Int×Addr=>q.1.tail);have e:((((dd (pss.flatMap parts)).map fun f=>((f.length:Int)::f)).zip cs).map fun q:List Int×Addr=>q.1.tail)=dd (pss.flatMap parts):=by
       rw[show (fun q:List Int×Addr=>q.1.tail)=(fun l:List Int=>l.tail) ∘ Prod.fst from rfl,<- List.map_map,List.map_fst_zip (by rw[List.length_map]; omega),List.map_map];exact List.map_id' _
      rw[e] at h1;exact h1
     ·rw[List.pairwise_map]
      refine hs.imp_of_mem fun {p q} h1 h2 h3=>?_;obtain⟨_,f,g1,_⟩:=hq p h1;obtain⟨_,f',g1',_⟩:=hq q h2;rw[g1,g1'] at h3;rw[g1,g1'];exact h3
end
end K45
end
section
namespace K45
open K1
open PySem L2 STb
abbrev zb4:Stmt:=top 31
abbrev zbv:Stmt:=top 32
def texts:List Str:=(["","0","01 12 02","012 013 023 123","01 02 03","012 023 034 014","0123","01 23 45","012 34"]:List Str)++(["012 123 234 034 014","01 12 23 03 13","012 013 014","0 1 2 3"]:List Str)++(["01 12 02 34 45 35","023 234 1"]:List Str)
++(["014 015 023 025 034 123 124 135 245 345","012 013 024 034 125 135 245 345"]:List Str)++(["01234","0123 0124 0134 0234 1234"]:List Str)++(["013 123 234 024 014 145 125 025 056 016 126 267 027 037 345 356 367"]:List Str)
def wordsOf (n:Nat):List Str:=Txt.split (texts.getD n "") " "
def digits (x:Str):List Int:=x.cps.toList.map fun (c:Nat)=>((c:Int) - 48)
def known (n:Nat):List (List Int):=((wordsOf n).filter fun (x:Str)=>!decide (x="")).map digits
theorem zha:∀n,n<20->(texts.getD n "").length+2<=1000/\(wordsOf n).length<=20/\∀x∈wordsOf n,x.cps.size<=5/\∀c∈x.cps.toList,48<=c/\c<=57:=by decide +kernel
theorem zi2:∀c,48<=c->c<=57->intText? ⟨#[c]⟩=some ((c:Int) - 48):=by
 intro c h1 h2;have:∀c,c<58->48<=c->intText? ⟨#[c]⟩=some ((c:Int) - 48):=by decide +kernel
 exact this c (by omega) h1
section
variable {P:Program}{w:World}{K:PySem.W.Frag}{mg:Str->Option Value}{base:Heap}
def zgp:Sp:=fun vs H Q _=>∃n:Nat,vs=[.int n]/\n<20/\∀D as H',Same H H'->H D=none->H' D=some (.lst (as.map V.ref))->Tps H' as (known n)->Q (.ref D) H'
theorem zaT:zv ["number","some","web","word"] ["number"] (zf zb4):=⟨rfl,rfl,rfl,by decide +kernel,rfl,by decide +kernel,by decide +kernel⟩
theorem zfd {H2:Hp}{x:Str}{D:Addr}{Q:VK} (hx:x.cps.size<=5) (hc:∀c∈x.cps.toList,48<=c/\c<=57) (hD:H2 D=none)
  (k:∀H3,Same H2 H3->H3 D=some (.lst ((digits x).map V.int))->Q (.ref D) H3) :
  zap (Its x) (zaA 0) tYes (tCB (fun xs H Q=>∃x n,xs=[.str x]/\intText? x=some n/\x.length<=640/\Q (.int n) H) (zU (tVar 0) tNil)) [none] H2 D Q:=by
 refine zgP (fun j σ ys H3=>∃v,σ=[v]/\Same H2 H3/\H3 D=some (.lst ys)/\ys=((digits x).take j).map V.int) ?_ ?_ ?_
 ·exact⟨none,rfl,Same.new hD,upd_same,rfl⟩
 ·rintro j σ ys H3 c ec hj hy ⟨v,rfl,sm,hD3,rfl⟩
  have ecl:x.cps.toList[j]?=some c:=by simpa using ec
  obtain⟨c1,c2⟩:=hc c (List.mem_of_getElem? ecl);refine gyes ?_;refine⟨_,rfl,⟨#[c]⟩,_,rfl,zi2 c c1 c2,by show 1<=640; decide,cput (zg (by omega)) hj hy hD3 ⟨_,rfl,sm.then hD,upd_same,?_⟩⟩;have e:(digits x)[j]?=some ((c:Int) - 48):=by unfold digits; rw[List.getElem?_map,ecl]; rfl
  rw[take_snoc e,List.map_append]; rfl
 ·rintro σ ys H3 ⟨v,rfl,sm,hD3,rfl⟩
  rw[List.take_of_length_le (by unfold digits; simp)] at hD3;exact k H3 sm hD3
theorem zgZ {f:Addr}{fd:FuncData} (F:Fun K "_law_known" "_law_known" zb4 f fd) (B:Bt mg):FnOk P w K mg base CX0 1 f fd ["number"] zgp:=by
 refine F.ok zaT (fun vs H Q E h=>?_) (fun cdv A outer s H vs Q E hr h=>?_)
 ·obtain⟨n,rfl,_⟩:=h; rfl
 ·obtain⟨n,rfl,hn,k⟩:=h
  refine⟨_,ze (zt (i:=1) zaT.nd rfl (Or.inl rfl) (zz (zc zD (zc zD (zc zD (zc zD (zc zD (zc zD (zc zD (zc zD (zc zD zd)))))))))))
   (ze (zt (i:=1) zaT.nd rfl (Or.inl rfl) (zC zbW (pv 1) (zz (zc zD (zc zD (zc zD (zc zD (zc zD (zc zD zd)))))))))
   (ze (zt (i:=1) zaT.nd rfl (Or.inl rfl) (zC zbW (pv 1) (zz (zc zD (zc zD zd)))))
   (ze (zt (i:=1) zaT.nd rfl (Or.inl rfl) (zC zbW (pv 1) (zz (zc zD (zc zD zd)))))
   (ze (zal (zch PySem.F.plainAttrs_list PySem.F.slot_list_append PySem.F.type_list_append zac (pv 1) (zc zD zd)))
   (ze (zt (i:=2) zaT.nd rfl (Or.inl rfl) (zz zd))
   (ze (zX PassesOwn.never rfl (zH (zch PySem.F.plainAttrs_str PySem.F.slot_str_split PySem.F.type_str_split zhN (zx zK (pv 1) (zC zbw (pv 0) zi) (fun _ _=>rfl)) (zc zD zd))) (zr (i:=3) zaT.nd rfl (Or.inl rfl))
    (zh (zR (zn zfP (pv 3) zD (nomark _))
     (zh (zal (zch PySem.F.plainAttrs_list PySem.F.slot_list_append PySem.F.type_list_append zac (pv 2) (zc (zF zax rfl B.tuple zcQ (zc
      (zE ["number","some","web","word"] ["sign"] [none] (zjy (pv 3)) (fun cl C s₀ H₀ ex=>zr (i:=0) (ndN ["sign"]) rfl (Or.inl rfl)) (fun cl C s₀ H₀ ex=>zak)
       (fun cl C s₀ H₀ ex=>zF zcU rfl B.int zkD (zc (pv 0) zd)) (hfr:=nofr (by decide +kernel))) zd)) zd)))) zw)))
   (zh (zp (pv 2))))))))),?_⟩
  have t20:texts.length=20:=rfl;have hat:atI (texts.map V.str) ((n:Int) % 20)=some (.str (texts.getD n "")):=by
   rw[show (n:Int) % 20=(n:Int) by omega];refine zq ?_;have e:texts[n]?=some texts[n]:=List.getElem?_eq_getElem (by omega);rw[List.getElem?_map,List.getD_eq_getElem?_getD,e]; rfl
  obtain⟨g1,g2,g3⟩:=zha n hn;refine⟨zg (by simp),fun l1 h1=>?_⟩;have s1:=Same.new (H:=H) (o:=.lst [.str "",.str "0",.str "01 12 02",.str "012 013 023 123",.str "01 02 03",.str "012 023 034 014",.str "0123",.str "01 23 45",.str "012 34"]) h1;refine⟨_,rfl,zg (by simp),fun m1 hm1=>⟨l1,m1,_,_,rfl,rfl,Same.new hm1 _ _ upd_same,upd_same,zg (by simp),fun l3 h3=>?_⟩⟩;have s3:=(s1.trans (Same.new hm1)).trans (Same.new (o:=.lst ((texts.take 15).map V.str)) h3);refine⟨_,rfl,zg (by simp),fun m3 hm3=>⟨l3,m3,_,_,rfl,rfl,Same.new hm3 _ _ upd_same,upd_same,zg (by simp),fun l4 h4=>?_⟩⟩;have s4:=(s3.trans (Same.new hm3)).trans (Same.new (o:=.lst ((texts.take 17).map V.str)) h4);refine⟨_,rfl,zg (by simp),fun m4 hm4=>⟨l4,m4,_,_,rfl,rfl,Same.new hm4 _ _ upd_same,upd_same,zg (by simp),fun l5 h5=>?_⟩⟩;have s5:=(s4.trans (Same.new hm4)).trans (Same.new (o:=.lst ((texts.take 19).map V.str)) h5);have h50:H l5=none:=(s4.trans (Same.new hm4)).free h5;refine⟨_,rfl,.inl ⟨rfl,_,SqL.of upd_same⟩,l5,_,_,rfl,rfl,upd_same,zJ (by simp),zg (by simp),fun wl hwl=>?_⟩;generalize hH6:upd (upd _ l5 _) l5 _=H6 at hwl;have e6:H6 l5=some (.lst (texts.map V.str)):=by rw[<- hH6,upd_same]; rfl
  have s6:Same H H6:=by
   rw[<- hH6];exact s5.then h50
  have hw0:H wl=none:=s6.free hwl;have s7:Same H (upd H6 wl (.lst [])):=s6.then hw0;have e7:upd H6 wl (.lst []) l5=some (.lst (texts.map V.str)):=Same.new hwl _ _ e6;refine⟨_,rfl,_,rfl,_,_,rfl,rfl,(by show (0:Int)<20; decide),l5,_,_,_,rfl,rfl,SqL.of e7,hat,rfl,_,_,rfl,rfl,by decide,zg (by omega),zg (show (wordsOf n).length<=100000 by omega),fun D hD=>⟨D,rfl,⟨_,SqL.of upd_same⟩,?_⟩⟩;have hwD:wl≠D:=zj (H:=upd H6 wl (.lst [])) upd_same hD;have hD0:H D=none:=s7.free hD;refine zah (K:=K) (a:=D) (xs:=(wordsOf n).map V.str) (fun i σ H2=>∃as v,σ=[some (.int n),some (.ref l5),some (.ref wl),v]/\Same H H2/\H2 D=some (.lst ((wordsOf n).map V.str))/\H2 wl=some (.lst (as.map V.ref))/\Tps H2 as ((((wordsOf n).take i).filter fun (x:Str)=>!decide (x="")).map digits))
   ⟨[],none,rfl,s7.then hD0,upd_same,by rw[upd_ne hwD]; exact upd_same,.nil⟩ (fun i σ H2 _ ⟨_,_,_,_,q,_⟩=>SqL.of q) ?_ ?_
  ·rintro i x σ H2 hx ⟨as,v,rfl,sm,hD2,hw2,ht⟩
   rw[List.getElem?_map] at hx;cases ex:(wordsOf n)[i]? with
   | none=>rw[ex] at hx; cases hx
   | some y=>
    rw[ex] at hx;obtain rfl:=Option.some.inj hx;have hi:i<(wordsOf n).length:=(List.getElem?_eq_some_iff.mp ex).1;obtain⟨y5,yc⟩:=g3 y (List.mem_of_getElem? ex);refine⟨_,rfl,rfl,_,rfl,?_⟩
    by_cases hy:y=""
    ·subst hy
     refine iteF ⟨as,_,rfl,sm,hD2,hw2,?_⟩;rw[take_snoc ex,List.filter_append,List.map_append]
     simpa using ht
    ·rw[show (!decide (V.str y=V.str ""))=true from by simp[hy]]
     refine iteT ⟨_,rfl,.inl ⟨rfl,_,SqL.of hw2⟩,_,rfl,y,rfl,fun D2 hDn=>zN (zfd y5 yc hDn fun H3 sm3 hD3=>⟨D2,_,rfl,.inl ⟨SqL.of hD3,fun t htn=>?_⟩⟩)⟩;have s8:Same H2 (upd H3 t (.tup ((digits y).map V.int))):=sm3.trans (Same.new htn);have hla:=ht.length;have hl20:as.length<=20:=by
      rw[hla,List.length_map];exact Nat.le_trans (List.length_filter_le _ _) (by rw[List.length_take]; omega)
     refine⟨wl,_,_,rfl,rfl,s8 _ _ hw2,zJ (by rw[List.length_map]; omega),⟨as++[t],_,rfl,(sm.trans s8).then hw0,?_,by rw[upd_same,List.map_append]; rfl,?_⟩⟩
     ·rw[upd_ne hwD.symm]; exact s8 _ _ hD2
     ·rw[take_snoc ex,List.filter_append,List.map_append,show [y].filter (fun (x:Str)=>!decide (x=""))=[y] by simp[hy]]
      exact Tps.upd (Tps.snoc (s8.tps ht) upd_same) (s8 _ _ hw2) (by intro xs z; cases z)
  ·rintro σ H2 ⟨as,v,rfl,sm,hD2,hw2,ht⟩
   rw[List.length_map,take_all] at ht;exact⟨_,rfl,k wl as H2 sm hw0 hw2 ht⟩
def ren (first gap:Int) (ps:List Int):List Int:=ps.map fun x=>first+gap*x
def zfQ:Sp:=fun vs H Q _=>∃p l as pss,vs=[.ref p,.ref l]/\zM H p/\H l=some (.lst (as.map V.ref))/\Tps H as pss/\pss.length<=20/\(∀ps∈pss,ps.length<=10)/\
 ∀D bs qss first gap H',zT p H H'->zM H' p->H D=none->H' D=some (.lst (bs.map V.ref))->Tps H' bs qss->0<=first->first<12->1<=gap->gap<=3->qss.Perm (pss.map (ren first gap))->Q (.ref D) H'
theorem zbO:zv ["box","web","gap","first","found","piece"] ["box","web"] (zf zbv):=⟨rfl,rfl,rfl,by decide +kernel,rfl,by decide +kernel,by decide +kernel⟩
theorem zhC {H2:Hp}{a D:Addr}{ps:List Int}{first gap:Int}{Q:VK} (ha:Tp H2 a ps) (hz:ps.length<=10) (hg:1<=gap/\gap<=3) (hD:H2 D=none)
  (k:∀H3,Same H2 H3->H3 D=some (.lst ((ren first gap ps).map V.int))->Q (.ref D) H3) :
  zap (Itt K a) (zaA 0) tYes (tOp (rI0 fun i j=>.int (i+j)) (tVar 1) (tOp (rI CMul fun i j=>.int (i*j)) (tVar 2) (tVar 0))) [none,some (.int first),some (.int gap)] H2 D Q:=by
 refine zeR (xs:=ps.map V.int) (fun j σ ys H3=>∃v,σ=[v,some (.int first),some (.int gap)]/\Same H2 H3/\H3 D=some (.lst ys)/\ys=((ren first gap ps).take j).map V.int) ?_ ?_ ?_ ?_
 ·exact⟨none,rfl,Same.new hD,upd_same,rfl⟩
 ·rintro j σ ys H3 ⟨v,rfl,sm,hD3,rfl⟩
  exact SqT.of (sm.tp ha)
 ·rintro j σ ys H3 x hx hj hy ⟨v,rfl,sm,hD3,rfl⟩
  obtain⟨q,eq,rfl⟩:=zc4 hx;refine gyes ?_;refine⟨_,rfl,_,rfl,_,rfl,_,_,rfl,rfl,.inl ⟨by omega,by omega⟩,_,_,rfl,rfl,cput (by rw[List.length_map]; exact zg (by omega)) hj hy hD3 ⟨_,rfl,sm.then hD,upd_same,?_⟩⟩;have e:(ren first gap ps)[j]?=some (first+gap*q):=by unfold ren; rw[List.getElem?_map,eq]; rfl
  rw[take_snoc e,List.map_append]; rfl
 ·rintro σ ys H3 ⟨v,rfl,sm,hD3,rfl⟩
  rw[List.take_of_length_le (by unfold ren; simp)] at hD3;exact k H3 sm hD3
theorem zhH {f ft:Addr}{fd fdt:FuncData} (F:Fun K "_law_named" "_law_named" zbv f fd) (B:Bt mg) (Ft:Fun K "_law_take" "_law_take" zci ft fdt) (bt:Binds K fdt ["box","most"] []) (mt:mg "_law_take"=some (.ref ft)) :
  FnOk P w K mg base CX0 2 f fd ["box","web"] zfQ:=by
 have Gt:FnOk P w K mg base CX0 1 ft fdt ["box","most"] zdn:=zcF Ft;refine F.ok zbO (fun vs H Q E h=>?_) (fun cdv A outer s H vs Q E hr h=>?_)
 ·obtain⟨p,l,as,pss,rfl,_⟩:=h; rfl
 ·obtain⟨p,l,as,pss,rfl,hb,hl,ht,h20,h10,k⟩:=h
  refine⟨_,ze (zt (i:=2) zbO.nd rfl (Or.inr rfl) (zC zaq zi (zl Gt hr rfl mt Ft.kp bt .nil pass0 (zc (pv 0) (zc zi zd)))))
   (ze (zt (i:=3) zbO.nd rfl (Or.inr rfl) (zl Gt hr rfl mt Ft.kp bt .nil pass0 (zc (pv 0) (zc zi zd))))
   (ze (zt (i:=4) zbO.nd rfl (Or.inl rfl) (zz zd))
   (ze (zX PassesOwn.never rfl (zH (pv 1)) (zr (i:=5) zbO.nd rfl (Or.inl rfl))
    (zh (zal (zch PySem.F.plainAttrs_list PySem.F.slot_list_insert PySem.F.type_list_insert zdp (pv 4)
     (zc (zl Gt hr rfl mt Ft.kp bt .nil pass0 (zc (pv 0) (zc (zC zaq (zo zk rfl B.len zab (zc (pv 4) zd)) zi) zd)))
     (zc (zF zax rfl B.tuple zcQ (zc
      (zE ["box","web","gap","first","found","piece"] ["point","first","gap"] [none,some 3,some 2] (zdq (pv 5)) (fun cl C s₀ H₀ ex=>zr (i:=0) (ndN ["point","first","gap"]) rfl (Or.inl rfl)) (fun cl C s₀ H₀ ex=>zak)
       (fun cl C s₀ H₀ ex=>zC zaq (pv 1) (zC zcj (pv 2) (pv 0))) (hfr:=frOf (zf zbv) (by decide +kernel))) zd)) zd))))))
   (zh (zp (pv 4)))))),?_⟩
  refine⟨_,rfl,p,3,rfl,hb,by decide,by decide,fun r1 H1 a1 a2 sb1 hb1=>⟨_,_,rfl,rfl,?_⟩⟩;refine⟨_,rfl,p,12,rfl,hb1,by decide,by decide,fun r2 H2 c1 c2 sb2 hb2=>⟨zg (by simp),fun D hD=>?_⟩⟩;have sb12:=sb1.trans sb2;have hD0:H D=none:=sb12.free hb hb2 hD;have hlp:l≠p:=hb.ne hl;have hla:=ht.length;refine⟨_,rfl,l,rfl,⟨_,SqL.of ((sb12.then hD0) _ _ hlp hl)⟩,zah (K:=K) (a:=l) (xs:=as.map V.ref) (fun i σ H3=>∃bs qss v,σ=[some (.ref p),some (.ref l),some (.int (1+r1)),some (.int r2),some (.ref D),v]/\zT p H H3/\zM H3 p/\H3 D=some (.lst (bs.map V.ref))/\Tps H3 bs qss/\qss.Perm ((pss.take i).map (ren r2 (1+r1))))
   ⟨[],[],none,rfl,sb12.then hD0,hb2.new hD,upd_same,.nil,List.Perm.nil⟩ (fun i σ H3 _ ⟨_,_,_,_,sb,_⟩=>SqL.of (sb _ _ hlp hl)) ?_ ?_⟩
  ·rintro i x σ H3 hx ⟨bs,qss,v,rfl,sb3,hb3,hD3,hq,hp⟩
   obtain⟨a,ea,rfl⟩:=z0 hx;obtain⟨ps,eps,hps⟩:=ht.get ea;have hi:i<pss.length:=(List.getElem?_eq_some_iff.mp eps).1;have hlb:=hq.length;have hql:qss.length=i:=by rw[hp.length_eq,List.length_map,List.length_take]; omega
   have hDp:D≠p:=hb3.ne hD3;refine⟨_,rfl,.inl ⟨rfl,_,SqL.of hD3⟩,_,rfl,_,rfl,D,_,rfl,.inl (SqL.of hD3),_,_,rfl,rfl,p,_,rfl,hb3,by rw[List.length_map]; omega,by rw[List.length_map]; omega,fun r H4 r0 r1' sb4 hb4=>?_⟩;rw[List.length_map] at r1';have hps4:Tp H4 a ps:=(sb3.trans sb4).tp hb hps;refine⟨_,rfl,a,rfl,⟨_,SqT.of hps4⟩,fun D2 hD2=>zN (zhC hps4 (h10 ps (List.mem_of_getElem? eps)) ⟨by omega,by omega⟩ hD2 fun H5 sm5 hD5=>⟨D2,_,rfl,.inl ⟨SqL.of hD5,fun t htn=>?_⟩⟩)⟩;have s6:Same H4 (upd H5 t (.tup ((ren r2 (1+r1) ps).map V.int))):=sm5.trans (Same.new htn);have hD4:=sb4 _ _ hDp hD3;have hD6:=s6 _ _ hD4;have hb6:=hb4.same s6;refine⟨D,_,r,_,rfl,rfl,hD6,r0,by rw[List.length_map]; omega,zJ (by rw[List.length_map]; omega),⟨bs.take r.toNat++t::bs.drop r.toNat,qss.take r.toNat++ren r2 (1+r1) ps::qss.drop r.toNat,_,rfl,((sb3.trans sb4).trans (zT.of s6)).then hD0,hb6.upd hDp,?_,?_,?_⟩⟩
   ·rw[upd_same,List.map_append,List.map_cons,List.map_take,List.map_drop]
   ·have tq:=s6.tps (sb4.tps hb3 hq)
    exact Tps.upd (Tps.append (tq.take _) (.cons upd_same (tq.drop _))) hD6 (by intro xs z; cases z)
   ·rw[take_snoc eps,List.map_append]
    have h1:(qss.take r.toNat++ren r2 (1+r1) ps::qss.drop r.toNat).Perm (ren r2 (1+r1) ps::qss):=by
     have:=List.perm_middle (a:=ren r2 (1+r1) ps) (l₁:=qss.take r.toNat) (l₂:=qss.drop r.toNat)
     rwa [List.take_append_drop] at this
    exact h1.trans ((List.perm_append_singleton _ _).symm.trans (List.Perm.append_right _ hp))
  ·rintro σ H3 ⟨bs,qss,v,rfl,sb3,hb3,hD3,hq,hp⟩
   rw[List.length_map,hla,take_all] at hp;exact⟨_,rfl,k D bs qss r2 (1+r1) H3 sb3 hb3 hD0 hD3 hq c1 c2 (by omega) (by omega) hp⟩
end
end K45
end
section
namespace K45
open K1
open PySem L2 STb
abbrev sWeb:Stmt:=top 33
def kvI (seq:List Int):List (Key×V):=(dd seq).map fun n=>((Sum.inl n:Key),V.bl true)
theorem ziW (seq:List Int):(kvI seq).length<=seq.length:=by unfold kvI; rw[List.length_map]; exact zaM seq
theorem ziS (seq:List Int) (n:Int):putK (kvI seq) (Sum.inl n) (.bl true)=kvI (seq++[n]):=by
 unfold putK kvI;rw[zbl];have ha:(((dd seq).map fun n=>((Sum.inl n:Key),V.bl true)).any fun kv=>decide (kv.1=Sum.inl n))=decide (n∈dd seq):=by
  rw[List.any_map]
  by_cases h:n∈dd seq
  ·rw[decide_eq_true h,List.any_eq_true]
   exact⟨n,h,by simp⟩
  ·rw[decide_eq_false h,List.any_eq_false]
   intro q hq;simp only[Function.comp,decide_eq_true_eq,Sum.inl.injEq];rintro rfl;exact h hq
 rw[ha]
 by_cases h:n∈dd seq
 ·rw[decide_eq_true h,if_pos rfl,if_pos h,List.map_map]
  refine List.map_congr_left fun q hq=>?_;simp only[Function.comp];split <;> rfl
 ·rw[decide_eq_false h,if_neg (by simp),if_neg h,List.map_append]
  rfl
theorem zhd (seq:List Int):((kvI seq).map fun kv=>kV kv.1)=(dd seq).map V.int:=by unfold kvI; rw[List.map_map]; rfl
theorem zhi {ms:List Int} (h1:ms.Pairwise (·<=·)) (h2:ms.Nodup):rises ms=true:=by
 rw[zcS];intro i a b ha hb;obtain⟨la,ea⟩:=List.getElem?_eq_some_iff.mp ha;obtain⟨lb,eb⟩:=List.getElem?_eq_some_iff.mp hb;have g1:=List.pairwise_iff_getElem.mp h1 i (i+1) la lb (by omega);have g2:=List.pairwise_iff_getElem.mp h2 i (i+1) la lb (by omega);rw[ea,eb] at g1 g2;omega
def Small (pss:List (List Int)):Prop:=pss.Nodup/\∀ps∈pss,ps≠[]/\ps.length<=4/\rises ps=true/\∀x∈ps,0<=x/\x<=5
def Base (b:List (List Int)):Prop:=(∃n,n<20/\b=known n) \/ (b.length<=5/\Small b)
def Drawn (qss:List (List Int)):Prop:=∃b first gap,Base b/\0<=first/\first<12/\1<=gap/\gap<=3/\qss.Perm (b.map (ren first gap))
theorem zdR:∀n,n<20->(known n).length<=20/\∀ps∈known n,ps≠[]/\ps.length<=5:=by decide +kernel
section
variable {P:Program}{w:World}{K:PySem.W.Frag}{mg:Str->Option Value}{base:Heap}
def zkl:Sp:=fun vs H Q _=>∃p,vs=[.ref p]/\zM H p/\∀D bs qss H',zT p H H'->zM H' p->H D=none->H' D=some (.lst (bs.map V.ref))->Tps H' bs qss->Drawn qss->Q (.ref D) H'
theorem zeS:zv ["box","found","k","some","j","piece"] ["box"] (zf sWeb):=⟨rfl,rfl,rfl,by decide +kernel,rfl,by decide +kernel,by decide +kernel⟩
theorem zj5 {f ft fn fk:Addr}{fd fdt fdn fdk:FuncData} (F:Fun K "_law_web" "_law_web" sWeb f fd) (B:Bt mg) (Ft:Fun K "_law_take" "_law_take" zci ft fdt) (bt:Binds K fdt ["box","most"] []) (mt:mg "_law_take"=some (.ref ft))
  (Fn:Fun K "_law_named" "_law_named" zbv fn fdn) (bn:Binds K fdn ["box","web"] []) (mn:mg "_law_named"=some (.ref fn)) (Fk:Fun K "_law_known" "_law_known" zb4 fk fdk) (bk:Binds K fdk ["number"] []) (mk:mg "_law_known"=some (.ref fk)) :
  FnOk P w K mg base CX0 3 f fd ["box"] zkl:=by
 have Gt:FnOk P w K mg base CX0 1 ft fdt ["box","most"] zdn:=zcF Ft;have Gn:FnOk P w K mg base CX0 2 fn fdn ["box","web"] zfQ:=zhH Fn B Ft bt mt;have Gk:FnOk P w K mg base CX0 1 fk fdk ["number"] zgp:=zgZ Fk B;refine F.ok zeS (fun vs H Q E h=>?_) (fun cdv A outer s H vs Q E hr h=>?_)
 ·obtain⟨p,rfl,_⟩:=h; rfl
 ·obtain⟨p,rfl,hb,k⟩:=h
  have hu:=ze6 hr;have hu64:=hr.units;have hr1:Room 1 _:=hr.mono (by decide);refine⟨_,ze (zR (zn zfh (zl Gt hr1 rfl mt Ft.kp bt .nil pass0 (zc (pv 0) (zc zi zd))) zi (nomark _))
    (zh (zp (zl Gn hr rfl mn Fn.kp bn .nil pass0 (zc (pv 0) (zc (zl Gk hr1 rfl mk Fk.kp bk .nil pass0 (zc (zl Gt hr1 rfl mt Ft.kp bt .nil pass0 (zc (pv 0) (zc zi zd))) zd)) zd))))) zw)
   (ze (zt (i:=1) zeS.nd rfl (Or.inl rfl) (zz zd))
   (ze (zX PassesOwn.never rfl (zar rfl B.range (zc (zl Gt hr1 rfl mt Ft.kp bt .nil pass0 (zc (pv 0) (zc zi zd))) zd)) (zr (i:=2) zeS.nd rfl (Or.inl rfl))
    (ze (zt (i:=3) zeS.nd rfl (Or.inl rfl) zhc)
    (ze (zX PassesOwn.never rfl (zar rfl B.range (zc (zC zaq zi (zl Gt hr1 rfl mt Ft.kp bt .nil pass0 (zc (pv 0) (zc zi zd)))) zd)) (zr (i:=4) zeS.nd rfl (Or.inl rfl))
     (zh (zbd hu (pv 3) (zl Gt hr1 rfl mt Ft.kp bt .nil pass0 (zc (pv 0) (zc zi zd))) zaL rfl)))
    (ze (zt (i:=5) zeS.nd rfl (Or.inl rfl) (zF zax rfl B.tuple zcQ (zc (zo zbz rfl B.sorted zcM (zc (zF (zc7 rfl) rfl B.list zb7 (zc (pv 3) zd)) zd)) zd)))
    (zh (zR (zn (za7 (in1_units hu64)) (pv 5) (pv 1) (by with_unfolding_all rfl)) (zh (zal (zch PySem.F.plainAttrs_list PySem.F.slot_list_append PySem.F.type_list_append zac (pv 1) (zc (pv 5) zd)))) zw))))))
   (zh (zp (zl Gn hr rfl mn Fn.kp bn .nil pass0 (zc (pv 0) (zc (pv 1) zd))))))),?_⟩
  refine⟨_,rfl,p,2,rfl,hb,by decide,by decide,fun r H1 r0 r1 sb1 hb1=>⟨rfl,_,rfl,?_⟩⟩;refine ite2 (fun h1=>?_) (fun h1=>?_)
  ·refine⟨_,rfl,_,rfl,p,20,rfl,hb1,by decide,by decide,fun n H2 n0 n1 sb2 hb2=>?_⟩
   obtain⟨m,rfl⟩:=Int.eq_ofNat_of_zero_le n0;refine⟨m,rfl,by omega,fun D as H3 sm3 hD0 hD ht=>?_⟩;obtain⟨g1,g2⟩:=zdR m (by omega);have sb3:=(sb1.trans sb2).trans (zT.of sm3);have hb3:=hb2.same sm3;refine⟨p,D,as,known m,rfl,hb3,hD,ht,g1,fun ps hp=>by have:=(g2 ps hp).2; omega,fun D' bs qss first gap H4 sb4 hb4 hD' hD4 ht4 c1 c2 c3 c4 hperm=>?_⟩;exact k D' bs qss H4 (sb3.trans sb4) hb4 (sb3.free hb hb3 hD') hD4 ht4 ⟨known m,first,gap,.inl ⟨m,by omega,rfl⟩,c1,c2,c3,c4,hperm⟩
  ·refine⟨zg (by simp),fun L hL=>?_⟩
   have hL0:H L=none:=sb1.free hb hb1 hL;refine⟨_,rfl,p,6,rfl,hb1.new hL,by decide,by decide,fun r6 H3 a1 a2 sb3 hb3=>⟨r6,rfl,by omega,by omega,?_⟩⟩;have hLp:L≠p:=zM.ne (as:=[]) (hb1.new hL) upd_same;have sb03:zT p H H3:=(sb1.then hL0).trans sb3;refine zbb (lo:=0) (n:=r6.toNat) (fun i σ H4=>∃as pss v2 v3 v4 v5,σ=[some (.ref p),some (.ref L),v2,v3,v4,v5]/\zT p H H4/\zM H4 p/\H4 L=some (.lst (as.map V.ref))/\Tps H4 as pss/\Small pss/\pss.length<=i)
    ⟨[],[],none,none,none,none,rfl,sb03,hb3,sb3 _ _ hLp upd_same,.nil,⟨List.nodup_nil,fun ps h=>nomatch h⟩,Nat.le_refl _⟩ ?_ ?_
   ·rintro i σ H4 hi ⟨as,pss,v2,v3,v4,v5,rfl,sb4,hb4,hL4,ht4,hsm,hlen⟩
    have hla:=ht4.length;intro d hd;have hd0:H d=none:=sb4.free hb hb4 hd;have hLd:L≠d:=zj hL4 hd;refine⟨_,rfl,p,4,rfl,hb4.new hd,by decide,by decide,fun r4 H5 e1 e2 sb5 hb5=>⟨_,_,rfl,rfl,_,rfl,by omega,by omega,?_⟩⟩;have hdp:d≠p:=by
     obtain⟨x,y,e,_⟩:=hb4.new (o:=.dK []) hd;exact zbA upd_same e (by intro z; cases z)
    have s4:=Same.new (o:=.dK []) hd;refine zbb (lo:=0) (n:=(1+r4).toNat) (fun j σ H6=>∃seq v4,σ=[some (.ref p),some (.ref L),some (.int (0+i)),some (.ref d),v4,v5]/\zT p H H6/\zM H6 p/\H6 L=some (.lst (as.map V.ref))/\Tps H6 as pss/\H6 d=some (.dK (kvI seq))/\seq.length=j/\∀x∈seq,0<=x/\x<=5)
     ⟨[],_,rfl,(sb4.then hd0).trans sb5,hb5,sb5 _ _ hLp (s4 _ _ hL4),sb5.tps (hb4.new hd) (s4.tps ht4),sb5 _ _ hdp upd_same,rfl,fun x h=>nomatch h⟩ ?_ ?_
    ·rintro j σ H6 hj ⟨seq,v4,rfl,sb6,hb6,hL6,ht6,hd6,hs6,hx6⟩
     refine⟨_,rfl,_,rfl,p,6,rfl,hb6,by decide,by decide,fun r H7 f1 f2 sb7 hb7=>⟨d,_,rfl,DPut.k (k:=Sum.inl r) (sb7 _ _ hdp hd6) (zJ (by have:=ziW seq; omega)),⟨seq++[r],_,rfl,(sb6.trans sb7).then hd0,hb7.upd hdp,?_,?_,by rw[upd_same,ziS],by rw[List.length_append,hs6]; rfl,?_⟩⟩⟩
     ·rw[upd_ne hLd]; exact sb7 _ _ hLp hL6
     ·exact Tps.upd (sb7.tps hb6 ht6) (sb7 _ _ hdp hd6) (by intro xs z; cases z)
     ·intro x hx
      rcases List.mem_append.mp hx with hx | hx
      ·exact hx6 x hx
      ·rw[List.mem_singleton] at hx; subst hx; omega
    ·rintro σ H6 ⟨seq,v4,rfl,sb6,hb6,hL6,ht6,hd6,hs6,hx6⟩
     refine⟨_,rfl,d,_,rfl,hd6,fun l2 hl2=>⟨l2,dd seq,rfl,SqL.of (by rw[upd_same,zhd]),(by have:=zaM seq; omega),fun D2 ms hp hs hD2=>⟨D2,_,rfl,.inl ⟨SqL.of upd_same,fun t htn=>?_⟩⟩⟩⟩;have s6:Same H6 (upd (upd (upd H6 l2 (.lst ((kvI seq).map fun kv=>kV kv.1))) D2 (.lst (ms.map V.int))) t (.tup (ms.map V.int))):=((Same.new hl2).trans (Same.new hD2)).trans (Same.new htn);generalize hH7:upd (upd (upd H6 l2 (.lst ((kvI seq).map fun kv=>kV kv.1))) D2 (.lst (ms.map V.int))) t (.tup (ms.map V.int))=H7 at s6;have htt:Tp H7 t ms:=by rw[<- hH7]; exact upd_same
     have sb7:=sb6.trans (zT.of s6);have hb7:=hb6.same s6;refine⟨_,rfl,_,rfl,t,L,ms,as,pss,rfl,rfl,htt,SqL.of (s6 _ _ hL6),s6.tps ht6,_,rfl,?_⟩;have hms:ms≠[]/\ms.length<=4/\rises ms=true/\∀x∈ms,0<=x/\x<=5:=by
      refine⟨fun z=>?_,?_,zhi hs (hp.nodup_iff.mpr (zcP seq)),fun x hx=>hx6 x ((za4 seq x).mp (hp.mem_iff.mp hx))⟩
      ·have h0:dd seq=[]:=by rw[z] at hp; exact (List.nil_perm.mp hp)
       cases hq:seq with
       | nil=>rw[hq] at hs6; simp at hs6; omega
       | cons x r=>
        have:=(za4 seq x).mpr (by rw[hq]; exact List.mem_cons_self);rw[h0] at this;cases this
      ·have:=zaM seq
       rw[hp.length_eq];omega
     by_cases hin:ms∈pss
     ·rw[decide_eq_true hin]
      exact iteF ⟨as,pss,_,_,_,_,rfl,sb7,hb7,s6 _ _ hL6,s6.tps ht6,hsm,by omega⟩
     ·rw[decide_eq_false hin]
      refine iteT ⟨_,rfl,.inl ⟨rfl,_,SqL.of (s6 _ _ hL6)⟩,_,rfl,L,_,_,rfl,rfl,s6 _ _ hL6,zJ (by rw[List.length_map]; omega),⟨as++[t],pss++[ms],_,_,_,_,rfl,sb7.then hL0,hb7.upd hLp,by rw[upd_same,List.map_append]; rfl,Tps.upd (Tps.snoc (s6.tps ht6) htt) (s6 _ _ hL6) (by intro xs z; cases z),⟨?_,?_⟩,by rw[List.length_append]; simp; omega⟩⟩
      ·rw[List.nodup_append]
       refine⟨hsm.1,by simp,fun a ha b hb' e=>?_⟩;rw[List.mem_singleton] at hb';subst hb'; subst e; exact hin ha
      ·intro ps hps
       rcases List.mem_append.mp hps with h | h
       ·exact hsm.2 ps h
       ·rw[List.mem_singleton] at h; subst h; exact hms
   ·rintro σ H4 ⟨as,pss,v2,v3,v4,v5,rfl,sb4,hb4,hL4,ht4,hsm,hlen⟩
    refine⟨_,rfl,_,rfl,p,L,as,pss,rfl,hb4,hL4,ht4,by omega,fun ps hp=>by have:=(hsm.2 ps hp).2.1; omega,fun D' bs qss first gap H5 sb5 hb5 hD' hD5 ht5 c1 c2 c3 c4 hperm=>?_⟩;exact k D' bs qss H5 (sb4.trans sb5) hb5 (sb4.free hb hb4 hD') hD5 ht5 ⟨pss,first,gap,.inr ⟨by omega,hsm⟩,c1,c2,c3,c4,hperm⟩
end
end K45
end
section
namespace K1
open PySem L2 STb
theorem zex:∀a b:List Int,HT.lexLt a b=true->HT.lexLt b a=false
 | [],[],h=>rfl
 | [],_::_,h=>rfl
 | _::_,[],h=>by rw[HT.zaN] at h; exact absurd h Bool.false_ne_true
 | x::xs,y::ys,h=>by
  rw[HT.zG] at h ⊢
  by_cases e:x=y
  ·rw[if_pos e] at h; rw[if_pos e.symm]; exact zex xs ys h
  ·rw[if_neg e] at h; rw[if_neg (fun z=>e z.symm)]
   have:=of_decide_eq_true h;exact decide_eq_false (by omega)
theorem zeo:∀a b:List Int,HT.lexLt a b=false->HT.lexLt b a=false->a=b
 | [],[],_,_=>rfl
 | [],_::_,h,_=>by rw[HT.zO] at h; exact absurd h (by decide)
 | _::_,[],_,h=>by rw[HT.zO] at h; exact absurd h (by decide)
 | x::xs,y::ys,h,h'=>by
  rw[HT.zG] at h h'
  by_cases e:x=y
  ·rw[if_pos e] at h; rw[if_pos e.symm] at h'
   rw[e,zeo xs ys h h']
  ·rw[if_neg e] at h; rw[if_neg (fun z=>e z.symm)] at h'
   have:=of_decide_eq_false h;have:=of_decide_eq_false h';omega
theorem zan:∀a b c:List Int,HT.lexLt b a=false->HT.lexLt c b=false->HT.lexLt c a=false
 | [],b,c,_,_=>by cases c with
  | nil=>rfl
  | cons _ _=>rfl
 | _::_,[],c,h,_=>by rw[HT.zO] at h; exact absurd h (by decide)
 | _::_,_::_,[],_,h=>by rw[HT.zO] at h; exact absurd h (by decide)
 | x::xs,y::ys,z::zs,h,h'=>by
  rw[HT.zG] at h h' ⊢
  by_cases e:y=x
  ·rw[if_pos e] at h
   by_cases e2:z=y
   ·rw[if_pos e2] at h'; rw[if_pos (e2.trans e)]; exact zan xs ys zs h h'
   ·rw[if_neg e2] at h'; rw[if_neg (by omega)]
    have:=of_decide_eq_false h';exact decide_eq_false (by omega)
  ·rw[if_neg e] at h
   have h1:=of_decide_eq_false h
   by_cases e2:z=y
   ·rw[if_neg (by omega)]
    exact decide_eq_false (by omega)
   ·rw[if_neg e2] at h'
    have h2:=of_decide_eq_false h';rw[if_neg (by omega)];exact decide_eq_false (by omega)
def key (p:List Int):List Int:=(p.length:Int)::p
def kle (a b:List Int):Bool:=!HT.lexLt (key b) (key a)
theorem zbQ {a b:List Int}:kle a b=true ↔ HT.lexLt (key b) (key a)=false:=by unfold kle; simp
def canon (pss:List (List Int)):List (List Int):=(dd (pss.flatMap parts)).mergeSort kle
theorem zbi (pss:List (List Int)):(canon pss).Perm (dd (pss.flatMap parts)):=List.mergeSort_perm _ _
theorem zdj (pss:List (List Int)):(canon pss).Pairwise (fun a b=>kle a b=true):=by
 refine List.pairwise_mergeSort (fun a b c h1 h2=>?_) (fun a b=>?_) _
 ·rw[zbQ] at h1 h2 ⊢; exact zan _ _ _ h1 h2
 ·rw[Bool.or_eq_true,zbQ,zbQ]
  cases h:HT.lexLt (key b) (key a) with
  | false=>exact .inl rfl
  | true=>exact .inr (zex _ _ h)
theorem zcZ {pss:List (List Int)}{x:List Int}:x∈canon pss ↔ x∈pss.flatMap parts:=by rw[(zbi pss).mem_iff,za4]
theorem za1 (pss:List (List Int)):(canon pss).length=(dd (pss.flatMap parts)).length:=(zbi pss).length_eq
theorem zgk {l m:List (List Int)} (hp:l.Perm m) (h1:l.Pairwise (fun a b=>kle a b=true)) (h2:m.Pairwise (fun a b=>kle a b=true)):l=m:=by
 refine List.Perm.eq_of_pairwise (fun a b _ _ g1 g2=>?_) h1 h2 hp;rw[zbQ] at g1 g2;have:=zeo _ _ g2 g1;unfold key at this;exact (List.cons.inj this).2
theorem canon_of {pss l:List (List Int)} (hp:l.Perm (dd (pss.flatMap parts))) (hs:l.Pairwise (fun a b=>HT.lexLt ((b.length:Int)::b) ((a.length:Int)::a)=false)):l=canon pss:=
 zgk (hp.trans (zbi pss).symm) (hs.imp fun h=>zbQ.mpr h) (zdj pss)
theorem zbF:∀(n:Nat) (p q:List Int),p.length=n->(q∈subs p ↔ q.Sublist p)
 | 0,p,q,h=>by
  obtain rfl:=List.eq_nil_of_length_eq_zero h;show q∈[[]] ↔ _;simp
 | n+1,p,q,h=>by
  obtain⟨r,x,rfl⟩:∃r x,p=r++[x]:=by
   rcases List.eq_nil_or_concat p with e | ⟨r,x,e⟩
   ·rw[e] at h; cases h
   ·exact⟨r,x,by rw[e,List.concat_eq_append]⟩
  have hr:r.length=n:=by simpa using h
  rw[zbU,List.mem_append,zbF n r q hr,List.mem_map,List.sublist_append_iff];constructor
  ·rintro (h1 | ⟨y,hy,rfl⟩)
   ·exact⟨q,[],by simp,h1,List.nil_sublist _⟩
   ·exact⟨y,[x],rfl,(zbF n r y hr).mp hy,List.Sublist.refl _⟩
  ·rintro⟨l1,l2,rfl,s1,s2⟩
   cases s2 with
   | cons _ h=>
    obtain rfl:=List.sublist_nil.mp h;exact .inl (by simpa using s1)
   | cons_cons _ h=>
    obtain rfl:=List.sublist_nil.mp h;exact .inr ⟨l1,(zbF n r l1 hr).mpr s1,rfl⟩
theorem zZ {p q:List Int}:q∈parts p ↔ q≠[]/\q.Sublist p:=by
 obtain⟨t,e,ht⟩:=zcg p;have hs:=zbF p.length p q rfl;rw[e] at hs;unfold parts;rw[e];show q∈t ↔ _;constructor
 ·intro h
  exact⟨ht q h,hs.mp (List.mem_cons_of_mem _ h)⟩
 ·rintro⟨h1,h2⟩
  rcases List.mem_cons.mp (hs.mpr h2) with h | h
  ·exact absurd h h1
  ·exact h
theorem za5:∀p:List Int,rises p=true ↔ p.Pairwise (·<·)
 | []=>by simp[rises]
 | [a]=>by simp[rises]
 | a::b::r=>by
  have ih:=za5 (b::r);rw[show rises (a::b::r)=(decide (a<b) && rises (b::r)) from rfl,Bool.and_eq_true,decide_eq_true_eq,ih,List.pairwise_cons (a:=a)];constructor
  ·rintro⟨h1,h2⟩
   refine⟨fun x hx=>?_,h2⟩;rcases List.mem_cons.mp hx with rfl | hx
   ·exact h1
   ·have:=(List.pairwise_cons.mp h2).1 x hx
    omega
  ·rintro⟨h1,h2⟩
   exact⟨h1 b List.mem_cons_self,h2⟩
theorem zad {p:List Int}:zas p=true ↔ p≠[]/\p.length<=5/\(∀x∈p,0<=x/\x<=99)/\p.Pairwise (·<·):=by
 unfold zas;simp only[Bool.and_eq_true,decide_eq_true_eq,List.all_eq_true,za5];constructor
 ·rintro⟨⟨⟨h1,h2⟩,h3⟩,h4⟩
  exact⟨fun z=>by rw[z] at h1; simp at h1,h2,h3,h4⟩
 ·rintro⟨h1,h2,h3,h4⟩
  refine⟨⟨⟨?_,h2⟩,h3⟩,h4⟩;cases p with
  | nil=>exact absurd rfl h1
  | cons _ _=>simp
theorem zeZ {p q:List Int} (h:zas p=true) (hq:q∈parts p):zas q=true:=by
 rw[zad] at h ⊢;rw[zZ] at hq;exact⟨hq.1,Nat.le_trans hq.2.length_le h.2.1,fun x hx=>h.2.2.1 x (hq.2.subset hx),h.2.2.2.sublist hq.2⟩
theorem ziY {pss:List (List Int)} (hn:pss.Nodup) (hp:∀p∈pss,zas p=true):zig pss pss.length:=by
 intro i p hi e;refine⟨fun hm=>?_,hp p (List.mem_of_getElem? e)⟩;obtain⟨j,ej⟩:=List.mem_iff_getElem?.mp hm;obtain⟨lj,ej'⟩:=List.getElem?_eq_some_iff.mp ej;rw[List.length_take] at lj;obtain⟨li,ei⟩:=List.getElem?_eq_some_iff.mp e;have:=List.pairwise_iff_getElem.mp hn j i (by omega) li (by omega);rw[List.getElem_take] at ej';exact this (ej'.trans ei.symm)
theorem zjj {pss:List (List Int)} (h20:pss.length<=20) (hn:pss.Nodup) (hp:∀p∈pss,zas p=true) (h:(dd (pss.flatMap parts)).length<=200):webM pss=true:=by
 rw[zgS pss h20 (ziY hn hp),decide_eq_true h]
theorem zdO {pss:List (List Int)} (h:webM pss=true):pss.length<=20/\(∀p∈pss,zas p=true)/\(∀p∈pss,p.length<=5)/\(dd (pss.flatMap parts)).length<=200:=by
 unfold webM at h;simp only[Bool.and_eq_true,decide_eq_true_eq,List.all_eq_true] at h;obtain⟨⟨⟨h1,h2⟩,h3⟩,h4⟩:=h;have h5:∀p∈pss,zas p=true:=fun p hp=>by rw[<- zey]; exact h2 p hp
 exact⟨h1,h5,fun p hp=>(zad.mp (h5 p hp)).2.1,h4⟩
def over (o p:List Int):Bool:=decide (p.length<o.length) && p.all fun x=>decide (x∈o)
end K1
end
section
namespace K45
open K1
open PySem L2 STb
def BOk (b:List (List Int)):Prop:=b.Nodup/\b.length<=17/\(∀ps∈b,ps≠[]/\ps.length<=5/\rises ps=true/\∀x∈ps,0<=x/\x<=7)/\(b.flatMap parts).length<=200
theorem zke:∀n,n<20->(known n).Nodup/\(known n).length<=17/\(∀ps∈known n,ps≠[]/\ps.length<=5/\rises ps=true/\∀x∈ps,0<=x/\x<=7)/\((known n).flatMap parts).length<=200:=by decide +kernel
theorem zeO {m:Nat}:∀{b:List (List Int)},(∀ps∈b,(parts ps).length<=m)->(b.flatMap parts).length<=m*b.length
 | [],_=>by simp
 | p::r,h=>by
  have h1:=h p List.mem_cons_self;have h2:=zeO (b:=r) fun q hq=>h q (List.mem_cons_of_mem _ hq);rw[List.flatMap_cons,List.length_append,List.length_cons,Nat.mul_succ];omega
theorem zjg {b:List (List Int)} (h:Base b):BOk b:=by
 rcases h with ⟨n,hn,rfl⟩ | ⟨h5,hs⟩
 ·exact zke n hn
 ·refine⟨hs.1,by omega,fun ps hp=>?_,?_⟩
  ·obtain⟨h1,h2,h3,h4⟩:=hs.2 ps hp
   exact⟨h1,by omega,h3,fun x hx=>by have:=h4 x hx; omega⟩
  ·have:=zeO (m:=15) (b:=b) fun ps hp=>by
    rw[zat];have h2:=(hs.2 ps hp).2.1;have:2 ^ ps.length<=2 ^ 4:=Nat.pow_le_pow_right (by decide) h2;omega
   omega
theorem zir {first gap:Int} (hg:1<=gap) {p q:List Int} (h:ren first gap p=ren first gap q):p=q:=by
 unfold ren at h;refine (List.map_inj_right (f:=fun x=>first+gap*x) (fun x y e=>?_)).mp h;have:gap*x=gap*y:=by omega
 exact Int.eq_of_mul_eq_mul_left (by omega) this
theorem zfB {first gap:Int} (h0:0<=first) (h1:first<12) (hg:1<=gap) (hg3:gap<=3) {p:List Int} (h:p≠[]/\p.length<=5/\rises p=true/\∀x∈p,0<=x/\x<=7):zas (ren first gap p)=true:=by
 obtain⟨a,b,c,d⟩:=h;rw[zad];unfold ren;refine⟨fun z=>a (List.map_eq_nil_iff.mp z),by rw[List.length_map]; exact b,fun y hy=>?_,?_⟩
 ·obtain⟨x,hx,rfl⟩:=List.mem_map.mp hy
  have:=d x hx;have hg':gap=1 \/ gap=2 \/ gap=3:=by omega
  rcases hg' with rfl | rfl | rfl <;> omega
 ·rw[za5] at c
  rw[List.pairwise_map];refine c.imp fun {x y} e=>?_;have:gap*x<gap*y:=Int.mul_lt_mul_of_pos_left e (by omega);omega
theorem zgE {q:List (List Int)} (h:Drawn q):webM q=true/\q.Nodup/\q.length<=17:=by
 obtain⟨b,first,gap,hb,h0,h1,hg,hg3,hp⟩:=h;obtain⟨n1,n2,n3,n4⟩:=zjg hb;have hl:q.length<=17:=by rw[hp.length_eq,List.length_map]; exact n2
 have hn:q.Nodup:=by
  rw[hp.nodup_iff];unfold List.Nodup at n1 ⊢;rw[List.pairwise_map];exact n1.imp fun {x y} e z=>e (zir hg z)
 refine⟨zjj (by omega) hn (fun p hm=>?_) ?_,hn,hl⟩
 ·obtain⟨r,hr,rfl⟩:=List.mem_map.mp (hp.mem_iff.mp hm)
  exact zfB h0 h1 hg hg3 (n3 r hr)
 ·refine Nat.le_trans (zaM _) ?_
  rw[(hp.flatMap_right parts).length_eq];have:∀b:List (List Int),((b.map (ren first gap)).flatMap parts).length=(b.flatMap parts).length:=by
   intro b
   induction b with
   | nil=>rfl
   | cons p r ih=>
    rw[List.map_cons,List.flatMap_cons,List.flatMap_cons,List.length_append,List.length_append,ih,zat,zat];unfold ren;rw[List.length_map]
  rw[this];exact n4
end K45
end
section
namespace K1
open PySem L2 STb
def rims (q:List Int):List (List Int):=if q.length=1 then [] else (List.range q.length).map fun k=>q.take k++q.drop (k+1)
theorem zcA (q:List Int):(rims q).length<=q.length:=by
 unfold rims;split
 ·exact Nat.zero_le _
 ·simp
theorem zeI {p q:List Int}:p∈rims q ↔ q.length≠1/\∃k,k<q.length/\p=q.take k++q.drop (k+1):=by
 unfold rims;split
 next h=>simp[h]
 next h=>
  rw[List.mem_map];constructor
  ·rintro⟨k,hk,rfl⟩
   exact⟨h,k,List.mem_range.mp hk,rfl⟩
  ·rintro⟨_,k,hk,rfl⟩
   exact⟨k,List.mem_range.mpr hk,rfl⟩
theorem zbq:∀(o p:List Int),o.Pairwise (·<·)->p.Pairwise (·<·)->(∀x∈p,x∈o)->p.Sublist o
 | [],p,_,_,h=>by
  cases p with
  | nil=>exact List.Sublist.slnil
  | cons a r=>exact absurd (h a List.mem_cons_self) (by simp)
 | b::o,p,ho,hp,h=>by
  obtain⟨ho1,ho2⟩:=List.pairwise_cons.mp ho;cases p with
  | nil=>exact List.nil_sublist _
  | cons a r=>
   obtain⟨hp1,hp2⟩:=List.pairwise_cons.mp hp
   by_cases e:a=b
   ·subst e
    refine (zbq o r ho2 hp2 fun x hx=>?_).cons_cons a;rcases List.mem_cons.mp (h x (List.mem_cons_of_mem _ hx)) with rfl | q
    ·have:=hp1 x hx; omega
    ·exact q
   ·have ha:a∈o:=by
     rcases List.mem_cons.mp (h a List.mem_cons_self) with q | q
     ·exact absurd q e
     ·exact q
    have hab:=ho1 a ha;refine (zbq o (a::r) ho2 hp fun x hx=>?_).cons b;rcases List.mem_cons.mp (h x hx) with q | q
    ·exfalso
     rcases List.mem_cons.mp hx with z | z
     ·omega
     ·have:=hp1 x z; omega
    ·exact q
theorem zgJ {p q:List Int}{k:Nat} (hk:k<q.length) (h:p=q.take k++q.drop (k+1)):p.Sublist q/\p.length<q.length:=by
 subst h;refine⟨?_,?_⟩
 ·have h1:(q.take k++q.drop (k+1)).Sublist (q.take k++q.drop k):=(List.Sublist.refl _).append (by
   rw[show q.drop (k+1)=(q.drop k).drop 1 by rw[List.drop_drop]];exact List.drop_sublist _ _)
  rwa [List.take_append_drop] at h1
 ·rw[List.length_append,List.length_take,List.length_drop]
  omega
end K1
end
section
namespace K45
open K1
open PySem L2 STb
theorem zfX:∀n,n<20->(dd ((known n).flatMap parts)).length<=56:=by decide +kernel
def six:List (List Int):=(parts [0,1,2,3,4,5]).filter fun q=>decide (q.length<=4)
theorem ziq:six.length=56:=by decide +kernel
theorem zg1 {b:List (List Int)} (h:Base b):(dd (b.flatMap parts)).length<=56:=by
 rcases h with ⟨n,hn,rfl⟩ | ⟨h5,hs⟩
 ·exact zfX n hn
 ·rw[<- ziq]
  refine (zcP _).length_le_of_subset fun x hx=>?_;rw[za4,List.mem_flatMap] at hx;obtain⟨p,hp,hx⟩:=hx;obtain⟨_,h4,hr,hb⟩:=hs.2 p hp;rw[zZ] at hx;have hl:=hx.2.length_le;unfold six;rw[List.mem_filter,zZ];refine⟨⟨hx.1,hx.2.trans (zbq _ _ (by decide) ((za5 p).mp hr) fun y hy=>?_)⟩,decide_eq_true (by omega)⟩;have:=hb y hy;have:y=0 \/ y=1 \/ y=2 \/ y=3 \/ y=4 \/ y=5:=by omega
  rcases this with rfl | rfl | rfl | rfl | rfl | rfl <;> decide
theorem zfl {q:List (List Int)} (h:Drawn q):(dd (q.flatMap parts)).length<=56:=by
 obtain⟨b,first,gap,hb,_,_,_,_,hp⟩:=h;refine Nat.le_trans ?_ (zg1 hb);have e:((dd (b.flatMap parts)).map (ren first gap)).length=(dd (b.flatMap parts)).length:=List.length_map _;rw[<- e];refine (zcP _).length_le_of_subset fun x hx=>?_;rw[za4,List.mem_flatMap] at hx;obtain⟨p,hm,hx⟩:=hx;obtain⟨r,hr,rfl⟩:=List.mem_map.mp (hp.mem_iff.mp hm);rw[zZ] at hx;obtain⟨hne,hsub⟩:=hx;unfold ren at hsub;obtain⟨y,hy,rfl⟩:=List.sublist_map_iff.mp hsub;refine List.mem_map.mpr ⟨y,?_,rfl⟩;rw[za4,List.mem_flatMap];exact⟨r,hr,zZ.mpr ⟨fun z=>hne (by rw[z]; rfl),hy⟩⟩
end K45
end
section
namespace K45
open K1
open PySem L2 STb
def webS (pss:List (List Int)):Prop:=webM pss=true/\(canon pss).length<64
abbrev zec:Stmt:=top 16
abbrev zaW:Stmt:=top 17
theorem zeN {H:Hp}:∀{qs:List (List Int×Addr)},(∀q∈qs,Tp H q.2 q.1)->Tps H (qs.map (·.2)) (qs.map (·.1))
 | [],_=>.nil
 | q::r,h=>.cons (h q List.mem_cons_self) (zeN fun x hx=>h x (List.mem_cons_of_mem _ hx))
theorem zcq {H H2:Hp}{pss:List (List Int)}{D:Addr}{qs:List (List Int×Addr)} (t:Told H H2 pss D qs):∃bs,Same H H2/\H D=none/\H2 D=some (.lst (bs.map V.ref))/\Tps H2 bs (canon pss):=by
 obtain⟨sm,hD,hD2,hq,hp,hs⟩:=t;have e:qs.map (·.1)=canon pss:=canon_of hp (List.pairwise_map.mpr hs);refine⟨qs.map (·.2),sm,hD,by rw[hD2,List.map_map]; rfl,?_⟩;rw[<- e];exact zeN hq
section
variable {P:Program}{w:World}{K:PySem.W.Frag}{mg:Str->Option Value}{base:Heap}
def zej (K:PySem.W.Frag):Sp:=fun vs H Q _=>∃l as pss,vs=[.ref l]/\SqL K H l (as.map V.ref)/\Tps H as pss/\webS pss/\∀D H2 bs,Same H H2->H D=none->H2 D=some (.lst (bs.map V.ref))->Tps H2 bs (canon pss)->Q (.ref D) H2
theorem zhn:zv ["web"] ["web"] (zf zaW):=⟨rfl,rfl,rfl,by decide +kernel,rfl,by decide +kernel,by decide +kernel⟩
theorem zkb:zv ["web"] ["web"] (zf zec):=⟨rfl,rfl,rfl,by decide +kernel,rfl,by decide +kernel,by decide +kernel⟩
def zic (K:PySem.W.Frag):Sp:=fun vs H Q _=>∃l as pss,vs=[.ref l]/\SqL K H l (as.map V.ref)/\Tps H as pss/\webS pss/\∀H2,Same H H2->Q .non H2
theorem zin {f fw:Addr}{fd fdw:FuncData} (F:Fun K "must_be_web" "must_be_web" zec f fd)
  (Fw:Fun K "is_web" "is_web" zcd fw fdw) (bw:Binds K fdw ["web"] []) (mw:mg "is_web"=some (.ref fw)) (Gw:FnOk P w K mg base CX0 6 fw fdw ["web"] (zfM K)):FnOk P w K mg base CX0 7 f fd ["web"] (zic K):=by
 refine F.ok zkb (fun vs H Q E h=>?_) (fun cdv A outer s H vs Q E hr h=>?_)
 ·obtain⟨l,as,pss,rfl,_⟩:=h; rfl
 ·obtain⟨l,as,pss,rfl,hl,ht,hw,k⟩:=h
  refine⟨_,zh (zR (zb1 (zbP (zl Gw hr rfl mw Fw.kp bw .nil pass0 (zc (pv 0) zd)))) zgv zw),?_⟩;refine⟨_,rfl,l,as,pss,rfl,hl,ht,(fun _=>by rw[<- za1]; exact hw.2),fun H1 sm1=>⟨_,rfl,?_⟩⟩;rw[hw.1];exact iteF (k H1 sm1)
theorem zgc {f fw fa:Addr}{fd fdw fda:FuncData} (F:Fun K "pieces" "pieces" zaW f fd)
  (Fw:Fun K "must_be_web" "must_be_web" zec fw fdw) (bw:Binds K fdw ["web"] []) (mw:mg "must_be_web"=some (.ref fw)) (Gw:FnOk P w K mg base CX0 7 fw fdw ["web"] (zic K))
  (Fa:Fun K "all_parts" "all_parts" sAll fa fda) (ba:Binds K fda ["some"] []) (ma:mg "all_parts"=some (.ref fa)) (Ga:FnOk P w K mg base CX0 5 fa fda ["some"] (zgH K)):FnOk P w K mg base CX0 8 f fd ["web"] (zej K):=by
 refine F.ok zhn (fun vs H Q E h=>?_) (fun cdv A outer s H vs Q E hr h=>?_)
 ·obtain⟨l,as,pss,rfl,_⟩:=h; rfl
 ·obtain⟨l,as,pss,rfl,hl,ht,hw,k⟩:=h
  have hr5:Room 5 _:=hr.mono (by decide);refine⟨_,ze (zal (zl Gw hr rfl mw Fw.kp bw .nil pass0 (zc (pv 0) zd)))
   (zh (zp (zl Ga hr5 rfl ma Fa.kp ba .nil pass0 (zc (pv 0) zd)))),?_⟩
  obtain⟨h20,_,h5,_⟩:=zdO hw.1;refine⟨_,rfl,l,as,pss,rfl,hl,ht,hw,fun H1 sm1=>?_⟩;refine⟨_,rfl,l,as,pss,rfl,sm1.seq hl,sm1.tps ht,h5,Nat.le_trans h20 (by decide),(by rw[<- za1]; exact hw.2),fun D H2 qs t=>?_⟩;obtain⟨bs,sm2,hD,hD2,hb⟩:=zcq t;exact k D H2 bs (sm1.trans sm2) (sm1.free hD) hD2 hb
end
end K45
end
section
namespace K45
open K1
open PySem L2 STb
abbrev zcD:Stmt:=top 8
theorem cutk (xs:List V) (i:Nat) (h:i<=xs.length):cutV xs none (some (i:Int))=xs.take i:=by
 unfold cutV;rw[HT.zbI,HT.zb6,Nat.min_eq_left h,List.drop_zero,Nat.sub_zero]
theorem cutd (xs:List V) (i:Nat) (h:i<=xs.length):cutV xs (some (i:Int)) none=xs.drop i:=by
 unfold cutV;rw[HT.zbI,HT.zb6,Nat.min_eq_left h];exact List.take_of_length_le (by rw[List.length_drop]; exact Nat.le_refl _)
abbrev tRim:TE:=tOp zjd (tSl rSlA (tVar 1) zdS (ziZ (tVar 0))) (tSl rSlA (tVar 1) (ziZ (tOp (rI0 fun i j=>.int (i+j)) (tVar 0) (tC (.int 1)))) zdS)
section
variable {P:Program}{w:World}{K:PySem.W.Frag}{mg:Str->Option Value}{base:Heap}
theorem zg0 {H2:Hp}{a D:Addr}{ps:List Int}{Q:VK} (ha:Tp H2 a ps) (hz:ps.length<=5) (hD:H2 D=none)
  (k:∀(H3:Hp) (bs:List Addr),Same H2 H3->H3 D=some (.lst (bs.map V.ref))->Tps H3 bs ((List.range ps.length).map fun k=>ps.take k++ps.drop (k+1))->Q (.ref D) H3) :
  zap (Itr 0 ps.length) (zaA 0) tYes tRim [none,some (.ref a)] H2 D Q:=by
 refine zck (fun j σ ys H3=>∃(v:Option V) (bs:List Addr),σ=[v,some (.ref a)]/\Same H2 H3/\H3 D=some (.lst ys)/\ys=bs.map V.ref/\Tps H3 bs (((List.range ps.length).map fun k=>ps.take k++ps.drop (k+1)).take j)) ?_ ?_ ?_
 ·exact⟨none,[],rfl,Same.new hD,upd_same,rfl,.nil⟩
 ·rintro j σ ys H3 hj hy ⟨v,bs,rfl,sm,hD3,rfl,hb⟩
  have e:((List.range ps.length).map fun k=>ps.take k++ps.drop (k+1))[j]?=some (ps.take j++ps.drop (j+1)):=by rw[List.getElem?_map,List.getElem?_range hj]; rfl
  refine gyes ?_;refine⟨_,rfl,_,rfl,_,rfl,a,_,rfl,sm.tp ha,fun p1 H4 sm4 hp1=>⟨_,rfl,_,rfl,_,_,rfl,rfl,_,rfl,a,_,rfl,sm4 _ _ (sm.tp ha),fun p2 H5 sm5 hp2=>?_⟩⟩;rw[show (0:Int)+((j:Nat):Int)=((j:Nat):Int) by omega,cutk _ _ (by rw[List.length_map]; omega),<- List.map_take] at hp1;rw[show (0:Int)+((j:Nat):Int)+1=((j+1:Nat):Int) by omega,cutd _ _ (by rw[List.length_map]; omega),<- List.map_drop] at hp2;refine⟨p1,p2,_,_,rfl,rfl,sm5 _ _ hp1,hp2,zg (by simp; omega),fun p3 H6 sm6 hp3=>?_⟩;rw[<- List.map_append] at hp3;have s6:=(sm4.trans sm5).trans sm6;refine cput (zg (by omega)) hj hy (s6 _ _ hD3) ⟨_,bs++[p3],rfl,(sm.trans s6).then hD,upd_same,by rw[List.map_append]; rfl,?_⟩;rw[take_snoc e];exact Tps.upd (Tps.snoc (s6.tps hb) hp3) (s6 _ _ hD3) (by intro xs z; cases z)
 ·rintro σ ys H3 ⟨v,bs,rfl,sm,hD3,rfl,hb⟩
  rw[List.take_of_length_le (by simp)] at hb;exact k H3 bs sm hD3 hb
def zbu:Sp:=fun vs H Q _=>∃a ps,vs=[.ref a]/\Tp H a ps/\ps.length<=5/\∀D H2 (bs:List Addr),Same H H2->H D=none->H2 D=some (.lst (bs.map V.ref))->Tps H2 bs (rims ps)->Q (.ref D) H2
theorem zj7:zv ["piece"] ["piece"] (zf zcD):=⟨rfl,rfl,rfl,by decide +kernel,rfl,by decide +kernel,by decide +kernel⟩
theorem zgD {f:Addr}{fd:FuncData} (F:Fun K "rims_of" "rims_of" zcD f fd) (B:Bt mg):FnOk P w K mg base CX0 1 f fd ["piece"] zbu:=by
 refine F.ok zj7 (fun vs H Q E h=>?_) (fun cdv A outer s H vs Q E hr h=>?_)
 ·obtain⟨a,ps,rfl,_⟩:=h; rfl
 ·obtain⟨a,ps,rfl,ha,h5,k⟩:=h
  refine⟨_,ze (zR (zn zfh (zo zk rfl B.len zab (zc (pv 0) zd)) zi (nomark _)) (zh (zp (zz zd))) zw)
   (zh (zp (zE ["piece"] ["k","piece"] [none,some 0] (zar rfl B.range (zc (zo zk rfl B.len zab (zc (pv 0) zd)) zd)) (fun cl C s₀ H₀ ex=>zr (i:=0) (ndN ["k","piece"]) rfl (Or.inl rfl)) (fun cl C s₀ H₀ ex=>zak)
    (fun cl C s₀ H₀ ex=>zC zcG (zaH zcR (pv 1) zbe (zbk (pv 0))) (zaH zcR (pv 1) (zbk (zC zaq (pv 0) zi)) zbe)) (hfr:=frOf (zf zcD) (by decide +kernel)) (te:=tRim)))),?_⟩
  refine⟨_,rfl,a,_,rfl,.inr (SqT.of ha),rfl,_,rfl,?_⟩;rw[List.length_map]
  by_cases h1:ps.length=1
  ·rw[show decide (V.int (ps.length:Int)=V.int 1)=true from decide_eq_true (by rw[h1]; rfl)]
   refine iteT ⟨zg (by simp),fun D hD=>k D _ [] (Same.new hD) hD upd_same ?_⟩;unfold rims;rw[if_pos h1];exact .nil
  ·rw[show decide (V.int (ps.length:Int)=V.int 1)=false from decide_eq_false fun z=>h1 (by injection z with z; omega)]
   refine iteF ⟨_,rfl,a,_,rfl,.inr (SqT.of ha),_,rfl,by rw[List.length_map]; omega,by rw[List.length_map]; omega,fun D hD=>?_⟩;rw[List.length_map];refine zN (zg0 ha h5 hD fun H3 bs sm hD3 hb=>k D H3 bs sm hD hD3 ?_);unfold rims;rw[if_neg h1];exact hb
theorem zd6 (seq:List (List Int)) (p:List Int):(valV (kvM seq) (p.map Sum.inl)).isSome=decide (p∈seq):=by
 rw[<- zbJ,Bool.eq_iff_iff,List.any_eq_true,decide_eq_true_eq];unfold kvM;constructor
 ·rintro⟨kv,hm,e⟩
  obtain⟨q,hq,rfl⟩:=List.mem_map.mp hm;have e':=of_decide_eq_true e;have:q=p:=(List.map_inj_right (f:=(Sum.inl:Int->Key)) (fun x y h=>Sum.inl.inj h)).mp e';rw[<- this];exact (za4 seq q).mp hq
 ·intro h
  exact⟨_,List.mem_map.mpr ⟨p,(za4 seq p).mpr h,rfl⟩,by simp⟩
end
end K45
end
section
namespace L2
open PySem PySem.Spec PyProof.Rows
abbrev Pp:Type:=List Int×List Int
def Pr2 (H:Hp) (t:Addr) (x:Pp):Prop:=∃a b,H t=some (.tup [.ref a,.ref b])/\Tp H a x.1/\Tp H b x.2
def Prs2 (H:Hp) (ts:List Addr) (xs:List Pp):Prop:=Paired (Pr2 H) ts xs
abbrev ppD (x:Pp):PyData:=.tuple [.tuple (x.1.map PyData.int),.tuple (x.2.map PyData.int)]
abbrev ppsD (xs:List Pp):PyData:=.list (xs.map ppD)
theorem Pr2.same {H H':Hp}{t:Addr}{x:Pp} (h:Pr2 H t x) (s:Same H H'):Pr2 H' t x:=let ⟨a,b,e,p,q⟩:=h; ⟨a,b,s _ _ e,s.tp p,s.tp q⟩
theorem Prs2.same {H H':Hp}{ts:List Addr}{xs:List Pp} (h:Prs2 H ts xs) (s:Same H H'):Prs2 H' ts xs:=Paired.mapP h fun _ _ q=>q.same s
theorem Prs2.length {H:Hp}{ts:List Addr}{xs:List Pp} (h:Prs2 H ts xs):ts.length=xs.length:=Paired.length h
theorem Pr2.upd {H:Hp}{d t:Addr}{o o':HO}{x:Pp} (h:Pr2 H t x) (hd:H d=some o') (hn:∀xs,o'≠.tup xs):Pr2 (L2.upd H d o) t x:=by
 obtain⟨a,b,e,p,q⟩:=h;have go:∀{c:Addr} {ys:List V},H c=some (.tup ys)->L2.upd H d o c=some (.tup ys):=fun {c ys} ec=>by rw[upd_ne (zbA ec hd fun z=>hn _ z.symm)]; exact ec
 exact⟨a,b,go e,go (show H a=some _ from p),go (show H b=some _ from q)⟩
theorem Prs2.upd {H:Hp}{d:Addr}{o o':HO}{ts:List Addr}{xs:List Pp} (h:Prs2 H ts xs) (hd:H d=some o') (hn:∀xs,o'≠.tup xs):Prs2 (L2.upd H d o) ts xs:=Paired.mapP h fun _ _ q=>q.upd hd hn
theorem Prs2.snoc {H:Hp}{ts:List Addr}{xs:List Pp}{t:Addr}{x:Pp} (h:Prs2 H ts xs) (q:Pr2 H t x):Prs2 H (ts++[t]) (xs++[x]):=Paired.snoc h q
theorem Prs2.get {H:Hp}:∀{ts:List Addr}{xs:List Pp}{i:Nat}{t:Addr},Prs2 H ts xs->ts[i]?=some t->∃x,xs[i]?=some x/\Pr2 H t x
 | _,_,0,_,.cons h _,e=>by cases e; exact⟨_,rfl,h⟩
 | _,_,i+1,_,.cons _ t,e=>Prs2.get (i:=i) t (by simpa using e)
section
variable {X:Cx}{pins:List (Addr×Obj)}{σ:St}{H:Hp}{s:Shared}
theorem zgN {t:Addr}{x:Pp} (I:Inv X pins σ H s) (h:Pr2 H t x):Reads s.heap (.ref t) (ppD x) []:=by
 obtain⟨a,b,e,p,q⟩:=h;obtain⟨its,r,pt,_⟩:=I.tuple (SqT.of e);obtain rfl:=vals_refs (as:=[a,b]) r;obtain⟨o,ho,hc,n,hd⟩:=id pt;exact .tuple ho hc hd (.cons (as:=[]) (bs:=[]) (zav I p) (.cons (as:=[]) (bs:=[]) (zav I q) .nil))
theorem zfY (I:Inv X pins σ H s):∀{ts:List Addr}{xs:List Pp},Prs2 H ts xs->ReadsAll s.heap (ts.map Value.ref) (xs.map ppD) []:=by
 intro ts xs h
 induction h with
 | nil=>exact .nil
 | cons r t ih=>exact .cons (as:=[]) (bs:=[]) (zgN I r) ih
theorem zao {l:Addr}{ts:List Addr}{xs:List Pp} (I:Inv X pins σ H s) (hl:SqL X.K H l (ts.map V.ref)) (h:Prs2 H ts xs):Reads s.heap (.ref l) (ppsD xs) [l]:=by
 obtain⟨its,r,p,_⟩:=I.list hl;obtain rfl:=vals_refs r;obtain⟨o,ho,hc,n,hd⟩:=p.isList;exact .list ho hc hd (by simpa using zfY I h)
end
theorem zfI (x:Pp):PyData.canLay0 (ppD x)=true:=by simp[PyData.canLay0,PyData.canLayAll0,zbM,PySem.W.ke_canLayAll0]
theorem zhJ (x:Pp):PyData.depth (ppD x)=2:=by simp[PyData.depth,PyData.depthAll,PySem.W.ke_depthAll]
theorem zco:∀xs:List Pp,PyData.canLayAll0 (xs.map ppD)=true
 | []=>rfl
 | x::r=>by rw[List.map_cons,PyData.canLayAll0,zfI,zco r]; rfl
theorem zdu:∀xs:List Pp,PyData.depthAll (xs.map ppD)<=2
 | []=>Nat.zero_le _
 | x::r=>by rw[List.map_cons,PyData.depthAll,zhJ]; exact Nat.max_le.mpr ⟨Nat.le_refl _,zdu r⟩
theorem zam (xs:List Pp):SeqAt.shaped (ppsD xs)=true:=by
 have:=zdu xs;have e:PyData.depth (ppsD xs)<=64:=by rw[PyData.depth]; omega
 unfold SeqAt.shaped;rw[decide_eq_true e,PyData.canLay0,zco]
 rfl
theorem zit (x y:Pp):same (ppD x) (ppD y)=decide (x=y):=by
 obtain⟨a,b⟩:=x;obtain⟨c,d⟩:=y;simp only[same,sameAll,PySem.W.ke_sameAll,Bool.and_true]
 by_cases h:a=c <;> by_cases h':b=d <;> simp[h,h']
theorem zbL:∀xs ys:List Pp,sameAll (xs.map ppD) (ys.map ppD)=decide (xs=ys)
 | [],[]=>by simp[sameAll]
 | [],_::_=>by simp[sameAll]
 | _::_,[]=>by simp[sameAll]
 | a::r,b::t=>by
  rw[List.map_cons,List.map_cons,sameAll,zit,zbL r t]
  by_cases h:a=b <;> by_cases h':r=t <;> simp[h,h']
theorem zbc (xs:List Pp):(Shape.list (.tuples (.tuples .int))).has (ppsD xs)=true:=by simp[Shape.has]
def rEqP (neg:Bool) (K:PySem.W.Frag):R2:=fun x y H Q=>∃l m ts us xs ys,x=.ref l/\y=.ref m/\SqL K H l (ts.map V.ref)/\Prs2 H ts xs/\SqL K H m (us.map V.ref)/\Prs2 H us ys/\Q (.bl (if neg then !decide (xs=ys) else decide (xs=ys))) H
def rInP (neg:Bool) (K:PySem.W.Frag):R2:=fun x y H Q=>∃a t ps z,x=.ref a/\y=.ref t/\Tp H a ps/\Pr2 H t z/\Q (.bl (if neg then !decide (ps=z.1 \/ ps=z.2) else decide (ps=z.1 \/ ps=z.2))) H
section
variable {X:Cx}
theorem zgg (hu:X.A.units+64<cLine):OpR X (compareOp .Eq) (rEqP false X.K):=by
 intro pins s σ H x y v u Q I rx ry h;obtain⟨l,m,ts,us,xs,ys,rfl,rfl,hl,hp,hm,hq,q⟩:=h;cases rx;cases ry;refine eq_dataH_same (zao I hl hp) (zao I hm hq) (zam _) (zam _) hu (SeqAt.noMix_of_shape (.list (.tuples (.tuples .int))) rfl _ _ (zbc _) (zbc _)) ?_;rw[show same (ppsD xs) (ppsD ys)=decide (xs=ys) from by simp only[same]; exact zbL xs ys];exact⟨.bl _,H,I,rfl,q⟩
theorem zjZ (hu:X.A.units+64<cLine):OpR X (compareOp .NotEq) (rEqP true X.K):=by
 intro pins s σ H x y v u Q I rx ry h;obtain⟨l,m,ts,us,xs,ys,rfl,rfl,hl,hp,hm,hq,q⟩:=h;cases rx;cases ry;refine ne_dataH_same (zao I hl hp) (zao I hm hq) (zam _) (zam _) hu (SeqAt.noMix_of_shape (.list (.tuples (.tuples .int))) rfl _ _ (zbc _) (zbc _)) ?_;rw[show same (ppsD xs) (ppsD ys)=decide (xs=ys) from by simp only[same]; exact zbL xs ys];exact⟨.bl _,H,I,rfl,q⟩
theorem zh6 (hu:X.A.in1.units<cLine):OpR X (compareOp .In) (rInP false X.K):=by
 intro pins s σ H x y v u Q I rx ry h;obtain⟨a,t,ps,z,rfl,rfl,ha,⟨b,c,e,hb,hc⟩,q⟩:=h;cases rx;cases ry;obtain⟨its,r,pt,_⟩:=I.tuple (SqT.of e);obtain rfl:=vals_refs (as:=[b,c]) r;have tt:Tps H [b,c] [z.1,z.2]:=.cons hb (.cons hc .nil);refine SeqAt.in_tupleAt (eqH H ps) pt (fun w hw=>zdT I ha hu tt w (by simpa using hw)) ⟨.bl _,H,I,rfl,?_⟩;rw[show ([b,c].map Value.ref).toArray.any (eqH H ps)=([b,c].map Value.ref).any (eqH H ps) by simp,zdN tt];rw[show decide (ps∈[z.1,z.2])=decide (ps=z.1 \/ ps=z.2) from decide_eq_decide.mpr (by simp)];exact q
end
end L2
end
section
namespace K45
open K1
open PySem L2 STb
abbrev zaO:Stmt:=top 34
abbrev zkw (K:PySem.W.Frag):List V->Hp->VK->Prop:=fun xs H Q=>∃p ys,xs=[.ref p]/\(SqL K H p ys \/ SqT K H p ys)/\Q (.int ys.length) H
abbrev tGt1 (K:PySem.W.Frag):TT:=zb5 (tOp (rI0 fun i j=>.bl (decide (j<i))) (tCB (zkw K) (zU (tVar 1) tNil)) (tC (.int 1)))
section
variable {P:Program}{w:World}{K:PySem.W.Frag}{mg:Str->Option Value}{base:Heap}
theorem zgf {H2:Hp}{a D:Addr}{ps:List Int}{Q:VK} (ha:Tp H2 a ps) (hz:ps.length<=5) (hD:H2 D=none)
  (k:∀(H3:Hp) (bs:List Addr),Same H2 H3->H3 D=some (.lst (bs.map V.ref))->Tps H3 bs (rims ps)->Q (.ref D) H3) :
  zap (Itr 0 ps.length) (zaA 0) (tGt1 K) tRim [none,some (.ref a)] H2 D Q:=by
 refine zck (fun j σ ys H3=>∃(v:Option V) (bs:List Addr),σ=[v,some (.ref a)]/\Same H2 H3/\H3 D=some (.lst ys)/\ys=bs.map V.ref/\Tps H3 bs ((rims ps).take j)) ?_ ?_ ?_
 ·exact⟨none,[],rfl,Same.new hD,upd_same,rfl,by rw[List.take_zero]; exact .nil⟩
 ·rintro j σ ys H3 hj hy ⟨v,bs,rfl,sm,hD3,rfl,hb⟩
  refine⟨_,rfl,a,_,rfl,.inr (SqT.of (sm.tp ha)),_,_,rfl,rfl,_,rfl,?_⟩;rw[List.length_map]
  by_cases h1:ps.length=1
  ·have er:rims ps=[]:=by unfold rims; rw[if_pos h1]
   rw[decide_eq_false (by omega)];refine iteF (cskip hj hy ⟨_,bs,rfl,sm,hD3,rfl,?_⟩);rw[er] at hb ⊢;rw[List.take_nil] at hb ⊢;exact hb
  ·have er:rims ps=(List.range ps.length).map fun k=>ps.take k++ps.drop (k+1):=by unfold rims; rw[if_neg h1]
   rw[decide_eq_true (by omega)];refine iteT ?_;have e:(rims ps)[j]?=some (ps.take j++ps.drop (j+1)):=by rw[er,List.getElem?_map,List.getElem?_range hj]; rfl
   refine⟨_,rfl,_,rfl,_,rfl,a,_,rfl,sm.tp ha,fun p1 H4 sm4 hp1=>⟨_,rfl,_,rfl,_,_,rfl,rfl,_,rfl,a,_,rfl,sm4 _ _ (sm.tp ha),fun p2 H5 sm5 hp2=>?_⟩⟩;rw[show (0:Int)+((j:Nat):Int)=((j:Nat):Int) by omega,cutk _ _ (by rw[List.length_map]; omega),<- List.map_take] at hp1;rw[show (0:Int)+((j:Nat):Int)+1=((j+1:Nat):Int) by omega,cutd _ _ (by rw[List.length_map]; omega),<- List.map_drop] at hp2;refine⟨p1,p2,_,_,rfl,rfl,sm5 _ _ hp1,hp2,zg (by simp; omega),fun p3 H6 sm6 hp3=>?_⟩;rw[<- List.map_append] at hp3;have s6:=(sm4.trans sm5).trans sm6;refine cput (zg (by omega)) hj hy (s6 _ _ hD3) ⟨_,bs++[p3],rfl,(sm.trans s6).then hD,upd_same,by rw[List.map_append]; rfl,?_⟩;rw[take_snoc e];exact Tps.upd (Tps.snoc (s6.tps hb) hp3) (s6 _ _ hD3) (by intro xs z; cases z)
 ·rintro σ ys H3 ⟨v,bs,rfl,sm,hD3,rfl,hb⟩
  rw[List.take_of_length_le (zcA ps)] at hb;exact k H3 bs sm hD3 hb
theorem ziM:zv ["piece"] ["piece"] (zf zaO):=⟨rfl,rfl,rfl,by decide +kernel,rfl,by decide +kernel,by decide +kernel⟩
theorem zcx {f:Addr}{fd:FuncData} (F:Fun K "_law_rims" "_law_rims" zaO f fd) (B:Bt mg):FnOk P w K mg base CX0 1 f fd ["piece"] zbu:=by
 refine F.ok ziM (fun vs H Q E h=>?_) (fun cdv A outer s H vs Q E hr h=>?_)
 ·obtain⟨a,ps,rfl,_⟩:=h; rfl
 ·obtain⟨a,ps,rfl,ha,h5,k⟩:=h
  refine⟨_,zh (zp (zE ["piece"] ["k","piece"] [none,some 0] (zar rfl B.range (zc (zo zk rfl B.len zab (zc (pv 0) zd)) zd)) (fun cl C s₀ H₀ ex=>zr (i:=0) (ndN ["k","piece"]) rfl (Or.inl rfl))
    (fun cl C s₀ H₀ ex=>zbm (zn ze9 (zo zk rfl B.len zab (zc (pv 1) zd)) zi (nomark _)))
    (fun cl C s₀ H₀ ex=>zC zcG (zaH zcR (pv 1) zbe (zbk (pv 0))) (zaH zcR (pv 1) (zbk (zC zaq (pv 0) zi)) zbe)) (hfr:=frOf (zf zaO) (by decide +kernel)) (tc:=tGt1 K) (te:=tRim))),?_⟩
  refine⟨_,rfl,a,_,rfl,.inr (SqT.of ha),_,rfl,by rw[List.length_map]; omega,by rw[List.length_map]; omega,fun D hD=>?_⟩;rw[List.length_map];exact zN (zgf ha h5 hD fun H3 bs sm hD3 hb=>k D H3 bs sm hD hD3 hb)
theorem zhq {H2:Hp}{L D:Addr}{as:List Addr}{kn:List (List Int)}{Q:VK}{p:List Int->Bool}{tc:TT}{c:List (Option V)} (htc:∀(o:Addr) (os:List Int) (H:Hp) (R:Bool->Hp->Prop),Same H2 H->Tp H o os->os∈kn->(∀H',Same H H'->R (p os) H')->tc (some (.ref o)::c) H R)
  (hl:SqL K H2 L (as.map V.ref)) (ht:Tps H2 as kn) (hz:kn.length<=1000) (hD:H2 D=none) (k:∀H3 bs,Same H2 H3->H3 D=some (.lst (bs.map V.ref))->Tps H3 bs (kn.filter p)->Q (.ref D) H3) :
  zap (Itl K L) (zaA 0) tc (tVar 0) (none::c) H2 D Q:=by
 have hla:=ht.length;refine zaf (xs:=as.map V.ref) (fun j σ ys H3=>∃(v:Option V) (bs:List Addr),σ=v::c/\Same H2 H3/\H3 D=some (.lst ys)/\ys=bs.map V.ref/\Tps H3 bs ((kn.take j).filter p)) ?_ ?_ ?_ ?_
 ·exact⟨none,[],rfl,Same.new hD,upd_same,rfl,.nil⟩
 ·rintro j σ ys H3 ⟨v,bs,rfl,sm,hD3,rfl,_⟩
  exact sm.seq hl
 ·rintro j σ ys H3 x hx hj hy ⟨v,bs,rfl,sm,hD3,rfl,hb⟩
  obtain⟨o,eo,rfl⟩:=z0 hx;obtain⟨os,eos,ho⟩:=ht.get eo;have hn:(as.map V.ref).length<=sizeLine:=by rw[List.length_map]; exact zg (by omega)
  refine htc o os H3 _ sm (sm.tp ho) (List.mem_of_getElem? eos) fun H4 sm4=>?_;cases hp:p os
  ·refine iteF (cskip hj hy ⟨_,bs,rfl,sm.trans sm4,sm4 _ _ hD3,rfl,?_⟩)
   rw[take_snoc eos,List.filter_append,List.filter_cons_of_neg (by rw[hp]; simp),List.filter_nil,List.append_nil];exact sm4.tps hb
  ·refine iteT ⟨_,rfl,cput hn hj hy (sm4 _ _ hD3) ⟨_,bs++[o],rfl,(sm.trans sm4).then hD,upd_same,by rw[List.map_append]; rfl,?_⟩⟩
   rw[take_snoc eos,List.filter_append,List.filter_cons_of_pos hp];exact Tps.upd (Tps.snoc (sm4.tps hb) ((sm.trans sm4).tp ho)) (sm4 _ _ hD3) (by intro xs z; cases z)
 ·rintro σ ys H3 ⟨v,bs,rfl,sm,hD3,rfl,hb⟩
  rw[List.length_map,hla,List.take_of_length_le (Nat.le_refl _)] at hb;exact k H3 bs sm hD3 hb
end
end K45
end
section
namespace K1
open PySem L2 STb
abbrev Pq:=List Int×List Int
def stp (x y:Pq):Bool:=decide (y.1≠x.1) && decide (y.1∈rims x.2)
theorem zdU {x y:Pq}:stp x y=true ↔ y.1≠x.1/\y.1∈rims x.2:=by unfold stp; rw[Bool.and_eq_true,decide_eq_true_eq,decide_eq_true_eq]
def Live (A:List Pq):Prop:=∀x∈A,∃y∈A,stp x y=true
def Acy (l:List Pq):Prop:=∀A:List Pq,(∀x∈A,x∈l)->Live A->A=[]
theorem zio {l m:List Pq} (h:Acy m) (hs:∀x∈l,x∈m):Acy l:=fun A ha hl=>h A (fun x hx=>hs x (ha x hx)) hl
theorem zgj:Acy []:=fun A ha _=>by
 cases A with
 | nil=>rfl
 | cons a r=>exact absurd (ha a List.mem_cons_self) (by simp)
def trim (l:List Pq):List Pq:=l.filter fun x=>l.any (stp x)
theorem zbB {l:List Pq}{x:Pq}:x∈trim l ↔ x∈l/\∃y∈l,stp x y=true:=by unfold trim; rw[List.mem_filter,List.any_eq_true]
theorem zfu {l A:List Pq} (ha:∀x∈A,x∈l) (hl:Live A):∀x∈A,x∈trim l:=fun x hx=>by
 obtain⟨y,hy,e⟩:=hl x hx;exact zbB.mpr ⟨ha x hx,y,ha y hy,e⟩
theorem zg4 {l:List Pq} (h:(trim l).length=l.length):Live l:=fun x hx=>by
 have e:trim l=l:=List.filter_sublist.eq_of_length h;rw[<- e] at hx;exact (zbB.mp hx).2
theorem zhe {l:List Pq}:Acy (trim l) ↔ Acy l:=
 ⟨fun h A ha hl=>h A (zfu ha hl) hl,fun h=>zio h fun x hx=>(zbB.mp hx).1⟩
theorem ziJ {l:List Pq} (h:(trim l).length=l.length):l=[] ↔ Acy l:=
 ⟨fun e=>by rw[e]; exact zgj,fun a=>a l (fun _ hx=>hx) (zg4 h)⟩
def Rnd (cs:List Pq):Prop:=cs≠[]/\∀i x,cs[i]?=some x->∃y,cs[(i+1) % cs.length]?=some y/\stp x y=true
theorem zht {cs:List Pq} (h:Rnd cs):Live cs:=fun x hx=>by
 obtain⟨i,e⟩:=List.mem_iff_getElem?.mp hx;obtain⟨y,ey,hs⟩:=h.2 i x e;exact⟨y,List.mem_of_getElem? ey,hs⟩
theorem ziR {l cs:List Pq} (h:Rnd cs) (hs:∀x∈cs,x∈l):¬ Acy l:=fun a=>h.1 (a cs hs (zht h))
theorem ziV {l R:List Pq}{z:Pq} (h:Acy l) (hR:∀x∈z::R,∀y∈z::l,stp x y=true->y≠z/\y∈R) (hRl:∀x∈R,x∈l):Acy (l++[z]):=fun A ha hl=>by
 have key:∀x∈A,(x=z \/ x∈R)->∃y∈A,y∈R/\stp x y=true:=fun x hx hc=>by
  obtain⟨y,hy,e⟩:=hl x hx;have hyl:y∈z::l:=by
   rcases List.mem_append.mp (ha y hy) with h | h
   ·exact List.mem_cons_of_mem _ h
   ·rw[List.mem_singleton.mp h]; exact List.mem_cons_self
  have:=hR x (hc.elim (fun e=>by rw[e]; exact List.mem_cons_self) (List.mem_cons_of_mem _)) y hyl e;exact⟨y,hy,this.2,e⟩
 have hB:(A.filter fun x=>decide (x∈R))=[]:=by
  refine h _ (fun x hx=>hRl x (of_decide_eq_true (List.mem_filter.mp hx).2)) fun x hx=>?_;obtain⟨h1,h2⟩:=List.mem_filter.mp hx;obtain⟨y,hy,hyR,e⟩:=key x h1 (.inr (of_decide_eq_true h2));exact⟨y,List.mem_filter.mpr ⟨hy,decide_eq_true hyR⟩,e⟩
 have hz:z∉A:=fun hz=>by
  obtain⟨y,hy,hyR,_⟩:=key z hz (.inl rfl);have:y∈(A.filter fun x=>decide (x∈R)):=List.mem_filter.mpr ⟨hy,decide_eq_true hyR⟩;rw[hB] at this;cases this
 refine h A (fun x hx=>?_) hl;rcases List.mem_append.mp (ha x hx) with h | h
 ·exact h
 ·rw[List.mem_singleton.mp h] at hx; exact absurd hx hz
end K1
end
section
namespace K45
open K1
open PySem L2 STb
abbrev zbt:Stmt:=top 24
abbrev sRW:Stmt:=top 23
def SecR (H:Hp) (kv:List Key×V) (x:Pq):Prop:=kv.1=x.1.map Sum.inl/\∃b,kv.2=.ref b/\Tp H b x.2
def Sec (H:Hp) (d:Addr) (ps:List Pq):Prop:=∃kvs,H d=some (.dT kvs)/\Paired (SecR H) kvs ps
theorem Sec.same {H H':Hp}{d:Addr}{ps:List Pq} (h:Sec H d ps) (s:Same H H'):Sec H' d ps:=let ⟨kvs,e,p⟩:=h; ⟨kvs,s _ _ e,Paired.mapP p fun _ _ ⟨h1,b,h2,h3⟩=>⟨h1,b,h2,s.tp h3⟩⟩
theorem Sec.upd {H:Hp}{d e:Addr}{ps:List Pq}{o o':HO} (h:Sec H d ps) (he:H e=some o') (hn:∀xs,o'≠.tup xs) (hd:d≠e):Sec (L2.upd H e o) d ps:=let ⟨kvs,e1,p⟩:=h; ⟨kvs,by rw[upd_ne hd]; exact e1,Paired.mapP p fun _ _ ⟨h1,b,h2,h3⟩=>⟨h1,b,h2,by
 show L2.upd H e o b=_;rw[upd_ne (fun z=>by subst z; have h4:H b=some _:=h3; rw[he] at h4; cases h4; exact hn _ rfl)]; exact h3⟩⟩
theorem sec_val {H:Hp}:∀{kvs:List (List Key×V)}{ps:List Pq},Paired (SecR H) kvs ps->∀p:List Int,(valV kvs (p.map Sum.inl)=none/\p∉ps.map (·.1)) \/ ∃b q,valV kvs (p.map Sum.inl)=some (.ref b)/\(p,q)∈ps/\Tp H b q
 | _,_,.nil,p=>.inl ⟨rfl,by simp⟩
 | kv::kvs,x::ps,.cons ⟨h1,b,h2,h3⟩ t,p=>by
  by_cases e:x.1=p
  ·refine .inr ⟨b,x.2,?_,?_,h3⟩
   ·rw[zbE (by rw[h1,e]),h2]
   ·rw[<- e]; exact List.mem_cons_self
  ·have hne:¬ kv.1=p.map Sum.inl:=fun z=>e (zd3.mp (h1.symm.trans z))
   rcases sec_val t p with ⟨g1,g2⟩ | ⟨b',q,g1,g2,g3⟩
   ·refine .inl ⟨by rw[za0 hne]; exact g1,?_⟩
    rw[List.map_cons,List.mem_cons];rintro (z | z)
    ·exact e z.symm
    ·exact g2 z
   ·exact .inr ⟨b',q,by rw[za0 hne]; exact g1,List.mem_cons_of_mem _ g2,g3⟩
theorem zi0 {H:Hp}{kvs:List (List Key×V)}{ps:List Pq} (h:Paired (SecR H) kvs ps) {x:Pq}{b:Addr} (hx:x.1∉ps.map (·.1)) (hb:Tp H b x.2):∃kvs',putK kvs (x.1.map Sum.inl) (.ref b)=kvs'/\Paired (SecR H) kvs' (ps++[x])/\kvs'.length=kvs.length+1:=by
 have hv:valV kvs (x.1.map Sum.inl)=none:=by
  rcases sec_val h x.1 with ⟨g,_⟩ | ⟨b',q,_,g2,_⟩
  ·exact g
  ·exact absurd (List.mem_map.mpr ⟨_,g2,rfl⟩) hx
 refine⟨_,zhI _ hv,?_,by rw[List.length_append]; rfl⟩;have ap:∀{kvs:List (List Key×V)} {ps:List Pq},Paired (SecR H) kvs ps->Paired (SecR H) (kvs++[(x.1.map Sum.inl,.ref b)]) (ps++[x]):=fun {kvs ps} h=>by
  induction h with
  | nil=>exact .cons ⟨rfl,b,rfl,hb⟩ .nil
  | cons r t ih=>exact .cons r ih
 exact ap h
abbrev tOth (K:PySem.W.Frag):TT:=zb5 (tOp (rEqT true K) (tVar 0) (tOp (rIxT K) (tVar 1) (tC (.int 0))))
section
variable {P:Program}{w:World}{K:PySem.W.Frag}{mg:Str->Option Value}{base:Heap}
abbrev oth (x:Pq):List (List Int):=(rims x.2).filter fun r=>!decide (r=x.1)
def zfy:Sp:=fun vs H Q _=>∃t x,vs=[.ref t]/\Pr2 H t x/\x.2.length<=5/\∀D H' bs,Same H H'->H D=none->H' D=some (.lst (List.map V.ref bs))->Tps H' bs (oth x)->Q (.ref D) H'
theorem ziX:zv ["pair"] ["pair"] (zf zbt):=⟨rfl,rfl,rfl,by decide +kernel,rfl,by decide +kernel,by decide +kernel⟩
theorem zhM {f fr:Addr}{fd fdr:FuncData} (F:Fun K "other_rims" "other_rims" zbt f fd) (B:Bt mg)
  (Fr:Fun K "rims_of" "rims_of" zcD fr fdr) (br:Binds K fdr ["piece"] []) (mr:mg "rims_of"=some (.ref fr)):FnOk P w K mg base CX0 2 f fd ["pair"] zfy:=by
 have Gr:FnOk P w K mg base CX0 1 fr fdr ["piece"] zbu:=zgD Fr B;refine F.ok ziX (fun vs H Q E h=>?_) (fun cdv A outer s H vs Q E hr h=>?_)
 ·obtain⟨t,x,rfl,_⟩:=h; rfl
 ·obtain⟨t,x,rfl,⟨a,b,ht,ha,hb⟩,h5,k⟩:=h
  have hu64:=hr.units;refine⟨_,zh (zp (zE ["pair"] ["rim","pair"] [none,some 0] (zH (zl Gr hr rfl mr Fr.kp br .nil pass0 (zc (zx zB (pv 0) zi (fun _ _=>rfl)) zd))) (fun cl C s₀ H₀ ex=>zr (i:=0) (ndN ["rim","pair"]) rfl (Or.inl rfl))
   (fun cl C s₀ H₀ ex=>zbm (zn (zc1 hu64) (pv 0) (zx zB (pv 1) zi (fun _ _=>rfl)) (nomark _))) (fun cl C s₀ H₀ ex=>pv 0) (hfr:=frOf (zf zbt) (by decide +kernel)) (tc:=tOth K))),?_⟩
  refine⟨_,rfl,t,_,_,_,rfl,rfl,SqT.of ht,zq (j:=1) rfl,b,x.2,rfl,hb,h5,fun RL H1 rs s1 _ hR1 hr1=>⟨RL,rfl,⟨_,SqL.of hR1⟩,fun D hD=>?_⟩⟩;refine zN (zhq (p:=fun r=>!decide (r=x.1)) (fun o os H' R sm ho _ hR=>⟨_,rfl,_,rfl,t,_,_,_,rfl,rfl,SqT.of ((s1.trans sm) _ _ ht),zq (j:=0) rfl,.inl ⟨o,a,os,x.1,rfl,rfl,ho,(s1.trans sm).tp ha,_,rfl,?_⟩⟩) (SqL.of hR1) hr1 (Nat.le_trans (zcA _) (by omega)) hD fun H3 bs s3 hD3 hb3=>k D H3 bs (s1.trans s3) (s1.free hD) hD3 hb3);rw[if_pos rfl];exact hR H' (Same.refl _)
end
end K45
end
section
namespace K45
open K1
open PySem L2 STb
structure Pth (z:Pq) (R cs:List Pq):Prop where
 hd:∃r,cs=z::r
 st:∀(i:Nat) (x y:Pq),cs[i]?=some x->cs[i+1]?=some y->stp x y=true
 nd:cs.Nodup
 mem:∀x∈cs,x=z \/ x∈R
theorem Pth.mono {z:Pq}{R R' cs:List Pq} (h:Pth z R cs) (hs:∀x∈R,x∈R'):Pth z R' cs:=⟨h.hd,h.st,h.nd,fun x hx=>(h.mem x hx).imp id (hs x)⟩
structure RI (ps:List Pq) (z:Pq) (R:List Pq) (css:List (List Pq)):Prop where
 sub:∀y∈R,y∈ps
 nd:(R.map (·.1)).Nodup
 pth:∀cs∈css,Pth z R cs
theorem RI.le {ps R:List Pq}{z:Pq}{css:List (List Pq)} (h:RI ps z R css):R.length<=ps.length:=by
 have:=h.nd.length_le_of_subset (l₂:=ps.map (·.1)) fun x hx=>by
  obtain⟨y,hy,rfl⟩:=List.mem_map.mp hx;exact List.mem_map.mpr ⟨y,h.sub y hy,rfl⟩
 rw[List.length_map,List.length_map] at this;exact this
def Done (ps:List Pq) (z:Pq) (R:List Pq) (x:Pq):Prop:=∀r∈oth x,r≠z.1/\(r∈ps.map (·.1)->r∈R.map (·.1))
theorem Done.mono {ps R R':List Pq}{z x:Pq} (h:Done ps z R x) (hs:∀y∈R,y∈R'):Done ps z R' x:=fun r hr=>⟨(h r hr).1,fun hm=>by
 obtain⟨y,hy,e⟩:=List.mem_map.mp ((h r hr).2 hm);exact List.mem_map.mpr ⟨y,hs y hy,e⟩⟩
theorem zfx {x:Pq}{r:List Int}:r∈oth x ↔ r∈rims x.2/\r≠x.1:=by
 show r∈(rims x.2).filter _ ↔ _;rw[List.mem_filter,Bool.not_eq_true',decide_eq_false_iff_not]
theorem zg7 {ps R:List Pq}{z:Pq} (hn:(ps.map (·.1)).Nodup) (ha:Acy ps) (hs:∀y∈R,y∈ps) (hd:∀x∈z::R,Done ps z R x):Acy (ps++[z]):=by
 refine ziV ha (R:=R) (fun x hx y hy e=>?_) hs;obtain⟨e1,e2⟩:=zdU.mp e;obtain⟨d1,d2⟩:=hd x hx y.1 (zfx.mpr ⟨e2,e1⟩);have hyz:y≠z:=fun z'=>d1 (by rw[z']);refine⟨hyz,?_⟩;have hyp:y∈ps:=(List.mem_cons.mp hy).resolve_left hyz;obtain⟨y',hy',e'⟩:=List.mem_map.mp (d2 (List.mem_map.mpr ⟨y,hyp,rfl⟩));have:y'=y:=by
  have hnd:∀{l:List Pq},(l.map (·.1)).Nodup->∀a∈l,∀b∈l,a.1=b.1->a=b:=fun {l}=>by
   induction l with
   | nil=>intro _ a ha; cases ha
   | cons c r ih=>
    intro h a ha b hb e;rw[List.map_cons,List.nodup_cons] at h;rcases List.mem_cons.mp ha with ea | ha'
    ·rcases List.mem_cons.mp hb with eb | hb'
     ·rw[ea,eb]
     ·exact absurd (List.mem_map.mpr ⟨b,hb',by rw[<- e,ea]⟩) h.1
    ·rcases List.mem_cons.mp hb with eb | hb'
     ·exact absurd (List.mem_map.mpr ⟨a,ha',by rw[e,eb]⟩) h.1
     ·exact ih h.2 a ha' b hb' e
  exact hnd hn y' (hs y' hy') y hyp e'
 rw[<- this];exact hy'
theorem ziE {z x:Pq}{R c0:List Pq} (h:Pth z R (c0++[x])) (hx:stp x z=true):Rnd (c0++[x]):=by
 refine⟨by simp,fun i y e=>?_⟩;have hi:=(List.getElem?_eq_some_iff.mp e).1;rw[List.length_append,List.length_singleton] at hi
 by_cases hl:i=c0.length
 ·subst hl
  rw[List.getElem?_append_right (Nat.le_refl _),Nat.sub_self] at e;cases e;obtain⟨r,er⟩:=h.hd;refine⟨z,?_,hx⟩;rw[List.length_append,List.length_singleton,Nat.mod_self,er]
  rfl
 ·have hi2:i+1<(c0++[x]).length:=by rw[List.length_append,List.length_singleton]; omega
  refine⟨(c0++[x])[i+1],?_,h.st i y _ e (List.getElem?_eq_getElem hi2)⟩;rw[Nat.mod_eq_of_lt hi2];exact List.getElem?_eq_getElem hi2
theorem ziG {z x y:Pq}{R c0:List Pq} (h:Pth z R (c0++[x])) (hs:stp x y=true) (hz:y≠z) (hy:y∉R):Pth z (R++[y]) (c0++[x]++[y]):=by
 refine⟨?_,fun i a b ea eb=>?_,?_,fun a ha=>?_⟩
 ·obtain⟨r,er⟩:=h.hd
  exact⟨r++[y],by rw[er]; rfl⟩
 ·have hi:=(List.getElem?_eq_some_iff.mp eb).1
  rw[List.length_append,List.length_singleton] at hi
  by_cases hl:i+1=(c0++[x]).length
  ·rw[List.getElem?_append_right (by omega),hl,Nat.sub_self] at eb
   cases eb;rw[List.getElem?_append_left (by omega)] at ea;have:i=c0.length:=by rw[List.length_append,List.length_singleton] at hl; omega
   subst this;rw[List.getElem?_append_right (Nat.le_refl _),Nat.sub_self] at ea;cases ea;exact hs
  ·rw[List.getElem?_append_left (by omega)] at ea eb
   exact h.st i a b ea eb
 ·rw[List.nodup_append]
  refine⟨h.nd,by simp,fun a ha b hb e=>?_⟩;rw[List.mem_singleton.mp hb] at e;subst e;exact (h.mem a ha).elim hz hy
 ·rcases List.mem_append.mp ha with ha | ha
  ·exact (h.mem a ha).imp id (List.mem_append_left _)
  ·exact .inr (List.mem_append_right _ ha)
theorem Prs2.last {H:Hp}:∀{ts:List Addr}{c0:List Pq}{x:Pq},Prs2 H ts (c0++[x])->∃t0 t,ts=t0++[t]/\Prs2 H t0 c0/\Pr2 H t x
 | _,[],x,.cons r .nil=>⟨[],_,rfl,.nil,r⟩
 | _,c::c0,x,.cons r t=>by
  obtain⟨t0,t',e,h1,h2⟩:=Prs2.last t;exact⟨_::t0,t',by rw[e]; rfl,.cons r h1,h2⟩
theorem Prs2.add {H:Hp}:∀{ts:List Addr}{cs:List Pq}{t:Addr}{x:Pq},Prs2 H ts cs->Pr2 H t x->Prs2 H (ts++[t]) (cs++[x])
 | _,_,_,_,.nil,h=>.cons h .nil
 | _,_,_,_,.cons r q,h=>.cons r (Prs2.add q h)
theorem Pr2.upd {H:Hp}{t d:Addr}{x:Pq}{o o':HO} (h:Pr2 H t x) (hd:H d=some o') (hn:∀xs,o'≠.tup xs):Pr2 (L2.upd H d o) t x:=by
 obtain⟨a,b,e,p,q⟩:=h;have key:∀{c:Addr} {xs:List V},H c=some (.tup xs)->L2.upd H d o c=some (.tup xs):=fun {c xs} e=>by
  rw[upd_ne (fun z=>by subst z; rw[hd] at e; cases e; exact hn _ rfl)]; exact e
 exact⟨a,b,key e,key p,key q⟩
theorem Prs2.upd {H:Hp}{ts:List Addr}{d:Addr}{xs:List Pq}{o o':HO} (h:Prs2 H ts xs) (hd:H d=some o') (hn:∀xs,o'≠.tup xs):Prs2 (L2.upd H d o) ts xs:=Paired.mapP h fun _ _ q=>Pr2.upd q hd hn
def RowH (H0 H:Hp) (r:Addr) (cs:List Pq):Prop:=H0 r=none/\∃ts,H r=some (.lst (List.map V.ref ts))/\Prs2 H ts cs
theorem RowH.same {H0 H H':Hp}{r:Addr}{cs:List Pq} (h:RowH H0 H r cs) (s:Same H H'):RowH H0 H' r cs:=⟨h.1,let ⟨ts,e,p⟩:=h.2; ⟨ts,s _ _ e,p.same s⟩⟩
theorem RowH.upd {H0 H:Hp}{r d:Addr}{cs:List Pq}{o o':HO} (h:RowH H0 H r cs) (hd:H d=some o') (hn:∀xs,o'≠.tup xs) (hr:r≠d):RowH H0 (L2.upd H d o) r cs:=⟨h.1,let ⟨ts,e,p⟩:=h.2; ⟨ts,by rw[upd_ne hr]; exact e,Prs2.upd p hd hn⟩⟩
abbrev Rows (H0 H:Hp) (rws:List Addr) (css:List (List Pq)):Prop:=Paired (RowH H0 H) rws css
theorem Rows.upd {H0 H:Hp}{rws:List Addr}{css:List (List Pq)}{d:Addr}{o o':HO} (h:Rows H0 H rws css) (hd:H d=some o') (hn:∀xs,o'≠.tup xs) (hr:d∉rws):Rows H0 (L2.upd H d o) rws css:=by
 induction h with
 | nil=>exact .nil
 | cons r t ih=>exact .cons (r.upd hd hn fun z=>hr (by rw[z]; exact List.mem_cons_self)) (ih fun z=>hr (List.mem_cons_of_mem _ z))
theorem Rows.last {H0 H:Hp}:∀{rws:List Addr}{c0:List (List Pq)}{x:List Pq},Rows H0 H rws (c0++[x])->∃r0 r,rws=r0++[r]/\Rows H0 H r0 c0/\RowH H0 H r x
 | _,[],x,.cons r .nil=>⟨[],_,rfl,.nil,r⟩
 | _,c::c0,x,.cons r t=>by
  obtain⟨t0,t',e,h1,h2⟩:=Rows.last t;exact⟨_::t0,t',by rw[e]; rfl,.cons r h1,h2⟩
theorem Rows.add {H0 H:Hp}:∀{rws:List Addr}{css:List (List Pq)}{r:Addr}{cs:List Pq},Rows H0 H rws css->RowH H0 H r cs->Rows H0 H (rws++[r]) (css++[cs])
 | _,_,_,_,.nil,h=>.cons h .nil
 | _,_,_,_,.cons r q,h=>.cons r (Rows.add q h)
end K45
end
section
namespace K45
open K1
open PySem L2 STb
theorem zhj {ps:List Pq}{z:Pq}:RI ps z [] [[z]]:=by
 refine⟨fun y hy=>(by cases hy),(by simp),fun cs hcs=>?_⟩;rw[List.mem_singleton.mp hcs];refine⟨⟨[],rfl⟩,fun i x y e1 e2=>?_,by simp,fun x hx=>.inl (List.mem_singleton.mp hx)⟩;have:=(List.getElem?_eq_some_iff.mp e2).1;simp at this
abbrev nmR:List Str:=["seconds","new","rows","seen","row","rim"]
section
variable {P:Program}{w:World}{K:PySem.W.Frag}{mg:Str->Option Value}{base:Heap}
def spRW:Sp:=fun vs H Q _=>∃d t ps z,vs=[.ref d,.ref t]/\Sec H d ps/\Pr2 H t z/\(ps.map (·.1)).Nodup/\z.1∉ps.map (·.1)/\(∀x∈ps,x.2.length<=5)/\z.2.length<=5/\ps.length<=1000/\Acy ps/\
 (∀D H',Same H H'->H D=none->H' D=some (.lst [])->Acy (ps++[z])->Q (.ref D) H')/\
 ∀D H' ts cs,Same H H'->H D=none->H' D=some (.lst (List.map V.ref ts))->Prs2 H' ts cs->Rnd cs->cs.Nodup->(∀x∈cs,x∈ps++[z])->Q (.ref D) H'
theorem scRW:zv nmR ["seconds","new"] (zf sRW):=⟨rfl,rfl,rfl,by decide +kernel,rfl,by decide +kernel,by decide +kernel⟩
theorem zkm {f fo:Addr}{fd fdo:FuncData} (F:Fun K "round_with" "round_with" sRW f fd) (B:Bt mg)
  (Fo:Fun K "other_rims" "other_rims" zbt fo fdo) (bo:Binds K fdo ["pair"] []) (mo:mg "other_rims"=some (.ref fo)) (Go:FnOk P w K mg base CX0 2 fo fdo ["pair"] zfy):FnOk P w K mg base CX0 3 f fd ["seconds","new"] spRW:=by
 refine F.ok scRW (fun vs H Q E h=>?_) (fun cdv A outer s H vs Q E hr h=>?_)
 ·obtain⟨d,t,ps,z,rfl,_⟩:=h; rfl
 ·obtain⟨d,t,ps,z,rfl,hd,ht,hnd,hz,h5,z5,hpl,hac,k0,k1⟩:=h
  have hu:=ze6 hr;have hu64:=hr.units;refine⟨_,ze (zt (i:=2) scRW.nd rfl (Or.inl rfl) (zz (zc (zz (zc (pv 1) zd)) zd)))
   (ze (zt (i:=3) scRW.nd rfl (Or.inl rfl) zaY)
   (ze (zeM PassesOwn.never (zn ze9 (zo zk rfl B.len zab (zc (pv 2) zd)) zi (nomark _))
    (ze (zt (i:=4) scRW.nd rfl (Or.inl rfl) (zjo PySem.F.plainAttrs_list PySem.F.slot_list_pop PySem.F.type_list_pop zj1 (pv 2)))
    (zh (zX PassesOwn.never rfl (zH (zl Go hr rfl mo Fo.kp bo .nil pass0 (zc (zx zK (pv 4) (ziU zf4 zi) (fun _ _=>rfl)) zd))) (zr (i:=5) scRW.nd rfl (Or.inl rfl))
     (ze (zR (zn (zjL hu64) (pv 5) (zx zB (pv 1) zi (fun _ _=>rfl)) (nomark _)) (zh (zp (pv 4))) zw)
     (zh (zR (PW.pt (zhV (zh5 (zhW hu (pv 5) (pv 0)) (by with_unfolding_all rfl)) (zfk (zh5 (zfW hu (pv 5) (pv 3)) (by with_unfolding_all rfl)))))
      (ze (zbd hu (pv 3) (pv 5) zaL rfl)
      (zh (zal (zch PySem.F.plainAttrs_list PySem.F.slot_list_append PySem.F.type_list_append zac (pv 2) (zc (zC zbW (pv 4) (zz (zc (zaa (zc (pv 5) (zc (ziB hu (pv 0) (pv 5) (fun _ _=>rfl)) zd))) zd))) zd))))) zw)))))))
   (zh (zp (zz zd))))),?_⟩
  refine⟨_,rfl,zg (by simp),fun r1 hr1=>⟨zg (by simp),fun RL hRL=>?_⟩⟩;have s1:=Same.new (o:=.lst [.ref t]) hr1;have s2:=Same.new (o:=.lst [.ref r1]) hRL;have s12:=s1.trans s2;have e1:upd (upd H r1 (.lst [.ref t])) RL (.lst [.ref r1]) r1=some (.lst ([t].map V.ref)):=s2 _ _ upd_same;have e2:upd (upd H r1 (.lst [.ref t])) RL (.lst [.ref r1]) RL=some (.lst ([r1].map V.ref)):=upd_same;have n12:RL≠r1:=Ne.symm (zj (upd_same (H:=H) (a:=r1) (o:=.lst [.ref t])) hRL);have hRL0:H RL=none:=s1.free hRL;generalize upd (upd H r1 (.lst [.ref t])) RL (.lst [.ref r1])=H2 at s12 e1 e2;intro SD hSD;have s3:=Same.new (o:=.dT []) hSD;have s03:=s12.trans s3;have hSD0:H SD=none:=s12.free hSD;have nRS:RL≠SD:=zj e2 hSD;refine⟨fun m σ H3=>∃(rws:List Addr) (css:List (List Pq)) (R:List Pq) (v4 v5:Option V),m=2*(ps.length - R.length)+css.length/\σ=[some (.ref d),some (.ref t),some (.ref RL),some (.ref SD),v4,v5]/\Same H H3/\H3 RL=some (.lst (rws.map V.ref))/\Rows H H3 rws css/\RL∉rws/\H3 SD=some (.dT (kvM (R.map (·.1))))/\RI ps z R css/\(∀x∈z::R,(∃c0,c0++[x]∈css) \/ Done ps z R x)/\2*(ps.length - R.length)+css.length<=2*ps.length+1,
   ⟨_,[r1],[[z]],[],none,none,rfl,rfl,s03,s3 _ _ e2,.cons ⟨hr1,[t],s3 _ _ e1,.cons (ht.same s03) .nil⟩ .nil,by simpa using n12,upd_same,zhj,fun x hx=>.inl ⟨[],by rw[List.mem_singleton.mp hx]; simp⟩,by simp⟩,?_⟩
  rintro m σ H3 ⟨rws,css,R,v4,v5,rfl,rfl,sm,hRL3,hrw,hRr,hSD3,ri,clo,hbd⟩;have hlr:=Paired.length hrw;refine⟨_,rfl,RL,_,rfl,.inl (SqL.of hRL3),_,_,rfl,rfl,_,rfl,?_⟩;rw[List.length_map,hlr];rcases List.eq_nil_or_concat css with rfl | ⟨css0,cs,ecs⟩
  ·refine iteF ⟨zg (by simp),fun D hD=>k0 D _ (sm.then (sm.free hD)) (sm.free hD) upd_same ?_⟩
   exact zg7 hnd hac ri.sub fun x hx=>(clo x hx).elim (fun ⟨c0,hc⟩=>by cases hc) id
  have ecs:css=css0++[cs]:=by rw[ecs,List.concat_eq_append]
  subst ecs;rw[decide_eq_true (show (0:Int)<(((css0++[cs]).length:Nat):Int) by rw[List.length_append,List.length_singleton]; omega)];obtain⟨rw0,r,erw,hrw0,⟨hr0,ts,hts,hps⟩⟩:=Rows.last hrw;subst erw;have hpc:Pth z R cs:=ri.pth cs (by simp);obtain⟨c0,x,ecs⟩:∃c0 x,cs=c0++[x]:=by
   rcases List.eq_nil_or_concat cs with e | ⟨c0,x,e⟩
   ·obtain⟨r,er⟩:=hpc.hd
    rw[e] at er; cases er
   ·exact⟨c0,x,by rw[e,List.concat_eq_append]⟩
  subst ecs;obtain⟨t0,tx,ets,hp0,hpx⟩:=Prs2.last hps;have hrRL:r≠RL:=fun e=>hRr (by rw[e]; simp);have hRr0:RL∉rw0:=fun e=>hRr (List.mem_append_left _ e);refine iteT ⟨fun σ' H'=>∃m',m'<2*(ps.length - R.length)+(css0++[c0++[x]]).length/\∃(rws:List Addr) (css:List (List Pq)) (R:List Pq) (v4 v5:Option V),m'=2*(ps.length - R.length)+css.length/\σ'=[some (.ref d),some (.ref t),some (.ref RL),some (.ref SD),v4,v5]/\Same H H'/\H' RL=some (.lst (rws.map V.ref))/\Rows H H' rws css/\RL∉rws/\H' SD=some (.dT (kvM (R.map (·.1))))/\RI ps z R css/\(∀x∈z::R,(∃c0,c0++[x]∈css) \/ Done ps z R x)/\2*(ps.length - R.length)+css.length<=2*ps.length+1,fun σ' H' h=>h,?_⟩;rw[List.length_append,List.length_singleton] at hbd;refine⟨_,rfl,.inl ⟨rfl,_,SqL.of hRL3⟩,RL,_,.ref r,rfl,rfl,hRL3,by rw[List.length_map,List.map_append]; simp,?_⟩;rw[show ((rw0++[r]).map V.ref).dropLast=rw0.map V.ref by rw[List.map_append]; simp];have sm4:Same H (upd H3 RL (.lst (rw0.map V.ref))):=sm.then hRL0;have hRL4:=upd_same (H:=H3) (a:=RL) (o:=.lst (rw0.map V.ref));have hrw4:Rows H (upd H3 RL (.lst (rw0.map V.ref))) rw0 css0:=Rows.upd hrw0 hRL3 (by intro xs z; cases z) hRr0;have hrow4:RowH H (upd H3 RL (.lst (rw0.map V.ref))) r (c0++[x]):=RowH.upd ⟨hr0,ts,hts,hps⟩ hRL3 (by intro xs z; cases z) hrRL;have hts4:upd H3 RL (.lst (rw0.map V.ref)) r=some (.lst (ts.map V.ref)):=by rw[upd_ne hrRL]; exact hts
  have hps4:Prs2 (upd H3 RL (.lst (rw0.map V.ref))) ts (c0++[x]):=Prs2.upd hps hRL3 (by intro xs z; cases z);have hpx4:Pr2 (upd H3 RL (.lst (rw0.map V.ref))) tx x:=Pr2.upd hpx hRL3 (by intro xs z; cases z);have hSD4:upd H3 RL (.lst (rw0.map V.ref)) SD=some (.dT (kvM (R.map (·.1)))):=by rw[upd_ne (Ne.symm nRS)]; exact hSD3
  generalize upd H3 RL (.lst (rw0.map V.ref))=H4 at sm4 hRL4 hrw4 hrow4 hts4 hps4 hpx4 hSD4;have hx5:x.2.length<=5:=by
   rcases hpc.mem x (by simp) with e | e
   ·rw[e]; exact z5
   ·exact h5 x (ri.sub x e)
  have elast:atI (ts.map V.ref) (-1)=some (.ref tx):=by rw[ets,List.map_append]; exact zep _ _
  refine⟨_,rfl,_,rfl,r,_,_,_,rfl,rfl,SqL.of hts4,elast,tx,x,rfl,hpx4,hx5,fun OL H5 os s5 hOL0 hOL5 ho5=>⟨OL,rfl,⟨_,SqL.of hOL5⟩,?_⟩⟩;have nOR:OL≠RL:=Ne.symm (zj hRL4 hOL0);have nOS:OL≠SD:=Ne.symm (zj hSD4 hOL0);have hol:=ho5.length;refine zah (K:=K) (a:=OL) (xs:=os.map V.ref) (fun j σ H6=>∃(rws:List Addr) (css:List (List Pq)) (R':List Pq) (v5:Option V),σ=[some (.ref d),some (.ref t),some (.ref RL),some (.ref SD),some (.ref r),v5]/\Same H H6/\H6 OL=some (.lst (os.map V.ref))/\Tps H6 os (oth x)/\H6 r=some (.lst (ts.map V.ref))/\Prs2 H6 ts (c0++[x])/\H6 RL=some (.lst (rws.map V.ref))/\Rows H H6 rws css/\RL∉rws/\H6 SD=some (.dT (kvM (R'.map (·.1))))/\RI ps z R' css/\(∀y∈R,y∈R')/\
    (∀y∈z::R',y=x \/ (∃c0,c0++[y]∈css) \/ Done ps z R' y)/\(∀rr∈(oth x).take j,rr≠z.1/\(rr∈ps.map (·.1)->rr∈R'.map (·.1)))/\2*(ps.length - R'.length)+css.length<=2*(ps.length - R.length)+css0.length)
   ⟨rw0,css0,R,v5,rfl,sm4.trans s5,hOL5,ho5,s5 _ _ hts4,hps4.same s5,s5 _ _ hRL4,Paired.mapP hrw4 fun _ _ q=>q.same s5,hRr0,s5 _ _ hSD4,⟨ri.sub,ri.nd,fun cs hcs=>ri.pth cs (List.mem_append_left _ hcs)⟩,fun y hy=>hy,fun y hy=>?_,by simp,Nat.le_refl _⟩ (fun i σ H6 _ ⟨_,_,_,_,_,_,h,_⟩=>SqL.of h) ?_ ?_
  ·rcases clo y hy with ⟨c1,hc1⟩ | hdn
   ·rcases List.mem_append.mp hc1 with h | h
    ·exact .inr (.inl ⟨c1,h⟩)
    ·have:=List.mem_singleton.mp h
     have e:=List.append_inj' this rfl;exact .inl (by have:=e.2; simpa using this)
   ·exact .inr (.inr hdn)
  ·rintro j v σ H6 hv ⟨rws,css,R',v5',rfl,sm6,hOL6,ho6,hr6,hps6,hRL6,hrw6,hRr6,hSD6,ri6,hRR,clo6,pro,hms⟩
   obtain⟨ea,eea,rfl⟩:=z0 hv;obtain⟨rr,err,hrr⟩:=ho6.get eea;have hrm:rr∈oth x:=List.mem_of_getElem? err;obtain⟨hri,hrx⟩:=zfx.mp hrm;obtain⟨za,zb,ez,hza,hzb⟩:=ht.same sm6;refine⟨_,rfl,_,rfl,t,_,_,_,rfl,rfl,SqT.of ez,zq (j:=0) rfl,.inl ⟨ea,za,rr,z.1,rfl,rfl,hrr,hza,_,rfl,?_⟩⟩;rw[if_neg (by decide)];have hpc6:Pth z R' (c0++[x]):=hpc.mono hRR
   by_cases hrz:rr=z.1
   ·rw[decide_eq_true hrz]
    refine iteT ⟨_,rfl,k1 r H6 ts (c0++[x]) sm6 hr0 hr6 hps6 (ziE hpc6 (zdU.mpr ⟨by rw[<- hrz]; exact hrx,by rw[<- hrz]; exact hri⟩)) hpc6.nd fun y hy=>?_⟩;rcases hpc6.mem y hy with e | e
    ·rw[e]; simp
    ·exact List.mem_append_left _ (ri6.sub y e)
   rw[decide_eq_false hrz];obtain⟨kvs,ekv,hkv⟩:=hd.same sm6;have skip:(rr∈ps.map (·.1)->rr∈R'.map (·.1))->∀q∈(oth x).take (j+1),q≠z.1/\(q∈ps.map (·.1)->q∈R'.map (·.1)):=fun h q hq=>by
    rw[take_snoc err] at hq;rcases List.mem_append.mp hq with hq | hq
    ·exact pro q hq
    ·rw[List.mem_singleton.mp hq]; exact⟨hrz,h⟩
   refine iteF ⟨_,rfl,_,rfl,d,_,rfl,DGet.t (k:=rr.map Sum.inl) ekv (by rw[List.map_map]; exact hrr),_,rfl,?_⟩;rcases sec_val hkv rr with ⟨ev,hno⟩ | ⟨b,q,ev,hin,hb⟩
   ·rw[ev]
    exact iteF ⟨rws,css,R',_,rfl,sm6,hOL6,ho6,hr6,hps6,hRL6,hrw6,hRr6,hSD6,ri6,hRR,clo6,skip fun h=>absurd h hno,hms⟩
   rw[ev];refine iteT ⟨_,rfl,_,rfl,SD,_,rfl,DGet.t (k:=rr.map Sum.inl) hSD6 (by rw[List.map_map]; exact hrr),_,rfl,?_⟩;rw[zd6]
   by_cases hsn:rr∈R'.map (·.1)
   ·rw[decide_eq_true hsn]
    exact iteF ⟨rws,css,R',_,rfl,sm6,hOL6,ho6,hr6,hps6,hRL6,hrw6,hRr6,hSD6,ri6,hRR,clo6,skip fun _=>hsn,hms⟩
   rw[decide_eq_false hsn];have hle:=ri6.le;refine iteT ⟨_,rfl,_,rfl,SD,_,rfl,DPut.t (k:=rr.map Sum.inl) hSD6 (by rw[List.map_map]; exact hrr) (zJ (Nat.le_trans (zbX _) (by rw[List.length_map]; omega))),?_⟩;rw[zbN];have sm7:Same H (upd H6 SD (.dT (kvM (R'.map (·.1)++[rr])))):=sm6.then hSD0;have nodt:∀xs,(HO.dT (kvM (R'.map (·.1))))≠.tup xs:=by intro xs z; cases z
   have tk:∀{c:Addr} {xs:List V},H6 c=some (.tup xs)->upd H6 SD (.dT (kvM (R'.map (·.1)++[rr]))) c=some (.tup xs):=fun {c xs} e=>by
    rw[upd_ne (fun z=>by subst z; rw[hSD6] at e; cases e)]; exact e
   have hOL7:upd H6 SD (.dT (kvM (R'.map (·.1)++[rr]))) OL=some (.lst (os.map V.ref)):=by rw[upd_ne nOS]; exact hOL6
   have ho7:=Tps.upd (o:=.dT (kvM (R'.map (·.1)++[rr]))) ho6 hSD6 nodt;have nrS:r≠SD:=fun e=>by rw[e,hSD6] at hr6; cases hr6
   have hr7:upd H6 SD (.dT (kvM (R'.map (·.1)++[rr]))) r=some (.lst (ts.map V.ref)):=by rw[upd_ne nrS]; exact hr6
   have hps7:=Prs2.upd (o:=.dT (kvM (R'.map (·.1)++[rr]))) hps6 hSD6 nodt;have hRL7:upd H6 SD (.dT (kvM (R'.map (·.1)++[rr]))) RL=some (.lst (rws.map V.ref)):=by rw[upd_ne nRS]; exact hRL6
   have hSr:SD∉rws:=fun hm=>by
    obtain⟨cs,hcs⟩:∃cs,RowH H H6 SD cs:=by
     have:∀{rws:List Addr} {css:List (List Pq)},Rows H H6 rws css->SD∈rws->∃cs,RowH H H6 SD cs:=fun {rws css} h=>by
      induction h with
      | nil=>intro hm; cases hm
      | cons r t ih=>
       intro hm;rcases List.mem_cons.mp hm with rfl | hm
       ·exact⟨_,r⟩
       ·exact ih hm
     exact this hrw6 hm
    obtain⟨_,ts',e,_⟩:=hcs;rw[hSD6] at e; cases e
   have hrw7:Rows H (upd H6 SD (.dT (kvM (R'.map (·.1)++[rr])))) rws css:=Rows.upd hrw6 hSD6 nodt hSr;have hSD7:=upd_same (H:=H6) (a:=SD) (o:=.dT (kvM (R'.map (·.1)++[rr])));have hrr7:Tp (upd H6 SD (.dT (kvM (R'.map (·.1)++[rr])))) ea rr:=tk hrr;have hd7:Sec (upd H6 SD (.dT (kvM (R'.map (·.1)++[rr])))) d ps:=hd.same sm7;generalize upd H6 SD (.dT (kvM (R'.map (·.1)++[rr])))=H7 at sm7 hOL7 ho7 hr7 hps7 hRL7 hrw7 hSD7 hrr7 hd7;obtain⟨kvs7,ekv7,hkv7⟩:=hd7;obtain⟨b7,q7,ev7,hin7,hb7⟩:∃b q,valV kvs7 (rr.map Sum.inl)=some (.ref b)/\(rr,q)∈ps/\Tp H7 b q:=by
    rcases sec_val hkv7 rr with ⟨_,hno⟩ | h
    ·exact absurd (List.mem_map.mpr ⟨_,hin,rfl⟩) hno
    ·exact h
   have hlt:=hps7.length;have hcl:(c0++[x]).length<=ps.length+1:=by
    have:=hpc6.nd.length_le_of_subset (l₂:=z::R') fun y hy=>(hpc6.mem y hy).elim (fun e=>by rw[e]; exact List.mem_cons_self) (List.mem_cons_of_mem _);rw[List.length_cons] at this;omega
   have hdg:=DGet.t (k:=rr.map Sum.inl) ekv7 (by rw[List.map_map]; exact hrr7);rw[ev7] at hdg;refine⟨_,rfl,.inl ⟨rfl,_,SqL.of hRL7⟩,_,rfl,_,rfl,_,rfl,_,rfl,d,_,rfl,hdg,zg (by simp),fun TT hTT=>⟨zg (by simp),fun L1 hL1=>?_⟩⟩;have u1:=Same.new (o:=.tup [.ref ea,.ref b7]) hTT;have u2:=Same.new (o:=.lst [.ref TT]) hL1;have u12:=u1.trans u2;have hTT8:Pr2 (upd (upd H7 TT (.tup [.ref ea,.ref b7])) L1 (.lst [.ref TT])) TT (rr,q7):=⟨ea,b7,u2 _ _ upd_same,u12.tp hrr7,u12.tp hb7⟩;refine⟨r,L1,_,_,rfl,rfl,u12 _ _ hr7,upd_same,zg (by rw[List.length_map]; simp; omega),fun NR hNR=>?_⟩;have u3:=Same.new (o:=.lst (ts.map V.ref++[.ref TT])) hNR;have u:=u12.trans u3;have hNR9:=upd_same (H:=upd (upd H7 TT (.tup [.ref ea,.ref b7])) L1 (.lst [.ref TT])) (a:=NR) (o:=.lst (ts.map V.ref++[.ref TT]));have hNR0:H7 NR=none:=u12.free hNR;have hTT9:=hTT8.same u3;generalize upd (upd (upd H7 TT (.tup [.ref ea,.ref b7])) L1 (.lst [.ref TT])) NR (.lst (ts.map V.ref++[.ref TT]))=H9 at u hNR9 hTT9;have sm9:=sm7.trans u;have hRL9:=u _ _ hRL7;have hrl:rws.length<=3000:=by have:=Paired.length hrw7; omega
   refine⟨RL,_,_,rfl,rfl,hRL9,by rw[List.length_map]; exact zJ (by omega),?_⟩;have nNR:NR≠RL:=Ne.symm (zj hRL7 hNR0);have nol:∀xs,(HO.lst (rws.map V.ref))≠.tup xs:=by intro xs z; cases z
   have hnew:(rr,q7)∉R':=fun h=>hsn (List.mem_map.mpr ⟨_,h,rfl⟩);have hnz:(rr,q7)≠z:=fun e=>hrz (by rw[<- e]);have hpn:=ziG hpc6 (y:=(rr,q7)) (zdU.mpr ⟨hrx,hri⟩) hnz hnew;have hrow9:RowH H H9 NR (c0++[x]++[(rr,q7)]):=⟨sm7.free hNR0,ts++[TT],by rw[hNR9,List.map_append]; rfl,Prs2.add (hps7.same u) hTT9⟩;refine⟨rws++[NR],css++[c0++[x]++[(rr,q7)]],R'++[(rr,q7)],_,rfl,sm9.then hRL0,by rw[upd_ne nOR]; exact u _ _ hOL7,Tps.upd (u.tps ho7) hRL9 nol,by rw[upd_ne hrRL]; exact u _ _ hr7,Prs2.upd (hps7.same u) hRL9 nol,by rw[upd_same,List.map_append]; rfl,?_,?_,?_,⟨?_,?_,?_⟩,fun y hy=>List.mem_append_left _ (hRR y hy),fun y hy=>?_,fun qq hqq=>?_,?_⟩
   ·exact Rows.upd (Rows.add (Paired.mapP hrw7 fun _ _ h=>h.same u) hrow9) hRL9 nol fun hm=>by
     rcases List.mem_append.mp hm with h | h
     ·exact hRr6 h
     ·exact nNR (List.mem_singleton.mp h).symm
   ·intro hm
    rcases List.mem_append.mp hm with h | h
    ·exact hRr6 h
    ·exact nNR (List.mem_singleton.mp h).symm
   ·rw[upd_ne (Ne.symm nRS),List.map_append]; exact u _ _ hSD7
   ·intro y hy
    rcases List.mem_append.mp hy with h | h
    ·exact ri6.sub y h
    ·rw[List.mem_singleton.mp h]; exact hin7
   ·rw[List.map_append,List.nodup_append]
    refine⟨ri6.nd,by simp,fun a ha b hb e=>?_⟩;rw[List.mem_singleton.mp hb] at e;have e':a=rr:=e;exact hsn (by rw[<- e']; exact ha)
   ·intro cs hcs
    rcases List.mem_append.mp hcs with h | h
    ·exact (ri6.pth cs h).mono fun y hy=>List.mem_append_left _ hy
    ·rw[List.mem_singleton.mp h]; exact hpn
   ·have:y∈z::R' \/ y=(rr,q7):=by
     rcases List.mem_cons.mp hy with h | h
     ·exact .inl (by rw[h]; exact List.mem_cons_self)
     ·rcases List.mem_append.mp h with h | h
      ·exact .inl (List.mem_cons_of_mem _ h)
      ·exact .inr (List.mem_singleton.mp h)
    rcases this with h | rfl
    ·rcases clo6 y h with e | ⟨c1,hc1⟩ | hdn
     ·exact .inl e
     ·exact .inr (.inl ⟨c1,List.mem_append_left _ hc1⟩)
     ·exact .inr (.inr (hdn.mono fun y hy=>List.mem_append_left _ hy))
    ·exact .inr (.inl ⟨c0++[x],List.mem_append_right _ (List.mem_singleton.mpr rfl)⟩)
   ·rw[take_snoc err] at hqq
    rw[List.map_append];rcases List.mem_append.mp hqq with h | h
    ·exact⟨(pro qq h).1,fun hm=>List.mem_append_left _ ((pro qq h).2 hm)⟩
    ·rw[List.mem_singleton.mp h]
     exact⟨hrz,fun _=>List.mem_append_right _ (List.mem_singleton.mpr rfl)⟩
   ·have hlt2:R'.length<ps.length:=by
     have hnd2:((R'++[(rr,q7)]).map (·.1)).Nodup:=by
      rw[List.map_append,List.nodup_append];refine⟨ri6.nd,by simp,fun a ha b hb e=>?_⟩;rw[List.mem_singleton.mp hb] at e;have e':a=rr:=e;exact hsn (by rw[<- e']; exact ha)
     have:=hnd2.length_le_of_subset (l₂:=ps.map (·.1)) fun a ha=>by
      obtain⟨y,hy,rfl⟩:=List.mem_map.mp ha;rcases List.mem_append.mp hy with h | h
      ·exact List.mem_map.mpr ⟨y,ri6.sub y h,rfl⟩
      ·rw[List.mem_singleton.mp h]; exact List.mem_map.mpr ⟨_,hin7,rfl⟩
     rw[List.length_map,List.length_map,List.length_append,List.length_singleton] at this;omega
    rw[List.length_append,List.length_append,List.length_singleton,List.length_singleton];omega
  ·rintro σ H6 ⟨rws,css,R',v5',rfl,sm6,hOL6,ho6,hr6,hps6,hRL6,hrw6,hRr6,hSD6,ri6,hRR,clo6,pro,hms⟩
   rw[List.length_map,hol,take_all] at pro;refine⟨_,?_,rws,css,R',_,_,rfl,rfl,sm6,hRL6,hrw6,hRr6,hSD6,ri6,fun y hy=>?_,?_⟩
   ·rw[List.length_append,List.length_singleton]; omega
   ·rcases clo6 y hy with e | h | h
    ·rw[e]; exact .inr pro
    ·exact .inl h
    ·exact .inr h
   ·omega
end
end K45
end
section
namespace K45
open K1
open PySem L2 STb
abbrev zaS:Stmt:=top 21
abbrev zdA:Stmt:=top 20
abbrev zdW:Stmt:=top 22
abbrev zaQ:Stmt:=top 19
def stds (ps:List Pq):List (List Int):=ps.flatMap fun x=>[x.1,x.2]
theorem za9 (ps qs:List Pq):stds (ps++qs)=stds ps++stds qs:=by unfold stds; rw[List.flatMap_append]
theorem zbC (x:Pq):stds [x]=[x.1,x.2]:=rfl
structure PG (kn:List (List Int)) (ps:List Pq):Prop where
 has:∀x∈ps,x.2∈kn/\x.1∈rims x.2
 nd:(stds ps).Nodup
 ac:Acy ps
theorem zj4 {ps:List Pq} (h:(stds ps).Nodup):(ps.map (·.1)).Nodup:=by
 have:(ps.map (·.1)).Sublist (stds ps):=by
  induction ps with
  | nil=>exact List.Sublist.slnil
  | cons x r ih=>
   have e:stds (x::r)=[x.1,x.2]++stds r:=rfl;rw[e,List.nodup_append] at h;rw[e];exact ((ih h.2.1).cons x.2).cons_cons x.1
 exact h.sublist this
section
variable {P:Program}{w:World}{K:PySem.W.Frag}{mg:Str->Option Value}{base:Heap}
theorem Prs2.get {H:Hp}:∀{ts:List Addr}{xs:List Pq}{i:Nat}{t:Addr},Prs2 H ts xs->ts[i]?=some t->∃x,xs[i]?=some x/\Pr2 H t x
 | _,_,_,_,.nil,e=>by simp at e
 | _,_,0,_,.cons r _,e=>by simp at e; subst e; exact⟨_,rfl,r⟩
 | _,_,i+1,t,.cons _ q,e=>by
  obtain⟨x,h1,h2⟩:=Prs2.get (i:=i) (t:=t) q (by simpa using e);exact⟨x,by simpa using h1,h2⟩
theorem zhm:zv ["every","pair"] ["every","pair"] (zf zaS):=⟨rfl,rfl,rfl,by decide +kernel,rfl,by decide +kernel,by decide +kernel⟩
theorem zfL {H2:Hp}{t d D:Addr}{x:Pq}{seq:List (List Int)}{Q:VK} (ht:Pr2 H2 t x) (hd:H2 d=some (.dT (kvM seq))) (hD:H2 D=none)
  (k:∀(H3:Hp),Same H2 H3->H3 D=some (.lst ([decide (x.1∈seq),decide (x.2∈seq)].map V.bl))->Q (.ref D) H3) :
  zap (Itt K t) (zaA 0) tYes (tDIn (tVar 0) (tVar 1)) [none,some (.ref d)] H2 D Q:=by
 obtain⟨a,b,et,ha,hb⟩:=ht;refine zeR (xs:=[.ref a,.ref b]) (fun j σ ys H3=>∃(v:Option V),σ=[v,some (.ref d)]/\Same H2 H3/\H3 D=some (.lst ys)/\ys=(([decide (x.1∈seq),decide (x.2∈seq)]:List Bool).take j).map V.bl) ?_ ?_ ?_ ?_
 ·exact⟨none,rfl,Same.new hD,upd_same,rfl⟩
 ·rintro j σ ys H3 ⟨v,rfl,sm,hD3,rfl⟩
  exact SqT.of (sm _ _ et)
 ·rintro j σ ys H3 y hy hj hl ⟨v,rfl,sm,hD3,rfl⟩
  have hn:([.ref a,.ref b]:List V).length<=sizeLine:=zg (by simp);have hj2:j=0 \/ j=1:=by have:=(List.getElem?_eq_some_iff.mp hy).1; simp at this; omega
  rcases hj2 with rfl | rfl
  ·have e:V.ref a=y:=by simpa using hy
   subst e;refine gyes ⟨_,rfl,_,rfl,d,_,rfl,DGet.t (k:=x.1.map Sum.inl) (sm _ _ hd) (by rw[List.map_map]; exact sm.tp ha),?_⟩;rw[zd6];exact cput hn hj hl hD3 ⟨_,rfl,sm.then hD,upd_same,rfl⟩
  ·have e:V.ref b=y:=by simpa using hy
   subst e;refine gyes ⟨_,rfl,_,rfl,d,_,rfl,DGet.t (k:=x.2.map Sum.inl) (sm _ _ hd) (by rw[List.map_map]; exact sm.tp hb),?_⟩;rw[zd6];exact cput hn hj hl hD3 ⟨_,rfl,sm.then hD,upd_same,rfl⟩
 ·rintro σ ys H3 ⟨v,rfl,sm,hD3,rfl⟩
  exact k H3 sm hD3
abbrev nmB:List Str:=["every","pairs","stands","k","pair","piece"]
theorem zc8:zv nmB ["every","pairs"] (zf zdA):=⟨rfl,rfl,rfl,by decide +kernel,rfl,by decide +kernel,by decide +kernel⟩
end
end K45
end
section
namespace L2
open PySem PySem.Spec PyProof.Rows
section
variable {X:Cx}
theorem zd9:zaz X (.builtin "isinstance") (fun xs H Q=>∃n,xs=[.int n,.ty "bool"]/\Q (.bl false) H):=by
 intro pins s σ H xs us Q I r h;obtain⟨n,rfl,q⟩:=h;obtain⟨u,u',rfl,ru,ru'⟩:=vals2 r;cases ru';exact zb8 I ru (.int n) (by first | rfl | kernel_rfl | decide +kernel) fun tk=>⟨.bl false,H,I.tok _,rfl,q⟩
theorem zd4:zaz X (.builtin "isinstance") (fun xs H Q=>∃a ys,xs=[.ref a,.ty "list"]/\H a=some (.lst ys)/\Q (.bl true) H):=by
 intro pins s σ H xs us Q I r h;obtain⟨a,ys,rfl,ha,q⟩:=h;obtain⟨u,u',rfl,ru,ru'⟩:=vals2 r;cases ru';exact zb8 I ru (.lst ha) (by first | rfl | kernel_rfl | decide +kernel) fun tk=>⟨.bl true,H,I.tok _,rfl,q⟩
theorem zdJ:zaz X (.builtin "isinstance") (fun xs H Q=>∃a ys,xs=[.ref a,.ty "tuple"]/\H a=some (.tup ys)/\Q (.bl true) H):=by
 intro pins s σ H xs us Q I r h;obtain⟨a,ys,rfl,ha,q⟩:=h;obtain⟨u,u',rfl,ru,ru'⟩:=vals2 r;cases ru';exact zb8 I ru (.tup ha) (by first | rfl | kernel_rfl | decide +kernel) fun tk=>⟨.bl true,H,I.tok _,rfl,q⟩
end
end L2
end
section
namespace K1
def sg (q:List Int):Int:=1 - 2*(1 - (q.length:Int) % 2)
theorem zgG {pss:List (List Int)}{q:List Int}:q∈canon pss ↔ q≠[]/\∃t∈pss,q.Sublist t:=by
 rw[zcZ,List.mem_flatMap];constructor
 ·rintro⟨t,ht,hq⟩
  exact⟨(zZ.mp hq).1,t,ht,(zZ.mp hq).2⟩
 ·rintro⟨h,t,ht,hq⟩
  exact⟨t,ht,zZ.mpr ⟨h,hq⟩⟩
end K1
end
section
namespace K1
abbrev hol (t p:List Int):Bool:=(p.map fun x=>decide (x∈t)).all id
section
variable {pss:List (List Int)}{p:List Int}
theorem zaB (hw:webM pss=true) {q:List Int} (h:q∈canon pss):zas q=true:=by
 obtain⟨t,ht,hx⟩:=List.mem_flatMap.mp (zcZ.mp h);exact zeZ ((zdO hw).2.1 t ht) hx
end
end K1
end
section
namespace K45
open K1
open PySem L2 STb
def badB (kn met:List (List Int)) (x:Pq):Bool:=!(decide (x.2∈kn) && decide (x.1∈rims x.2)) || (decide (x.1∈met) || decide (x.2∈met))
def zaj (kn:List (List Int)) (ps:List Pq) (i:Nat):Prop:=∀j y,j<i->ps[j]?=some y->badB kn (stds (ps.take j)) y=false
theorem zbp {kn met:List (List Int)}{x:Pq}:badB kn met x=false ↔ (x.2∈kn/\x.1∈rims x.2)/\x.1∉met/\x.2∉met:=by
 unfold badB;rw[Bool.or_eq_false_iff,Bool.or_eq_false_iff,Bool.not_eq_false',Bool.and_eq_true,decide_eq_true_eq,decide_eq_true_eq,decide_eq_false_iff_not,decide_eq_false_iff_not]
theorem zkj {r p:List Int} (h:r∈rims p):r≠p:=fun e=>by
 obtain⟨_,k,hk,er⟩:=zeI.mp h;have:=(zgJ hk er).2;rw[e] at this;omega
theorem zdY {kn:List (List Int)}{ps:List Pq}:∀i,i<=ps.length->zaj kn ps i->(∀x∈ps.take i,x.2∈kn/\x.1∈rims x.2)/\(stds (ps.take i)).Nodup
 | 0,_,_=>by simp[stds]
 | i+1,hi,g=>by
  obtain⟨h1,h2⟩:=zdY i (by omega) fun j y hj e=>g j y (by omega) e;have e:ps[i]?=some ps[i]:=List.getElem?_eq_getElem (by omega);obtain⟨b1,b2,b3⟩:=zbp.mp (g i _ (by omega) e);rw[take_snoc e,za9,zbC,List.nodup_append];refine⟨fun x hx=>?_,h2,by simpa using zkj b1.2,fun y hy z hz e'=>?_⟩
  ·rcases List.mem_append.mp hx with h | h
   ·exact h1 x h
   ·rw[List.mem_singleton.mp h]; exact b1
  ·subst e'
   have:y=ps[i].1 \/ y=ps[i].2:=by simpa using hz
   rcases this with rfl | rfl
   ·exact b2 hy
   ·exact b3 hy
section
variable {P:Program}{w:World}{K:PySem.W.Frag}{mg:Str->Option Value}{base:Heap}
def zcX (K:PySem.W.Frag):Sp:=fun vs H Q _=>∃l t as kn x,vs=[.ref l,.ref t]/\SqL K H l (as.map V.ref)/\Tps H as kn/\Pr2 H t x/\(x.2∈kn->x.2.length<=5)/\∀H',Same H H'->Q (.bl (decide (x.2∈kn) && decide (x.1∈rims x.2))) H'
theorem zeY {f fr:Addr}{fd fdr:FuncData} (F:Fun K "is_pair" "is_pair" zaS f fd) (B:Bt mg)
  (Fr:Fun K "rims_of" "rims_of" zcD fr fdr) (br:Binds K fdr ["piece"] []) (mr:mg "rims_of"=some (.ref fr)):FnOk P w K mg base CX0 2 f fd ["every","pair"] (zcX K):=by
 have Gr:FnOk P w K mg base CX0 1 fr fdr ["piece"] zbu:=zgD Fr B;refine F.ok zhm (fun vs H Q E h=>?_) (fun cdv A outer s H vs Q E hr h=>?_)
 ·obtain⟨l,t,as,kn,x,rfl,_⟩:=h; rfl
 ·obtain⟨l,t,as,kn,x,rfl,hl,hk,⟨a,b,ht,ha,hb⟩,h5,k⟩:=h
  have hu64:=hr.units;refine⟨_,zh (zp (zhX (zbg (r:=rInT false K) (zc9 (in1_units hu64)) (zx zB (pv 1) zi (fun _ _=>rfl)) (pv 0) (by with_unfolding_all rfl))
   (zhY (zbg (r:=rInT false K) (zc9 (in1_units hu64)) (zx zB (pv 1) zi (fun _ _=>rfl)) (zl Gr hr rfl mr Fr.kp br .nil pass0 (zc (zx zB (pv 1) zi (fun _ _=>rfl)) zd)) (by with_unfolding_all rfl))))),?_⟩
  refine⟨_,rfl,t,_,_,_,rfl,rfl,SqT.of ht,zq (j:=1) rfl,_,rfl,b,l,x.2,as,kn,rfl,rfl,hb,hl,hk,?_⟩;rw[if_neg (by decide)]
  by_cases h1:x.2∈kn
  ·rw[decide_eq_true h1] at k ⊢
   refine⟨_,rfl,iteT ⟨_,rfl,t,_,_,_,rfl,rfl,SqT.of ht,zq (j:=0) rfl,_,rfl,t,_,_,_,rfl,rfl,SqT.of ht,zq (j:=1) rfl,b,x.2,rfl,hb,h5 h1,fun RL H1 rs s1 _ hR hr1=>⟨a,RL,x.1,rs,rims x.2,rfl,rfl,s1.tp ha,SqL.of hR,hr1,?_⟩⟩⟩;rw[if_neg (by decide)];exact k H1 s1
  ·rw[decide_eq_false h1] at k ⊢
   exact⟨_,rfl,iteF (k H (Same.refl _))⟩
def zfO (K:PySem.W.Frag):Sp:=fun vs H Q _=>∃l m as kn ts ps,vs=[.ref l,.ref m]/\SqL K H l (as.map V.ref)/\Tps H as kn/\SqL K H m (ts.map V.ref)/\Prs2 H ts ps/\(∀p∈kn,p.length<=5)/\ps.length<=1000/\
 (∀i x H',ps[i]?=some x->badB kn (stds (ps.take i)) x=true->zaj kn ps i->Same H H'->Q (.int i) H')/\∀H',zaj kn ps ps.length->Same H H'->Q .non H'
theorem zgK {f fp:Addr}{fd fdp:FuncData} (F:Fun K "first_bad" "first_bad" zdA f fd) (B:Bt mg) (yany:mg "any"=none) (bany:bootBuiltins "any"=some (.builtin "any"))
  (Fp:Fun K "is_pair" "is_pair" zaS fp fdp) (bp:Binds K fdp ["every","pair"] []) (mp:mg "is_pair"=some (.ref fp)) (Gp:FnOk P w K mg base CX0 2 fp fdp ["every","pair"] (zcX K)):FnOk P w K mg base CX0 3 f fd ["every","pairs"] (zfO K):=by
 refine F.ok zc8 (fun vs H Q E h=>?_) (fun cdv A outer s H vs Q E hr h=>?_)
 ·obtain⟨l,m,as,kn,ts,ps,rfl,_⟩:=h; rfl
 ·obtain⟨l,m,as,kn,ts,ps,rfl,hl,hk,hm,ht,h5,hz,kb,k⟩:=h
  have hu:=ze6 hr;refine⟨_,ze (zt (i:=2) zc8.nd rfl (Or.inr rfl) zaY)
   (ze (zX PassesOwn.never rfl (zdX rfl B.enumerate zaR (zc (pv 1) zd)) (zeQ rfl (zai (zr (i:=3) zc8.nd rfl (Or.inl rfl)) (zai (zr (i:=4) zc8.nd rfl (Or.inl rfl)) zcv)))
    (ze (zR (PW.pt (zbo (zb1 (zbP (zl Gp hr rfl mp Fp.kp bp .nil pass0 (zc (pv 0) (zc (pv 4) zd))))) (zaP (zbP (zo (zg8 rfl) rfl yany bany (zc (zE nmB ["piece","stands"] [none,some 2] (zdq (pv 4)) (fun cl C s₀ H₀ ex=>zr (i:=0) (ndN ["piece","stands"]) rfl (Or.inl rfl)) (fun cl C s₀ H₀ ex=>zak)
     (fun cl C s₀ H₀ ex=>zkd (zhW hu (pv 0) (pv 1)) (by with_unfolding_all rfl)) (hfr:=frOf (zf zdA) (by decide +kernel)) (te:=tDIn (tVar 0) (tVar 1))) zd)))))) (zh (zp (pv 3))) zw)
    (zh (zX PassesOwn.never rfl (zdq (pv 4)) (zr (i:=5) zc8.nd rfl (Or.inl rfl)) (zh (zbd hu (pv 2) (pv 5) zaL rfl))))))
   (zh (zp zeF))),?_⟩
  intro d hd;have htl:=ht.length;have s1:=Same.new (o:=.dT []) hd;refine⟨_,rfl,m,rfl,⟨_,s1.seq hm⟩,zcu (K:=K) (a:=m) (xs:=ts.map V.ref) (fun i σ H2=>∃(v3 v4 v5:Option V),σ=[some (.ref l),some (.ref m),some (.ref d),v3,v4,v5]/\Same H H2/\H2 d=some (.dT (kvM (stds (ps.take i))))/\zaj kn ps i)
   ⟨none,none,none,rfl,s1,upd_same,fun j y hj _=>absurd hj (by omega)⟩ (fun i σ H2 _ ⟨_,_,_,_,sm,_⟩=>sm.seq hm) ?_ ?_⟩
  ·rintro i x p σ H2 hx ⟨v3,v4,v5,rfl,sm,hd2,gd⟩ hp
   obtain⟨t,et,rfl⟩:=z0 hx;obtain⟨y,ey,hy⟩:=ht.get et;have sp:=Same.new (o:=.tup [.int i,.ref t]) hp;have s3:=sm.trans sp;have hi:i<ps.length:=(List.getElem?_eq_some_iff.mp ey).1;refine⟨p,_,rfl,SqT.of upd_same,rfl,_,_,rfl,_,_,rfl,rfl,?_⟩;refine⟨_,rfl,_,rfl,l,t,as,kn,y,rfl,s3.seq hl,s3.tps hk,hy.same s3,fun h=>h5 _ h,fun H4 s4=>⟨_,rfl,?_⟩⟩;have s04:=s3.trans s4;cases hpb:(decide (y.2∈kn) && decide (y.1∈rims y.2)) with
   | false=>exact iteT ⟨_,rfl,kb i y H4 ey (by unfold badB; rw[hpb]; rfl) gd s04⟩
   | true=>
   have hd4:=(sp.trans s4) _ _ hd2;have hy4:=hy.same s04;obtain⟨a4,b4,et4,ha4,hb4⟩:=id hy4;refine iteF ⟨_,rfl,t,rfl,⟨_,SqT.of et4⟩,fun D hD=>zN (zfL hy4 hd4 hD fun H5 s5 h5'=>⟨D,_,rfl,SqL.of h5',_,rfl,?_⟩)⟩;have s05:=s04.trans s5;cases hst:([decide (y.1∈stds (ps.take i)),decide (y.2∈stds (ps.take i))].any id) with
   | true=>
    refine iteT ⟨_,rfl,kb i y H5 ey ?_ gd s05⟩;have:(decide (y.1∈stds (ps.take i)) || decide (y.2∈stds (ps.take i)))=true:=by simpa using hst
    unfold badB;rw[this,Bool.or_true]
   | false=>
   have hno:(decide (y.1∈stds (ps.take i)) || decide (y.2∈stds (ps.take i)))=false:=by simpa using hst
   have hsl:(stds (ps.take i)).length<=2*i:=by
    have:∀l:List Pq,(stds l).length=2*l.length:=fun l=>by
     induction l with
     | nil=>rfl
     | cons a r ih=>rw[show stds (a::r)=[a.1,a.2]++stds r from rfl,List.length_append,ih]; simp; omega
    rw[this,List.length_take]; omega
   refine iteF ⟨_,rfl,t,rfl,⟨_,SqT.of (s5 _ _ et4)⟩,zd1 (K:=K) (a:=t) (xs:=[.ref a4,.ref b4]) (fun j σ H6=>∃(v5:Option V),σ=[some (.ref l),some (.ref m),some (.ref d),some (.int i),some (.ref t),v5]/\Same H H6/\H6 t=some (.tup [.ref a4,.ref b4])/\Tp H6 a4 y.1/\Tp H6 b4 y.2/\H6 d=some (.dT (kvM (stds (ps.take i)++[y.1,y.2].take j))))
    ⟨_,rfl,s05,s5 _ _ et4,s5.tp ha4,s5.tp hb4,by rw[List.take_zero,List.append_nil]; exact s5 _ _ hd4⟩ (fun j σ H6 _ ⟨_,_,_,h,_⟩=>SqT.of h) ?_ ?_⟩
   ·rintro j v σ H6 hv ⟨v5',rfl,s6,et6,ha6,hb6,hd6⟩
    have hj2:j=0 \/ j=1:=by have:=(List.getElem?_eq_some_iff.mp hv).1; simp at this; omega
    have tk:∀{c:Addr} {xs:List V} {o:HO},H6 c=some (.tup xs)->upd H6 d o c=some (.tup xs):=fun {c xs o} e=>by
     rw[upd_ne (fun z=>by subst z; rw[hd6] at e; cases e)]; exact e
    rcases hj2 with rfl | rfl
    ·have e:V.ref a4=v:=by simpa using hv
     subst e;refine⟨_,rfl,_,rfl,d,_,rfl,DPut.t (k:=y.1.map Sum.inl) hd6 (by rw[List.map_map]; exact ha6) (zJ (Nat.le_trans (zbX _) (by simp; omega))),⟨_,rfl,s6.then hd,tk et6,tk ha6,tk hb6,?_⟩⟩;rw[upd_same,zbN,List.append_assoc]; rfl
    ·have e:V.ref b4=v:=by simpa using hv
     subst e;refine⟨_,rfl,_,rfl,d,_,rfl,DPut.t (k:=y.2.map Sum.inl) hd6 (by rw[List.map_map]; exact hb6) (zJ (Nat.le_trans (zbX _) (by simp; omega))),⟨_,rfl,s6.then hd,tk et6,tk ha6,tk hb6,?_⟩⟩;rw[upd_same,zbN,List.append_assoc]; rfl
   ·rintro σ H6 ⟨v5',rfl,s6,et6,ha6,hb6,hd6⟩
    refine⟨_,_,_,rfl,s6,?_,fun j z hj ez=>?_⟩
    ·rw[take_snoc ey,za9,zbC]
     exact hd6
    ·by_cases hji:j=i
     ·subst hji
      rw[ey] at ez;cases ez;unfold badB;rw[hpb,hno]; rfl
     ·exact gd j z (by omega) ez
  ·rintro σ H2 ⟨v3,v4,v5,rfl,sm,hd2,gd⟩
   rw[List.length_map,htl] at gd;exact k H2 gd sm
def zf0 (K:PySem.W.Frag):Sp:=fun vs H Q _=>∃m ts ps,vs=[.ref m]/\SqL K H m (ts.map V.ref)/\Prs2 H ts ps/\(∀x∈ps,x.2.length<=5)/\(ps.map (·.1)).Nodup/\ps.length<=1000/\
 (∀D H',Acy ps->Same H H'->H' D=some (.lst [])->Q (.ref D) H')/\∀D H' us cs,Same H H'->H D=none->H' D=some (.lst (List.map V.ref us))->Prs2 H' us cs->Rnd cs->cs.Nodup->(∀x∈cs,x∈ps)->Q (.ref D) H'
theorem zee:zv ["pairs","seconds","pair","found"] ["pairs"] (zf zdW):=⟨rfl,rfl,rfl,by decide +kernel,rfl,by decide +kernel,by decide +kernel⟩
theorem zgR {f fr:Addr}{fd fdr:FuncData} (F:Fun K "first_round" "first_round" zdW f fd) (B:Bt mg)
  (Fr:Fun K "round_with" "round_with" sRW fr fdr) (br:Binds K fdr ["seconds","new"] []) (mr:mg "round_with"=some (.ref fr)) (Gr:FnOk P w K mg base CX0 3 fr fdr ["seconds","new"] spRW):FnOk P w K mg base CX0 4 f fd ["pairs"] (zf0 K):=by
 refine F.ok zee (fun vs H Q E h=>?_) (fun cdv A outer s H vs Q E hr h=>?_)
 ·obtain⟨m,ts,ps,rfl,_⟩:=h; rfl
 ·obtain⟨m,ts,ps,rfl,hm,ht,h5,hnd,hz,k,kr⟩:=h
  have hu:=ze6 hr;refine⟨_,ze (zt (i:=1) zee.nd rfl (Or.inl rfl) zaY)
   (ze (zX PassesOwn.never rfl (zH (pv 0)) (zr (i:=2) zee.nd rfl (Or.inl rfl))
    (ze (zt (i:=3) zee.nd rfl (Or.inl rfl) (zl Gr hr rfl mr Fr.kp br .nil pass0 (zc (pv 1) (zc (pv 2) zd))))
    (ze (zR (zn ze9 (zo zk rfl B.len zab (zc (pv 3) zd)) zi (nomark _)) (zh (zp (pv 3))) zw)
    (zh (zbd hu (pv 1) (zx zB (pv 2) zi (fun _ _=>rfl)) (zx zB (pv 2) zi (fun _ _=>rfl)) rfl)))))
   (zh (zp (zz zd)))),?_⟩
  intro d hd;have s1:=Same.new (o:=.dT []) hd;have htl:=ht.length;refine⟨_,rfl,m,rfl,⟨_,s1.seq hm⟩,zah (K:=K) (a:=m) (xs:=ts.map V.ref) (fun i σ H2=>∃(v2 v3:Option V),σ=[some (.ref m),some (.ref d),v2,v3]/\Same H H2/\Sec H2 d (ps.take i)/\Acy (ps.take i))
   ⟨none,none,rfl,s1,⟨[],upd_same,.nil⟩,zgj⟩ (fun i σ H2 _ ⟨_,_,_,sm,_⟩=>sm.seq hm) ?_ ?_⟩
  ·rintro i x σ H2 hx ⟨v2,v3,rfl,sm,hsec,hac⟩
   obtain⟨t,et,rfl⟩:=z0 hx;obtain⟨y,ey,hy⟩:=ht.get et;have hym:y∈ps:=List.mem_of_getElem? ey;have hnt:((ps.take (i+1)).map (·.1)).Nodup:=hnd.sublist ((List.take_sublist _ _).map _);rw[take_snoc ey,List.map_append,List.nodup_append] at hnt;have hyn:y.1∉(ps.take i).map (·.1):=fun h=>hnt.2.2 _ h y.1 (by simp) rfl;refine⟨_,rfl,_,rfl,d,t,ps.take i,y,rfl,hsec,hy.same sm,hnt.1,hyn,fun x hx=>h5 x (List.mem_of_mem_take hx),h5 y hym,by rw[List.length_take]; omega,hac,fun D H3 s3 hD0 hD hac'=>?_,fun D H3 us cs s3 hD0 hD hu hrn hcn hcs=>?_⟩
   ·refine⟨_,rfl,D,[],rfl,.inl (SqL.of hD),_,_,rfl,rfl,_,rfl,iteF ?_⟩
    obtain⟨a,b,e,ha,hb⟩:=hy.same (sm.trans s3);obtain⟨kvs,ek,hk⟩:=hsec.same s3;obtain⟨kvs',e1,e2,e3⟩:=zi0 hk hyn hb;have hkl:=Paired.length hk;refine⟨_,rfl,t,_,_,_,rfl,rfl,SqT.of e,zq (j:=1) rfl,_,rfl,_,rfl,t,_,_,_,rfl,rfl,SqT.of e,zq (j:=0) rfl,d,_,rfl,DPut.t (k:=y.1.map Sum.inl) ek (by rw[List.map_map]; exact ha) (zJ (by rw[hkl,List.length_take]; omega)),⟨_,_,rfl,(sm.trans s3).then hd,?_,by rw[take_snoc ey]; exact hac'⟩⟩;rw[e1,take_snoc ey];exact⟨kvs',upd_same,Paired.mapP e2 fun kv x ⟨h1,b,h2,h3⟩=>⟨h1,b,h2,by
     show upd H3 d _ b=_;rw[upd_ne (fun z=>by subst z; have h4:H3 b=some _:=h3; rw[ek] at h4; cases h4)]; exact h3⟩⟩
   ·have hul:=hu.length
    have hcp:=List.length_pos_iff.mpr hrn.1;refine⟨_,rfl,D,_,rfl,.inl (SqL.of hD),_,_,rfl,rfl,_,rfl,?_⟩;rw[List.length_map,hul,decide_eq_true (show (0:Int)<((cs.length:Nat):Int) by omega)];refine iteT ⟨_,rfl,kr D H3 us cs (sm.trans s3) (sm.free hD0) hD hu hrn hcn fun x hx=>?_⟩;have:=hcs x hx;rw[<- take_snoc ey] at this;exact List.mem_of_mem_take this
  ·rintro σ H2 ⟨v2,v3,rfl,sm,hsec,hac⟩
   rw[List.length_map,htl,take_all] at hac;exact⟨zg (by simp),fun D hD=>k D _ hac (sm.then (sm.free hD)) upd_same⟩
def zcY (K:PySem.W.Frag):Sp:=fun vs H Q _=>∃l m as pss ts ps,vs=[.ref l,.ref m]/\SqL K H l (as.map V.ref)/\Tps H as pss/\webS pss/\SqL K H m (ts.map V.ref)/\Prs2 H ts ps/\ps.length<=1000/\
 (∀D H',PG (canon pss) ps->Same H H'->H' D=some (.tup [.str "pairing"])->Q (.ref D) H')/\
 (∀i x D H',ps[i]?=some x->badB (canon pss) (stds (ps.take i)) x=true->zaj (canon pss) ps i->Same H H'->H' D=some (.tup [.str "bad",.int i])->Q (.ref D) H')/\
 ∀D R H' us cs,zaj (canon pss) ps ps.length->Same H H'->H R=none->H' D=some (.tup [.str "round",.ref R])->H' R=some (.lst (List.map V.ref us))->Prs2 H' us cs->Rnd cs->cs.Nodup->(∀x∈cs,x∈ps)->Q (.ref D) H'
theorem zcB:zv ["web","pairs","bad","found"] ["web","pairs"] (zf zaQ):=⟨rfl,rfl,rfl,by decide +kernel,rfl,by decide +kernel,by decide +kernel⟩
theorem zeU {f fb fr fp:Addr}{fd fdb fdr fdp:FuncData} (F:Fun K "judged" "judged" zaQ f fd) (B:Bt mg)
  (Fb:Fun K "first_bad" "first_bad" zdA fb fdb) (bb:Binds K fdb ["every","pairs"] []) (mb:mg "first_bad"=some (.ref fb)) (Gb:FnOk P w K mg base CX0 3 fb fdb ["every","pairs"] (zfO K))
  (Fr:Fun K "first_round" "first_round" zdW fr fdr) (br:Binds K fdr ["pairs"] []) (mr:mg "first_round"=some (.ref fr)) (Gr:FnOk P w K mg base CX0 4 fr fdr ["pairs"] (zf0 K))
  (Fp:Fun K "pieces" "pieces" zaW fp fdp) (bp:Binds K fdp ["web"] []) (mp:mg "pieces"=some (.ref fp)) (Gp:FnOk P w K mg base CX0 8 fp fdp ["web"] (zej K)):FnOk P w K mg base CX0 9 f fd ["web","pairs"] (zcY K):=by
 refine F.ok zcB (fun vs H Q E h=>?_) (fun cdv A outer s H vs Q E hr h=>?_)
 ·obtain⟨l,m,as,pss,ts,ps,rfl,_⟩:=h; rfl
 ·obtain⟨l,m,as,pss,ts,ps,rfl,hl,ha,hw,hm,ht,hz,k,kb,kr⟩:=h
  have hr3:Room 3 _:=hr.mono (by decide);have hr4:Room 4 _:=hr.mono (by decide);refine⟨_,ze (zt (i:=2) zcB.nd rfl (Or.inl rfl) (zl Gb hr3 rfl mb Fb.kp bb .nil pass0 (zc (zl Gp hr rfl mp Fp.kp bp .nil pass0 (zc (pv 0) zd)) (zc (pv 1) zd))))
   (ze (zR (zn zgd (pv 2) zeF (nomark _)) (zh (zp (zaa (zc zD (zc (pv 2) zd))))) zw)
   (ze (zt (i:=3) zcB.nd rfl (Or.inl rfl) (zl Gr hr4 rfl mr Fr.kp br .nil pass0 (zc (pv 1) zd)))
   (ze (zR (zn ze9 (zo zk rfl B.len zab (zc (pv 3) zd)) zi (nomark _)) (zh (zp (zaa (zc zD (zc (pv 3) zd))))) zw)
   (zh (zp (zaa (zc zD zd))))))),?_⟩
  have c5:∀p∈canon pss,p.length<=5:=fun p hp=>(zad.mp (zaB hw.1 hp)).2.1;refine⟨_,rfl,l,as,pss,rfl,hl,ha,hw,fun KN H1 ks s1 _ hK1 hk1=>?_⟩;refine⟨_,rfl,KN,m,ks,canon pss,ts,ps,rfl,SqL.of hK1,hk1,s1.seq hm,ht.same s1,c5,hz,fun i x H2 ex hb hg s2=>?_,fun H2 hg s2=>?_⟩
  ·have s12:=s1.trans s2
   refine⟨_,rfl,rfl,_,rfl,iteT ⟨_,rfl,zg (by simp),fun T hT=>kb i x T _ ex hb hg (s12.then (s12.free hT)) upd_same⟩⟩
  ·have s12:=s1.trans s2
   obtain⟨hh,hnd⟩:=zdY ps.length (Nat.le_refl _) hg;rw[take_all] at hh hnd;have h5:∀x∈ps,x.2.length<=5:=fun x hx=>c5 _ (hh x hx).1;refine⟨_,rfl,rfl,_,rfl,iteF ⟨_,rfl,m,ts,ps,rfl,s12.seq hm,ht.same s12,h5,zj4 hnd,hz,fun D H3 hac s3 hD=>?_,fun D H3 us cs s3 hD0 hD hu hrn hcn hcs=>?_⟩⟩
   ·refine⟨_,rfl,D,[],rfl,.inl (SqL.of hD),_,_,rfl,rfl,_,rfl,iteF ⟨zg (by simp),fun T hT=>k T _ ⟨hh,hnd,hac⟩ ((s12.trans s3).then ((s12.trans s3).free hT)) upd_same⟩⟩
   ·have hul:=hu.length
    have hcp:=List.length_pos_iff.mpr hrn.1;refine⟨_,rfl,D,_,rfl,.inl (SqL.of hD),_,_,rfl,rfl,_,rfl,?_⟩;rw[List.length_map,hul,decide_eq_true (show (0:Int)<((cs.length:Nat):Int) by omega)];refine iteT ⟨_,rfl,zg (by simp),fun T hT=>?_⟩;have s4:=Same.new (o:=.tup [.str "round",.ref D]) hT;exact kr T D _ us cs hg ((s12.trans s3).trans s4) (s12.free hD0) upd_same (s4 _ _ hD) (hu.same s4) hrn hcn hcs
end
end K45
end
section
namespace K45
open K1
open PySem L2 STb
abbrev zd7:Stmt:=top 36
abbrev nmLB:List Str:=["known","pairs","met","k","pair"]
theorem zhp (l:List Pq):(stds l).length=2*l.length:=by
 induction l with
 | nil=>rfl
 | cons a r ih=>rw[show stds (a::r)=[a.1,a.2]++stds r from rfl,List.length_append,ih]; simp; omega
theorem zis {kn:List (List Int)}{ps:List Pq} (g:PG kn ps):∀i x,ps[i]?=some x->badB kn (stds (ps.take i)) x=false:=fun i x e=>by
 have hsplit:stds ps=stds (ps.take i)++([x.1,x.2]++stds (ps.drop (i+1))):=by
  rw[<- zbC,<- za9,<- za9]
  congr 1
  rw[<- List.append_assoc,<- take_snoc e,List.take_append_drop]
 have hnd:=g.nd;rw[hsplit,List.nodup_append] at hnd;exact zbp.mpr ⟨g.has x (List.mem_of_getElem? e),fun h=>hnd.2.2 _ h x.1 (by simp) rfl,fun h=>hnd.2.2 _ h x.2 (by simp) rfl⟩
section
variable {P:Program}{w:World}{K:PySem.W.Frag}{mg:Str->Option Value}{base:Heap}
def zfi (K:PySem.W.Frag):Sp:=fun vs H Q _=>∃l m as kn ts ps,vs=[.ref l,.ref m]/\SqL K H l (as.map V.ref)/\Tps H as kn/\SqL K H m (ts.map V.ref)/\Prs2 H ts ps/\(∀p∈kn,p.length<=5)/\(∀p∈kn,∀r∈rims p,r∈kn)/\ps.length<=1000/\
 (∀i x H',ps[i]?=some x->badB kn (stds (ps.take i)) x=true->zaj kn ps i->Same H H'->Q (.int i) H')/\∀H',zaj kn ps ps.length->Same H H'->Q .non H'
theorem zdl:zv nmLB ["known","pairs"] (zf zd7):=⟨rfl,rfl,rfl,by decide +kernel,rfl,by decide +kernel,by decide +kernel⟩
theorem zho {f fr:Addr}{fd fdr:FuncData} (F:Fun K "_law_bad" "_law_bad" zd7 f fd) (B:Bt mg)
  (Fr:Fun K "_law_rims" "_law_rims" zaO fr fdr) (br:Binds K fdr ["piece"] []) (mr:mg "_law_rims"=some (.ref fr)):FnOk P w K mg base CX0 2 f fd ["known","pairs"] (zfi K):=by
 have Gr:FnOk P w K mg base CX0 1 fr fdr ["piece"] zbu:=zcx Fr B;refine F.ok zdl (fun vs H Q E h=>?_) (fun cdv A outer s H vs Q E hr h=>?_)
 ·obtain⟨l,m,as,kn,ts,ps,rfl,_⟩:=h; rfl
 ·obtain⟨l,m,as,kn,ts,ps,rfl,hl,hk,hm,ht,h5,hcl,hz,kb,k⟩:=h
  have hu64:=hr.units;have hi1:=in1_units hu64;refine⟨_,ze (zt (i:=2) zdl.nd rfl (Or.inl rfl) (zz zd))
   (ze (zX PassesOwn.never rfl (zdX rfl B.enumerate zaR (zc (pv 1) zd)) (zeQ rfl (zai (zr (i:=3) zdl.nd rfl (Or.inl rfl)) (zai (zr (i:=4) zdl.nd rfl (Or.inl rfl)) zcv)))
    (ze (zR (PW.pt (zbo (zn (r:=rInT true K) (za7 hi1) (zx zB (pv 4) zi (fun _ _=>rfl)) (pv 0) (by with_unfolding_all rfl)) (zbo (zn (r:=rInT true K) (za7 hi1) (zx zB (pv 4) zi (fun _ _=>rfl)) (pv 0) (by with_unfolding_all rfl))
     (zaP (zn (r:=rInT true K) (za7 hi1) (zx zB (pv 4) zi (fun _ _=>rfl)) (zl Gr hr rfl mr Fr.kp br .nil pass0 (zc (zx zB (pv 4) zi (fun _ _=>rfl)) zd)) (by with_unfolding_all rfl)))))) (zh (zp (pv 3))) zw)
    (ze (zR (PW.pt (zbo (zn (r:=rInT false K) (zc9 hi1) (zx zB (pv 4) zi (fun _ _=>rfl)) (pv 2) (by with_unfolding_all rfl)) (zaP (zn (r:=rInT false K) (zc9 hi1) (zx zB (pv 4) zi (fun _ _=>rfl)) (pv 2) (by with_unfolding_all rfl))))) (zh (zp (pv 3))) zw)
    (zh (zt (i:=2) zdl.nd rfl (Or.inl rfl) (zC zbW (pv 2) (zz (zc (zx zB (pv 4) zi (fun _ _=>rfl)) (zc (zx zB (pv 4) zi (fun _ _=>rfl)) zd)))))))))
   (zh (zp zeF))),?_⟩
  have htl:=ht.length;refine⟨zg (by simp),fun M hM=>?_⟩;have s1:=Same.new (o:=.lst []) hM;refine⟨_,rfl,m,rfl,⟨_,s1.seq hm⟩,zcu (K:=K) (a:=m) (xs:=ts.map V.ref) (fun i σ H2=>∃(M:Addr) (ms:List Addr) (v3 v4:Option V),σ=[some (.ref l),some (.ref m),some (.ref M),v3,v4]/\Same H H2/\H2 M=some (.lst (ms.map V.ref))/\Tps H2 ms (stds (ps.take i))/\zaj kn ps i)
   ⟨M,[],none,none,rfl,s1,upd_same,.nil,fun j y hj _=>absurd hj (by omega)⟩ (fun i σ H2 _ ⟨_,_,_,_,_,sm,_⟩=>sm.seq hm) ?_ ?_⟩
  ·rintro i v p σ H2 hv ⟨M,ms,v3,v4,rfl,sm,hM2,hms,gd⟩ hp
   obtain⟨t,et,rfl⟩:=z0 hv;obtain⟨y,ey,hy⟩:=ht.get et;have hym:y∈ps:=List.mem_of_getElem? ey;have sp:=Same.new (o:=.tup [.int i,.ref t]) hp;have s3:=sm.trans sp;have hi:i<ps.length:=(List.getElem?_eq_some_iff.mp ey).1;obtain⟨a,b,e3,ha3,hb3⟩:=hy.same s3;have bd:∀H',badB kn (stds (ps.take i)) y=true->Same H H'->Q (.int i) H':=fun H' hb' s'=>kb i y H' ey hb' gd s';have np:¬ (y.2∈kn/\y.1∈rims y.2)->badB kn (stds (ps.take i)) y=true:=fun h=>by
    cases e:badB kn (stds (ps.take i)) y with
    | true=>rfl
    | false=>exact absurd (zbp.mp e).1 h
   have nm:(y.1∈stds (ps.take i) \/ y.2∈stds (ps.take i))->badB kn (stds (ps.take i)) y=true:=fun h=>by
    cases e:badB kn (stds (ps.take i)) y with
    | true=>rfl
    | false=>exact (h.elim (fun h=>(zbp.mp e).2.1 h) fun h=>(zbp.mp e).2.2 h).elim
   have hsl:(stds (ps.take i)).length<=2*i:=by rw[zhp,List.length_take]; omega
   have hml:=hms.length;refine⟨p,_,rfl,SqT.of upd_same,rfl,_,_,rfl,_,_,rfl,rfl,?_⟩;refine⟨_,rfl,t,_,_,_,rfl,rfl,SqT.of e3,zq (j:=0) rfl,_,rfl,a,l,y.1,as,kn,rfl,rfl,ha3,s3.seq hl,s3.tps hk,_,rfl,?_⟩;rw[if_pos rfl]
   by_cases k1:y.1∈kn
   case neg=>
    rw[decide_eq_false k1];exact iteT ⟨_,rfl,bd _ (np fun h=>k1 (hcl y.2 h.1 y.1 h.2)) s3⟩
   rw[decide_eq_true k1];refine iteF ⟨_,rfl,t,_,_,_,rfl,rfl,SqT.of e3,zq (j:=1) rfl,_,rfl,b,l,y.2,as,kn,rfl,rfl,hb3,s3.seq hl,s3.tps hk,_,rfl,?_⟩;rw[if_pos rfl]
   by_cases k2:y.2∈kn
   case neg=>
    rw[decide_eq_false k2];exact iteT ⟨_,rfl,bd _ (np fun h=>k2 h.1) s3⟩
   rw[decide_eq_true k2];refine iteF ⟨_,rfl,t,_,_,_,rfl,rfl,SqT.of e3,zq (j:=0) rfl,_,rfl,t,_,_,_,rfl,rfl,SqT.of e3,zq (j:=1) rfl,b,y.2,rfl,hb3,h5 _ k2,fun RL H4 rs s4 _ hR4 hr4=>⟨a,RL,y.1,rs,rims y.2,rfl,rfl,s4.tp ha3,SqL.of hR4,hr4,_,rfl,?_⟩⟩;rw[if_pos rfl]
   by_cases k3:y.1∈rims y.2
   case neg=>
    rw[decide_eq_false k3];exact iteT ⟨_,rfl,bd _ (np fun h=>k3 h.2) (s3.trans s4)⟩
   rw[decide_eq_true k3];have sp4:=sp.trans s4;refine iteF ⟨_,rfl,t,_,_,_,rfl,rfl,SqT.of (s4 _ _ e3),zq (j:=0) rfl,_,rfl,a,M,y.1,ms,_,rfl,rfl,s4.tp ha3,SqL.of (sp4 _ _ hM2),sp4.tps hms,_,rfl,?_⟩;rw[if_neg (by decide)]
   by_cases hn1:y.1∈stds (ps.take i)
   ·rw[decide_eq_true hn1]
    exact iteT ⟨_,rfl,bd _ (nm (.inl hn1)) (s3.trans s4)⟩
   rw[decide_eq_false hn1];refine iteF ⟨_,rfl,t,_,_,_,rfl,rfl,SqT.of (s4 _ _ e3),zq (j:=1) rfl,_,rfl,b,M,y.2,ms,_,rfl,rfl,s4.tp hb3,SqL.of (sp4 _ _ hM2),sp4.tps hms,_,rfl,?_⟩;rw[if_neg (by decide)]
   by_cases hn2:y.2∈stds (ps.take i)
   ·rw[decide_eq_true hn2]
    exact iteT ⟨_,rfl,bd _ (nm (.inr hn2)) (s3.trans s4)⟩
   rw[decide_eq_false hn2];refine iteF ⟨_,rfl,_,rfl,t,_,_,_,rfl,rfl,SqT.of (s4 _ _ e3),zq (j:=0) rfl,_,rfl,t,_,_,_,rfl,rfl,SqT.of (s4 _ _ e3),zq (j:=1) rfl,zg (by simp),fun L1 hL1=>?_⟩;have u1:=Same.new (o:=.lst [.ref a,.ref b]) hL1;refine⟨M,L1,_,_,rfl,rfl,u1 _ _ (sp4 _ _ hM2),upd_same,zg (by rw[List.length_map]; simp; omega),fun M2 hM3=>?_⟩;have u2:=Same.new (o:=.lst (ms.map V.ref++[.ref a,.ref b])) hM3;have u:=u1.trans u2;refine⟨M2,ms++[a,b],_,_,rfl,(s3.trans s4).trans u,by rw[upd_same,List.map_append]; rfl,?_,fun j z hj ez=>?_⟩
   rotate_left
   ·by_cases hji:j=i
    ·subst hji
     rw[ey] at ez;cases ez;exact zbp.mpr ⟨⟨k2,k3⟩,hn1,hn2⟩
    ·exact gd j z (by omega) ez
   rw[take_snoc ey,za9,zbC];exact Tps.append (u.tps (sp4.tps hms)) (.cons (u.tp (s4.tp ha3)) (.cons (u.tp (s4.tp hb3)) .nil))
  ·rintro σ H2 ⟨M,ms,v3,v4,rfl,sm,hM2,hms,gd⟩
   rw[List.length_map,htl] at gd;exact k H2 gd sm
end
end K45
end
section
namespace K45
open K1
open PySem L2 STb
abbrev za6:Stmt:=top 37
abbrev sInR:Stmt:=top 38
abbrev tOne (K:PySem.W.Frag) (i:Nat) (j:Int):TE:=tOp (rIxT K) (tVar i) (tC (.int j))
abbrev tStp (K:PySem.W.Frag):TT:=tAnd (zb5 (tOp (rEqT true K) (tOne K 0 0) (tOne K 1 0))) (zb5 (tOp (rInT false K) (tOne K 0 0) (ziA zbu [] E0 (zU (tOne K 1 1) tNil))))
section
variable {P:Program}{w:World}{K:PySem.W.Frag}{mg:Str->Option Value}{base:Heap}
theorem zbV {H2:Hp}{L D:Addr}{as:List Addr}{kn:List Pq}{Q:VK}{p:Pq->Bool}{tc:TT}{c:List (Option V)} (htc:∀(o:Addr) (os:Pq) (H:Hp) (R:Bool->Hp->Prop),Same H2 H->Pr2 H o os->os∈kn->(∀H',Same H H'->R (p os) H')->tc (some (.ref o)::c) H R)
  (hl:SqL K H2 L (as.map V.ref)) (ht:Prs2 H2 as kn) (hz:kn.length<=1000) (hD:H2 D=none) (k:∀H3 bs,Same H2 H3->H3 D=some (.lst (bs.map V.ref))->Prs2 H3 bs (kn.filter p)->Q (.ref D) H3) :
  zap (Itl K L) (zaA 0) tc (tVar 0) (none::c) H2 D Q:=by
 have hla:=ht.length;refine zaf (xs:=as.map V.ref) (fun j σ ys H3=>∃(v:Option V) (bs:List Addr),σ=v::c/\Same H2 H3/\H3 D=some (.lst ys)/\ys=bs.map V.ref/\Prs2 H3 bs ((kn.take j).filter p)) ?_ ?_ ?_ ?_
 ·exact⟨none,[],rfl,Same.new hD,upd_same,rfl,.nil⟩
 ·rintro j σ ys H3 ⟨v,bs,rfl,sm,hD3,rfl,_⟩
  exact sm.seq hl
 ·rintro j σ ys H3 x hx hj hy ⟨v,bs,rfl,sm,hD3,rfl,hb⟩
  obtain⟨o,eo,rfl⟩:=z0 hx;obtain⟨os,eos,ho⟩:=ht.get eo;have hn:(as.map V.ref).length<=sizeLine:=by rw[List.length_map]; exact zg (by omega)
  refine htc o os H3 _ sm (ho.same sm) (List.mem_of_getElem? eos) fun H4 sm4=>?_;cases hp:p os
  ·refine iteF (cskip hj hy ⟨_,bs,rfl,sm.trans sm4,sm4 _ _ hD3,rfl,?_⟩)
   rw[take_snoc eos,List.filter_append,List.filter_cons_of_neg (by rw[hp]; simp),List.filter_nil,List.append_nil];exact hb.same sm4
  ·refine iteT ⟨_,rfl,cput hn hj hy (sm4 _ _ hD3) ⟨_,bs++[o],rfl,(sm.trans sm4).then hD,upd_same,by rw[List.map_append]; rfl,?_⟩⟩
   rw[take_snoc eos,List.filter_append,List.filter_cons_of_pos hp];exact Prs2.upd (Prs2.add (hb.same sm4) (ho.same (sm.trans sm4))) (sm4 _ _ hD3) (by intro xs z; cases z)
 ·rintro σ ys H3 ⟨v,bs,rfl,sm,hD3,rfl,hb⟩
  rw[List.length_map,hla,List.take_of_length_le (Nat.le_refl _)] at hb;exact k H3 bs sm hD3 hb
def zcW (K:PySem.W.Frag):Sp:=fun vs H Q _=>∃t m ts ps x,vs=[.ref t,.ref m]/\Pr2 H t x/\x.2.length<=5/\SqL K H m (ts.map V.ref)/\Prs2 H ts ps/\ps.length<=1000/\∀D H' us,Same H H'->H' D=some (.lst (List.map V.ref us))->Prs2 H' us (ps.filter (stp x))->Q (.ref D) H'
theorem zjh:zv ["pair","pairs"] ["pair","pairs"] (zf za6):=⟨rfl,rfl,rfl,by decide +kernel,rfl,by decide +kernel,by decide +kernel⟩
theorem zg5 {f fr:Addr}{fd fdr:FuncData} (F:Fun K "_law_steps" "_law_steps" za6 f fd) (B:Bt mg)
  (Fr:Fun K "_law_rims" "_law_rims" zaO fr fdr) (br:Binds K fdr ["piece"] []) (mr:mg "_law_rims"=some (.ref fr)):FnOk P w K mg base CX0 2 f fd ["pair","pairs"] (zcW K):=by
 have Gr:FnOk P w K mg base CX0 1 fr fdr ["piece"] zbu:=zcx Fr B;refine F.ok zjh (fun vs H Q E h=>?_) (fun cdv A outer s H vs Q E hr h=>?_)
 ·obtain⟨t,m,ts,ps,x,rfl,_⟩:=h; rfl
 ·obtain⟨t,m,ts,ps,x,rfl,⟨a,b,et,ha,hb⟩,h5,hm,ht,hz,k⟩:=h
  have hu64:=hr.units;refine⟨_,zh (zp (zE ["pair","pairs"] ["one","pair"] [none,some 0] (zH (pv 1)) (fun cl C s₀ H₀ ex=>zr (i:=0) (ndN ["one","pair"]) rfl (Or.inl rfl))
   (fun cl C s₀ H₀ ex=>zbm (PW.pt (zhV (zn (zc1 hu64) (zx zB (pv 0) zi (fun _ _=>rfl)) (zx zB (pv 1) zi (fun _ _=>rfl)) (nomark _)) (zfk (zn (r:=rInT false K) (zc9 (in1_units hu64)) (zx zB (pv 0) zi (fun _ _=>rfl)) (zl Gr hr rfl mr Fr.kp br .nil pass0 (zc (zx zB (pv 1) zi (fun _ _=>rfl)) zd)) (by with_unfolding_all rfl))))))
   (fun cl C s₀ H₀ ex=>pv 0) (hfr:=frOf (zf za6) (by decide +kernel)) (tc:=tStp K))),?_⟩
  refine⟨_,rfl,m,rfl,⟨_,hm⟩,fun D hD=>?_⟩;refine zN (zbV (p:=stp x) (fun o os H' R sm ho _ hR=>?_) hm ht hz hD fun H3 us s3 hD3 hu3=>k D H3 us s3 hD3 hu3);obtain⟨oa,ob,eo,hoa,hob⟩:=ho;refine⟨_,rfl,o,_,_,_,rfl,rfl,SqT.of eo,zq (j:=0) rfl,_,rfl,t,_,_,_,rfl,rfl,SqT.of (sm _ _ et),zq (j:=0) rfl,.inl ⟨oa,a,os.1,x.1,rfl,rfl,hoa,sm.tp ha,_,rfl,?_⟩⟩;rw[if_pos rfl];have e:∀b1 b2:Bool,(!decide (os.1=x.1))=b1->decide (os.1∈rims x.2)=b2->stp x os=(b1 && b2):=fun b1 b2 h1 h2=>by unfold stp; rw[<- h1,<- h2]; simp
  by_cases h1:os.1=x.1
  ·rw[decide_eq_true h1]
   have:=hR H' (Same.refl _);rw[e false _ (by rw[decide_eq_true h1]; rfl) rfl] at this;exact iteF this
  ·rw[decide_eq_false h1]
   refine iteT ⟨_,rfl,o,_,_,_,rfl,rfl,SqT.of eo,zq (j:=0) rfl,_,rfl,t,_,_,_,rfl,rfl,SqT.of (sm _ _ et),zq (j:=1) rfl,b,x.2,rfl,sm.tp hb,h5,fun RL H4 rs s4 _ hR4 hr4=>⟨oa,RL,os.1,rs,rims x.2,rfl,rfl,s4.tp hoa,SqL.of hR4,hr4,_,rfl,?_⟩⟩;rw[if_neg (by decide)];have:=hR H4 s4;rw[e true _ (by rw[decide_eq_false h1]; rfl) rfl,Bool.true_and] at this;exact this
abbrev tLv (K:PySem.W.Frag):TT:=zb5 (tOp (rEqP true K) (ziA (zcW K) [] E0 (zU (tVar 0) (zU (tVar 1) tNil))) (tLst tNil))
def zj3 (K:PySem.W.Frag):Sp:=fun vs H Q _=>∃m ts ps,vs=[.ref m]/\SqL K H m (ts.map V.ref)/\Prs2 H ts ps/\(∀x∈ps,x.2.length<=5)/\ps.length<=1000/\∀D H' us cs,Same H H'->H' D=some (.lst (List.map V.ref us))->Prs2 H' us cs->(cs=[] ↔ Acy ps)->Q (.ref D) H'
theorem zfs:zv ["pairs","left","many"] ["pairs"] (zf sInR):=⟨rfl,rfl,rfl,by decide +kernel,rfl,by decide +kernel,by decide +kernel⟩
theorem zjN {f fs:Addr}{fd fds:FuncData} (F:Fun K "_law_in_rounds" "_law_in_rounds" sInR f fd) (B:Bt mg)
  (Fs:Fun K "_law_steps" "_law_steps" za6 fs fds) (bs:Binds K fds ["pair","pairs"] []) (ms:mg "_law_steps"=some (.ref fs)) (Gs:FnOk P w K mg base CX0 2 fs fds ["pair","pairs"] (zcW K)):FnOk P w K mg base CX0 3 f fd ["pairs"] (zj3 K):=by
 refine F.ok zfs (fun vs H Q E h=>?_) (fun cdv A outer s H vs Q E hr h=>?_)
 ·obtain⟨m,ts,ps,rfl,_⟩:=h; rfl
 ·obtain⟨m,ts,ps,rfl,hm,ht,h5,hz,k⟩:=h
  have hu64:=hr.units;refine⟨_,ze (zt (i:=1) zfs.nd rfl (Or.inr rfl) (zF zaF rfl B.list zb7 (zc (pv 0) zd)))
   (ze (zt (i:=2) zfs.nd rfl (Or.inl rfl) (ziU zf4 zi))
   (ze (zeM PassesOwn.never (zn zfP (pv 2) (zo zk rfl B.len zab (zc (pv 1) zd)) (nomark _))
    (ze (zt (i:=2) zfs.nd rfl (Or.inl rfl) (zo zk rfl B.len zab (zc (pv 1) zd)))
    (zh (zt (i:=1) zfs.nd rfl (Or.inr rfl) (zE ["pairs","left","many"] ["pair","left"] [none,some 1] (zH (pv 1)) (fun cl C s₀ H₀ ex=>zr (i:=0) (ndN ["pair","left"]) rfl (Or.inl rfl))
     (fun cl C s₀ H₀ ex=>zbm (zn (zjZ hu64) (zl Gs hr rfl ms Fs.kp bs .nil pass0 (zc (pv 0) (zc (pv 1) zd))) (zz zd) (nomark _)))
     (fun cl C s₀ H₀ ex=>pv 0) (hfr:=frOf (zf sInR) (by decide +kernel)) (tc:=tLv K))))))
   (zh (zp (pv 1))))),?_⟩
  refine⟨_,rfl,m,_,rfl,.inl hm,fun L hL=>?_⟩;have s1:=Same.new (o:=.lst (ts.map V.ref)) hL;refine⟨_,rfl,?_⟩;refine⟨fun n σ H3=>∃(L:Addr) (us:List Addr) (cs:List Pq) (mv:Int),n=2*cs.length+(if mv=cs.length then 0 else 1)/\σ=[some (.ref m),some (.ref L),some (.int mv)]/\Same H H3/\H3 L=some (.lst (us.map V.ref))/\Prs2 H3 us cs/\(∀x∈cs,x∈ps)/\cs.length<=1000/\(Acy cs ↔ Acy ps)/\(mv=cs.length->(trim cs).length=cs.length),
   ⟨_,L,ts,ps,-1,rfl,rfl,s1,upd_same,ht.same s1,fun x hx=>hx,hz,Iff.rfl,fun e=>by omega⟩,?_⟩
  rintro n σ H3 ⟨L,us,cs,mv,rfl,rfl,sm,hL3,hu3,hcp,hcl,hac,hfx⟩;have hul:=hu3.length;refine⟨_,rfl,_,rfl,L,_,rfl,.inl (SqL.of hL3),rfl,_,rfl,?_⟩;rw[List.length_map,hul]
  by_cases hmv:mv=cs.length
  ·rw[show (!decide (V.int mv=V.int ((cs.length:Nat):Int)))=false by rw[hmv]; simp]
   refine iteF ⟨_,rfl,k L H3 us cs sm hL3 hu3 ((ziJ (hfx hmv)).trans hac)⟩
  ·rw[show (!decide (V.int mv=V.int ((cs.length:Nat):Int)))=true by
    rw[decide_eq_false (fun z=>hmv (by injection z))]; rfl]
   refine iteT ⟨fun σ' H'=>∃n',n'<2*cs.length+(if mv=cs.length then 0 else 1)/\∃(L:Addr) (us:List Addr) (cs:List Pq) (mv:Int),n'=2*cs.length+(if mv=cs.length then 0 else 1)/\σ'=[some (.ref m),some (.ref L),some (.int mv)]/\Same H H'/\H' L=some (.lst (us.map V.ref))/\Prs2 H' us cs/\(∀x∈cs,x∈ps)/\cs.length<=1000/\(Acy cs ↔ Acy ps)/\(mv=cs.length->(trim cs).length=cs.length),fun σ' H' h=>h,?_⟩;refine⟨_,rfl,L,_,rfl,.inl (SqL.of hL3),?_⟩;rw[List.length_map,hul];refine⟨_,rfl,L,rfl,⟨_,SqL.of hL3⟩,fun D hD=>zN (zbV (p:=fun x=>cs.any (stp x)) (fun o os H' R sm' ho hos hR=>?_) (SqL.of hL3) hu3 hcl hD fun H4 vs s4 hD4 hv4=>?_)⟩
   ·refine⟨_,rfl,_,rfl,o,L,us,cs,os,rfl,ho,h5 os (hcp os hos),SqL.of (sm' _ _ hL3),hu3.same sm',hcl,fun D' H5 ws s5 hD5 hw5=>⟨zg (by simp),fun T hT=>?_⟩⟩
    have s6:=Same.new (o:=.lst []) hT;refine⟨D',T,ws,[],_,[],rfl,rfl,SqL.of (s6 _ _ hD5),hw5.same s6,SqL.of upd_same,.nil,_,rfl,?_⟩;rw[if_pos rfl];have e:(!decide (cs.filter (stp os)=[]))=cs.any (stp os):=by
     rw[Bool.eq_iff_iff,Bool.not_eq_true',decide_eq_false_iff_not,List.filter_eq_nil_iff,List.any_eq_true];constructor
     ·intro h
      exact Classical.byContradiction fun c=>h fun y hy hs=>c ⟨y,hy,hs⟩
     ·rintro⟨y,hy,hs⟩ h
      exact h y hy hs
    rw[e];exact hR _ (s5.trans s6)
   ·have hle:(trim cs).length<=cs.length:=List.length_filter_le _ _
    refine⟨_,?_,D,vs,trim cs,_,rfl,rfl,sm.trans s4,hD4,hv4,fun x hx=>hcp x (zbB.mp hx).1,by omega,zhe.trans hac,fun e=>?_⟩
    ·rw[if_neg hmv]
     split
     ·omega
     ·have:(trim cs).length≠cs.length:=fun e=>by rename_i h; exact h (by omega)
      omega
    ·have e2:trim cs=cs:=List.filter_sublist.eq_of_length (show (trim cs).length=cs.length by omega)
     rw[e2,e2]
end
end K45
end
section
namespace L2
open PySem PySem.Spec PyProof.Rows
section
variable {X:Cx}{scope:Scope}{N':List Str}{caps:List (Option Nat)}{tg iter elt:Expr}{ifs:List Expr}{wi:TI}{g:TG}{tc:TT}{te:TE}{pos:Pos}
theorem ziF {i:Nat}{x:Str}{pos' spos:Pos} (hc:X.calm=true) (hk:scope.kind=.function) (hcell:∀y∈scope.names,y.2≠.cell) (hnames:∀y∈scope.names,y.2=.local->scope.names.lookup y.1=some .local)
  (hfr:∀y∈scope.names,y.2=.free->X.env.kindOf y.1=some .cell \/ X.env.kindOf y.1=some .free) (hcap:zhg X.N N' caps scope)
  (hi:PI X tg iter wi) (hg:∀cl C s₀ H₀ ex,PG (cxC X scope N' cl C s₀ H₀ ex) tg g) (ht:∀cl C s₀ H₀ ex,PTL (cxC X scope N' cl C s₀ H₀ ex) ifs tc) (he:∀cl C s₀ H₀ ex,PE (cxC X scope N' cl C s₀ H₀ ex) elt te)
  (hs:∀x,foldedSetIterable iter X.env x=pure x) (hN:X.N.Nodup) (hi':X.N[i]?=some x) (hx:Loc X.env.scope x) (hf:X.fn x=true \/ X.env.scope.names.lookup x=some .local)
  (hsw:swapsWith (.ListComp elt [⟨tg,iter,ifs,0⟩] scope pos) (some (.Name x pos')) spos.line X.env=pure true) :
  PS X (.Assign [.Name x pos'] (.ListComp elt [⟨tg,iter,ifs,0⟩] scope pos) spos) (tAsg (tLC wi caps g tc te) (zaA i)):=by
 intro pins s σ H D I h;rw[exec_Assign_Name_used _ _ _ _ hsw];refine wpAny_bind (wpAny_standAt (wpAny_bind ?_));show wpAny _ X.A (do let _ <- comprehension (.ListComp elt [⟨tg,iter,ifs,0⟩] scope pos) scope X.env _ (newList []) (firstAsync [⟨tg,iter,ifs,0⟩]) (firstIter [⟨tg,iter,ifs,0⟩] X.env) (some (assign (.Name x pos') X.env))) _ _ s;refine wpAny_bind (wpAny_mono (zc5 (use:=some (assign (.Name x pos') X.env)) (R:=fun _ s'=>SP X pins D .next s') hc hk hcell hnames hfr hcap hi hg ht he hs I h fun Dl C H' s4 f L q=>?_) (fun _ s' hq=>wpAny_pure (wpAny_pure hq)) fun _ _ e=>e);show wpAny _ X.A (assign (.Name x pos') X.env (.ref Dl)) _ _ s4;refine wpAny_assign_Name (zdz (v:=.ref Dl) (L.back s4.heap (Heap.SameBut.refl _ _)) hN hi' hx rfl (fun s5 I5 ⟨a,hsa,ha⟩=>?_) hf);have hCa:C≠a:=by
  rcases ha with e | e
  ·rw[e]; exact L.nl
  ·exact fun z=>L.nc x a e z.symm
 obtain⟨m,hn⟩:=L.ns;refine⟨m,hn.sameBut hsa hCa,fun h' hs'=>⟨_,H',?_,q⟩⟩;refine I5.call' (s':={ s5 with heap:=h' }) (ch:=[C]) rfl ⟨fun b o q n hb hx=>?_,fun b o q n hb hx=>?_,fun b o q n hx=>n,fun b o q hx=>?_,fun b xs q=>q,fun b o u q=>q,fun b ps q=>⟨#[],by simpa using q⟩⟩ ?_ I5.bare fun b hb=>?_
 ·exact (hs'.2 b (by simpa using hx)).trans q
 ·exact⟨o.slots,(hs'.2 b (by simpa using hx)).trans q⟩
 ·exact⟨o,(hs'.2 b (by simpa using hx)).trans q⟩
 ·intro b u e
  refine (I5.hok b u e).stay (fun c v hc q=>(hs'.2 c ?_).trans q) (fun _ q=>q) fun _ _ q=>q;rintro rfl;rcases hc with z | z
  ·rw[<- z,L.no] at e; cases e
  ·rw[L.no] at z; cases z
 ·have e:b=C:=by simpa using hb
  subst e;exact⟨.inr L.far,L.nl,L.nc,L.np⟩
end
end L2
end
section
namespace L2
open PySem PySem.Spec PyProof.Rows
section
variable {X:Cx}{scope:Scope}{caps:List (Option Nat)}{tg iter elt:Expr}{ifs:List Expr}{wi:TI}{g:TG}{tc:TT}{te:TE}{pos:Pos}
theorem zi3 {i:Nat}{x:Str}{pos' spos:Pos} (hnd:X.N.Nodup) (hi':X.N[i]?=some x) (hx:Loc X.env.scope x) (N N':List Str) (caps:List (Option Nat)) (hi:PI X tg iter wi) (hg:∀cl C s₀ H₀ ex,PG (cxC X scope N' cl C s₀ H₀ ex) tg g) (ht:∀cl C s₀ H₀ ex,PTL (cxC X scope N' cl C s₀ H₀ ex) ifs tc) (he:∀cl C s₀ H₀ ex,PE (cxC X scope N' cl C s₀ H₀ ex) elt te)
  (hc:X.calm=true:=by rfl) (hk:scope.kind=.function:=by rfl) (hcell:∀y∈scope.names,y.2≠.cell:=by decide +kernel) (hnames:∀y∈scope.names,y.2=.local->scope.names.lookup y.1=some .local:=by decide +kernel)
  (hfr:∀y∈scope.names,y.2=.free->X.env.kindOf y.1=some .cell \/ X.env.kindOf y.1=some .free) (hN:X.N=N:=by rfl) (hcap:capB N N' caps scope=true:=by decide +kernel)
  (hs:∀x,foldedSetIterable iter X.env x=pure x:=by intro _; rfl) (hf:X.fn x=true \/ X.env.scope.names.lookup x=some .local:=by first | exact .inl rfl | exact .inr rfl | assumption)
  (hsw:swapsWith (.ListComp elt [⟨tg,iter,ifs,0⟩] scope pos) (some (.Name x pos')) spos.line X.env=pure true:=by rfl) :
  PS X (.Assign [.Name x pos'] (.ListComp elt [⟨tg,iter,ifs,0⟩] scope pos) spos) (tAsg (tLC wi caps g tc te) (zaA i)):=
 ziF hc hk hcell hnames hfr (zew (by rw[hN]; exact hcap)) hi hg ht he hs hnd hi' hx hf hsw
end
end L2
end
section
namespace K45
open K1
open PySem L2 STb
abbrev zdg:Stmt:=top 39
abbrev nmS:List Str:=["box","known","found","k","piece","rims","pair","spent"]
theorem zcJ {p:Addr}{H H':Hp}{t:Addr}{x:Pq} (sb:zT p H H') (hb:zM H p) (h:Pr2 H t x):Pr2 H' t x:=by
 obtain⟨a,b,e,ha,hb'⟩:=h;exact⟨a,b,sb _ _ (hb.net e) e,sb _ _ (hb.net ha) ha,sb _ _ (hb.net hb') hb'⟩
theorem zcb {p:Addr}{H H':Hp}{ts:List Addr}{xs:List Pq} (sb:zT p H H') (hb:zM H p) (h:Prs2 H ts xs):Prs2 H' ts xs:=Paired.mapP h fun _ _ q=>zcJ sb hb q
theorem zfE {as:List Addr}{pss:List (List Int)}{H:Hp} (ht:Tps H as pss) {r:Int} (h0:0<=r) (h1:r<as.length):∃a ps,ps∈pss/\atI (as.map V.ref) r=some (.ref a)/\Tp H a ps:=by
 obtain⟨n,rfl⟩:=Int.eq_ofNat_of_zero_le h0;have e:as[n]?=some as[n]:=List.getElem?_eq_getElem (by omega);obtain⟨ps,e2,h⟩:=ht.get e;exact⟨as[n],ps,List.mem_of_getElem? e2,zq (by rw[List.getElem?_map,e]; rfl),h⟩
abbrev zj8 (K:PySem.W.Frag) (i:Nat) (j:Int):TE:=tOp (rIxT K) (tVar i) (tC (.int j))
abbrev zjl (K:PySem.W.Frag):TT:=tOr (zb5 (tOp (rInP false K) (zj8 K 1 0) (tVar 0))) (zb5 (tOp (rInP false K) (zj8 K 1 1) (tVar 0)))
structure Ts (H H2:Hp) (p FD:Addr) (ts:List Addr) (ps:List Pq):Prop where
 sb:zT p H H2
 hb:zM H2 p
 hn:H FD=none
 np:FD≠p
 hF:H2 FD=some (.lst (ts.map V.ref))
 ht:Prs2 H2 ts ps
theorem Ts.same {H H2 H3:Hp}{p FD:Addr}{bs:List Addr}{qss:List Pq} (t:Ts H H2 p FD bs qss) (s:Same H2 H3):Ts H H3 p FD bs qss:=⟨fun b o hb e=>s _ _ (t.sb b o hb e),t.hb.same s,t.hn,t.np,s _ _ t.hF,t.ht.same s⟩
theorem Ts.draw {H H2 H3:Hp}{p FD:Addr}{bs:List Addr}{qss:List Pq} (t:Ts H H2 p FD bs qss) (s:zT p H2 H3) (hb:zM H3 p):Ts H H3 p FD bs qss:=⟨t.sb.trans s,hb,t.hn,t.np,s _ _ t.np t.hF,zcb s t.hb t.ht⟩
theorem Ts.put {H H2:Hp}{p FD:Addr}{bs cs:List Addr}{qss rss:List Pq} (t:Ts H H2 p FD bs qss) (h:Prs2 H2 cs rss):Ts H (upd H2 FD (.lst (cs.map V.ref))) p FD cs rss:=
 ⟨fun b o hb e=>by rw[upd_ne (zj e t.hn)]; exact t.sb b o hb e,t.hb.upd t.np,t.hn,t.np,upd_same,Prs2.upd h t.hF (by intro xs z; cases z)⟩
section
variable {P:Program}{w:World}{K:PySem.W.Frag}{mg:Str->Option Value}{base:Heap}
def zid (K:PySem.W.Frag):Sp:=fun vs H Q _=>∃p l as kn,vs=[.ref p,.ref l]/\zM H p/\H l=some (.lst (List.map V.ref as))/\Tps H as kn/\kn≠[]/\(∀q∈kn,q.length<=5)/\(∀q∈kn,∀r∈rims q,r∈kn)/\kn.length<=1000/\
 ∀D H' ts ps,zT p H H'->zM H' p->H D=none->H' D=some (.lst (List.map V.ref ts))->Prs2 H' ts ps->ps.length<=8->(∀x∈ps,x.1∈kn/\x.2∈kn)->Q (.ref D) H'
theorem zcc:zv nmS ["box","known"] (zf zdg):=⟨rfl,rfl,rfl,by decide +kernel,rfl,by decide +kernel,by decide +kernel⟩
theorem zim {f ft fr:Addr}{fd fdt fdr:FuncData} (F:Fun K "_law_some_pairs" "_law_some_pairs" zdg f fd) (B:Bt mg)
  (Ft:Fun K "_law_take" "_law_take" zci ft fdt) (bt:Binds K fdt ["box","most"] []) (mt:mg "_law_take"=some (.ref ft))
  (Fr:Fun K "_law_rims" "_law_rims" zaO fr fdr) (br:Binds K fdr ["piece"] []) (mr:mg "_law_rims"=some (.ref fr)):FnOk P w K mg base CX0 2 f fd ["box","known"] (zid K):=by
 have Gr:FnOk P w K mg base CX0 1 fr fdr ["piece"] zbu:=zcx Fr B;have Gt:FnOk P w K mg base CX0 1 ft fdt ["box","most"] zdn:=zcF Ft;refine F.ok zcc (fun vs H Q E h=>?_) (fun cdv A outer s H vs Q E hr h=>?_)
 ·obtain⟨p,l,as,kn,rfl,_⟩:=h; rfl
 ·obtain⟨p,l,as,kn,rfl,hb,hl,hk,hne,h5,hcl,hz,k⟩:=h
  have hu64:=hr.units;refine⟨_,ze (zt (i:=2) zcc.nd rfl (Or.inl rfl) (zz zd))
   (ze (zX PassesOwn.never rfl (zar rfl B.range (zc (zl Gt hr rfl mt Ft.kp bt .nil pass0 (zc (pv 0) (zc zi zd))) zd)) (zr (i:=3) zcc.nd rfl (Or.inl rfl))
    (ze (zt (i:=4) zcc.nd rfl (Or.inl rfl) (zx zK (pv 1) (zl Gt hr rfl mt Ft.kp bt .nil pass0 (zc (pv 0) (zc (zo zk rfl B.len zab (zc (pv 1) zd)) zd))) (fun _ _=>rfl)))
    (ze (zt (i:=5) zcc.nd rfl (Or.inl rfl) (zl Gr hr rfl mr Fr.kp br .nil pass0 (zc (pv 4) zd)))
    (zh (zR (zn (zc1 hu64) (pv 5) (zz zd) (nomark _))
     (ze (zt (i:=6) zcc.nd rfl (Or.inr rfl) (zaa (zc (zx zK (pv 5) (zl Gt hr rfl mt Ft.kp bt .nil pass0 (zc (pv 0) (zc (zo zk rfl B.len zab (zc (pv 5) zd)) zd))) (fun _ _=>rfl)) (zc (pv 4) zd))))
     (ze (zi3 (i:=7) zcc.nd rfl (Or.inl rfl) nmS ["one","pair"] [none,some 6] (zH (pv 2)) (fun cl C s₀ H₀ ex=>zr (i:=0) (ndN ["one","pair"]) rfl (Or.inl rfl))
      (fun cl C s₀ H₀ ex=>zbm (PW.pt (zbo (zn (zh6 (in1_units hu64)) (zx zB (pv 1) zi (fun _ _=>rfl)) (pv 0) (by with_unfolding_all rfl)) (zaP (zn (zh6 (in1_units hu64)) (zx zB (pv 1) zi (fun _ _=>rfl)) (pv 0) (by with_unfolding_all rfl))))))
      (fun cl C s₀ H₀ ex=>pv 0) (hfr:=frOf (zf zdg) (by decide +kernel)) (tc:=zjl K))
     (zh (zR (PW.pt (zbo (zn (zgg hu64) (pv 7) (zz zd) (nomark _)) (zaP (zn zfh (zl Gt hr rfl mt Ft.kp bt .nil pass0 (zc (pv 0) (zc zi zd))) zi (nomark _)))))
      (zh (zal (zch PySem.F.plainAttrs_list PySem.F.slot_list_append PySem.F.type_list_append zac (pv 2) (zc (pv 6) zd)))) zw))))
     (zh (zR (zn zfh (zl Gt hr rfl mt Ft.kp bt .nil pass0 (zc (pv 0) (zc zi zd))) zi (nomark _))
      (zh (zal (zch PySem.F.plainAttrs_list PySem.F.slot_list_append PySem.F.type_list_append zac (pv 2) (zc (zaa (zc (pv 4) (zc (zx zK (pv 1) (zl Gt hr rfl mt Ft.kp bt .nil pass0 (zc (pv 0) (zc (zo zk rfl B.len zab (zc (pv 1) zd)) zd))) (fun _ _=>rfl)) zd))) zd)))) zw)))))))
   (zh (zp (pv 2)))),?_⟩
  have hla:=hk.length;have hkp:=List.length_pos_iff.mpr hne;have npl:l≠p:=hb.ne hl;refine⟨zg (by simp),fun FD hFD=>?_⟩;have hpF:FD≠p:=by obtain⟨x,y,h,_⟩:=hb; exact Ne.symm (zj h hFD)
  have s1:=Same.new (o:=.lst []) hFD;have t1:Ts H _ p FD [] []:=⟨fun b o _ e=>s1 _ _ e,hb.same s1,hFD,hpF,upd_same,.nil⟩;refine⟨_,rfl,p,9,rfl,t1.hb,by decide,by decide,fun n H2 n0 n1 sb2 hb2=>?_⟩;have t2:=t1.draw sb2 hb2;refine⟨n,rfl,by omega,by omega,?_⟩;refine zbb (lo:=0) (n:=n.toNat) (fun i σ H3=>∃(v3 v4 v5 v6 v7:Option V) (ts:List Addr) (ps:List Pq),σ=[some (.ref p),some (.ref l),some (.ref FD),v3,v4,v5,v6,v7]/\Ts H H3 p FD ts ps/\ps.length<=i/\∀x∈ps,x.1∈kn/\x.2∈kn) ⟨none,none,none,none,none,[],[],rfl,t2,Nat.le_refl _,fun x hx=>(by cases hx)⟩ ?_ ?_
  ·rintro i σ H3 hi ⟨v3,v4,v5,v6,v7,ts,ps,rfl,t3,hpl,hpk⟩
   have hi8:i<8 \/ i=8:=by omega
   have hl3:=t3.sb _ _ npl hl;have hk3:=t3.sb.tps hb hk;refine⟨_,rfl,_,rfl,_,rfl,l,_,rfl,.inl (SqL.of hl3),?_⟩;refine⟨p,_,rfl,t3.hb,by rw[List.length_map]; omega,by rw[List.length_map]; omega,fun r4 H4 r40 r41 sb4 hb4=>?_⟩;rw[List.length_map] at r41;have t4:=t3.draw sb4 hb4;have hl4:=t4.sb _ _ npl hl;have hk4:=t4.sb.tps hb hk;obtain⟨pa,q,hqk,e4,hpa⟩:=zfE hk4 r40 r41;refine⟨l,_,_,_,rfl,rfl,SqL.of hl4,e4,?_⟩;refine⟨_,rfl,pa,q,rfl,hpa,h5 q hqk,fun RL H5 rs s5 _ hR5 hr5=>?_⟩;have t5:=t4.same s5;have hrl:=hr5.length;have hrq:=zcA q;have hq5:=h5 q hqk;refine⟨_,rfl,zg (by simp),fun T hT=>.inr ⟨RL,T,rs,[],rims q,[],rfl,rfl,SqL.of ((Same.new hT) _ _ hR5),(Same.new hT).tps hr5,SqL.of upd_same,.nil,_,rfl,?_⟩⟩;have s6:=Same.new (o:=.lst []) hT;have t6:=t5.same s6;have hR6:=s6 _ _ hR5;have hr6:=s6.tps hr5;have hpa6:=(s5.trans s6).tp hpa;generalize upd H5 T (.lst [])=H6 at s6 t6 hR6 hr6 hpa6;rw[if_pos rfl];have htl:=t6.ht.length
   by_cases hr0:rims q=[]
   ·rw[decide_eq_true hr0]
    refine iteF ⟨_,rfl,p,8,rfl,t6.hb,by decide,by decide,fun r7 H7 _ _ sb7 hb7=>⟨rfl,_,rfl,?_⟩⟩;have t7:=t6.draw sb7 hb7;refine ite2 (fun _=>?_) (fun _=>⟨_,_,_,_,_,ts,ps,rfl,t7,by omega,hpk⟩);have hl7:=t7.sb _ _ npl hl;have hk7:=t7.sb.tps hb hk;have hpa7:Tp H7 pa q:=sb7 _ _ (t6.hb.net hpa6) hpa6;refine⟨_,rfl,.inl ⟨rfl,_,SqL.of t7.hF⟩,_,rfl,_,rfl,_,rfl,_,rfl,l,_,rfl,.inl (SqL.of hl7),?_⟩;refine⟨p,_,rfl,t7.hb,by rw[List.length_map]; omega,by rw[List.length_map]; omega,fun r8 H8 r80 r81 sb8 hb8=>?_⟩;rw[List.length_map] at r81;have t8:=t7.draw sb8 hb8;obtain⟨qa,q',hqk',e8,hqa⟩:=zfE (t8.sb.tps hb hk) r80 r81;have hpa8:Tp H8 pa q:=sb8 _ _ (t7.hb.net hpa7) hpa7;refine⟨l,_,_,_,rfl,rfl,SqL.of (t8.sb _ _ npl hl),e8,zg (by simp),fun W hW=>?_⟩;have s9:=Same.new (o:=.tup [.ref pa,.ref qa]) hW;have t9:=t8.same s9;have hW9:Pr2 (upd H8 W (.tup [.ref pa,.ref qa])) W (q,q'):=⟨pa,qa,upd_same,s9.tp hpa8,s9.tp hqa⟩;refine⟨FD,_,_,rfl,rfl,t9.hF,by rw[List.length_map]; exact zJ (by omega),?_⟩;rw[show ts.map V.ref++[V.ref W]=(ts++[W]).map V.ref by rw[List.map_append]; rfl];refine⟨_,_,_,_,_,ts++[W],ps++[(q,q')],rfl,t9.put (Prs2.add t9.ht hW9),by rw[List.length_append]; simp; omega,fun x hx=>?_⟩;rcases List.mem_append.mp hx with h | h
    ·exact hpk x h
    ·rw[List.mem_singleton.mp h]; exact⟨hqk,hqk'⟩
   rw[decide_eq_false hr0];have hrp:=List.length_pos_iff.mpr hr0;have npR:RL≠p:=t6.hb.ne hR6;refine iteT ⟨_,rfl,_,rfl,_,rfl,RL,_,rfl,.inl (SqL.of hR6),?_⟩;refine⟨p,_,rfl,t6.hb,by rw[List.length_map]; omega,by rw[List.length_map]; omega,fun r7 H7 r70 r71 sb7 hb7=>?_⟩;rw[List.length_map] at r71;have t7:=t6.draw sb7 hb7;obtain⟨ra,r,hrr,e7,hra⟩:=zfE (sb7.tps t6.hb hr6) r70 r71;have hpa7:Tp H7 pa q:=sb7 _ _ (t6.hb.net hpa6) hpa6;refine⟨RL,_,_,_,rfl,rfl,SqL.of (sb7 _ _ npR hR6),e7,_,rfl,zg (by simp),fun W hW=>?_⟩;have s8:=Same.new (o:=.tup [.ref ra,.ref pa]) hW;have t8:=t7.same s8;have hW8:Pr2 (upd H7 W (.tup [.ref ra,.ref pa])) W (r,q):=⟨ra,pa,upd_same,s8.tp hra,s8.tp hpa7⟩;generalize upd H7 W (.tup [.ref ra,.ref pa])=H8 at s8 t8 hW8;obtain⟨wa,wb,eW,hwa,hwb⟩:=id hW8;have htl8:=t8.ht.length;refine⟨_,rfl,FD,rfl,⟨_,SqL.of t8.hF⟩,fun SP hSP=>zN (zbV (p:=fun o=>decide (r=o.1 \/ r=o.2) || decide (q=o.1 \/ q=o.2)) (fun o os H' R sm ho _ hR=>?_) (SqL.of t8.hF) t8.ht (by omega) hSP fun H9 us s9 hSP9 hu9=>?_)⟩
   ·refine⟨_,rfl,W,_,_,_,rfl,rfl,SqT.of (sm _ _ eW),zq (j:=0) rfl,_,rfl,wa,o,r,os,rfl,rfl,sm.tp hwa,ho,_,rfl,?_⟩
    rw[if_neg (by decide)];have hR':=hR H' (Same.refl _)
    by_cases h1:r=os.1 \/ r=os.2
    ·rw[decide_eq_true h1] at hR' ⊢
     exact iteT hR'
    ·rw[decide_eq_false h1,Bool.false_or] at hR'
     rw[decide_eq_false h1];refine iteF ⟨_,rfl,W,_,_,_,rfl,rfl,SqT.of (sm _ _ eW),zq (j:=1) rfl,_,rfl,wb,o,q,os,rfl,rfl,sm.tp hwb,ho,_,rfl,?_⟩;rw[if_neg (by decide)];exact hR'
   ·have t9:=t8.same s9
    have hW9:=hW8.same s9;have ADD:∀H10,Ts H H10 p FD ts ps->Pr2 H10 W (r,q)->∀(v3 v4 v5 v6 v7:Option V),∃(ts':List Addr) (ps':List Pq),ts.map V.ref++[V.ref W]=ts'.map V.ref/\Ts H (upd H10 FD (.lst (ts.map V.ref++[V.ref W]))) p FD ts' ps'/\ps'.length<=i+1/\∀x∈ps',x.1∈kn/\x.2∈kn:=fun H10 t10 hW10 _ _ _ _ _=>by
     have e:ts.map V.ref++[V.ref W]=(ts++[W]).map V.ref:=by rw[List.map_append]; rfl
     refine⟨ts++[W],ps++[(r,q)],e,?_,by rw[List.length_append]; simp; omega,fun x hx=>?_⟩
     ·rw[e]; exact t10.put (Prs2.add t10.ht hW10)
     ·rcases List.mem_append.mp hx with h | h
      ·exact hpk x h
      ·rw[List.mem_singleton.mp h]; exact⟨hcl q hqk r hrr,hqk⟩
    refine⟨_,rfl,zg (by simp),fun T2 hT2=>?_⟩;have s10:=Same.new (o:=.lst []) hT2;have t10:=t9.same s10;refine⟨SP,T2,us,[],_,[],rfl,rfl,SqL.of (s10 _ _ hSP9),hu9.same s10,SqL.of upd_same,.nil,_,rfl,?_⟩;rw[if_neg (by decide)];have hW10:=hW9.same s10;generalize upd H9 T2 (.lst [])=H10 at s10 t10 hW10;refine ite2 (fun _=>?_) (fun _=>⟨_,rfl,p,12,rfl,t10.hb,by decide,by decide,fun r11 H11 _ _ sb11 hb11=>⟨rfl,_,rfl,?_⟩⟩)
    ·refine⟨_,rfl,.inl ⟨rfl,_,SqL.of t10.hF⟩,_,rfl,FD,_,_,rfl,rfl,t10.hF,by rw[List.length_map]; exact zJ (by omega),?_⟩
     obtain⟨ts',ps',_,h2,h3,h4⟩:=ADD H10 t10 hW10 none none none none none;exact⟨_,_,_,_,_,ts',ps',rfl,h2,h3,h4⟩
    ·have t11:=t10.draw sb11 hb11
     refine ite2 (fun _=>?_) (fun _=>⟨_,_,_,_,_,ts,ps,rfl,t11,by omega,hpk⟩);refine⟨_,rfl,.inl ⟨rfl,_,SqL.of t11.hF⟩,_,rfl,FD,_,_,rfl,rfl,t11.hF,by rw[List.length_map]; exact zJ (by omega),?_⟩;obtain⟨ts',ps',_,h2,h3,h4⟩:=ADD H11 t11 (zcJ sb11 t10.hb hW10) none none none none none;exact⟨_,_,_,_,_,ts',ps',rfl,h2,h3,h4⟩
  ·rintro σ H3 ⟨v3,v4,v5,v6,v7,ts,ps,rfl,t3,hpl,hpk⟩
   exact⟨_,rfl,k FD H3 ts ps t3.sb t3.hb hFD t3.hF t3.ht (by omega) hpk⟩
end
end K45
end
section
namespace STb
open PySem PySem.SetTable
structure NK (prog:Program) (w:World) (K:Type) [DecidableEq K] where
 is:Heap->K->Addr->Prop
 hash:K->Int
 draws:K->Nat
 inj:∀{h:Heap} {a:Addr} {x y:K},is h x a->is h y a->x=y
 keep:∀{h h':Heap} {k:K} {b:Addr},is h k b->(∀c o,(∃items m,o.cls=Value.type "tuple"/\o.data=.seq items m)->h.get? c=some o->h'.get? c=some o)->is h' k b
 pyHash:∀{A:Around} {E:Value->Shared->Prop} {s:Shared} {k:K} {a:Addr} {Q:Int->Shared->Prop},A.units+8<cLine->is s.heap k a->Q (hash k) { s with toks:=s.toks+draws k }->wpAny (model prog w) A (PySem.pyHash (.ref a)) Q E s
 eqBool:∀{A:Around} {E:Value->Shared->Prop} {s:Shared} {x y:K} {a b:Addr} {Q:Bool->Shared->Prop},A.units+8<cLine->is s.heap x a->is s.heap y b->Q (decide (x=y)) s->wpAny (model prog w) A (PySem.eqBool (.ref a) (.ref b)) Q E s
 quiet:∀{A:Around} {E:Value->Shared->Prop} {s:Shared} {k:K} {a:Addr} {Q:Bool->Shared->Prop},is s.heap k a->Q true s->wpAny (model prog w) A (eqIsQuiet 8 (.ref a)) Q E s
 oacs:∀{A:Around} {E:Value->Shared->Prop} {s:Shared} {k:K} {a:Addr} {Q:Bool->Shared->Prop},is s.heap k a->Q false s->wpAny (model prog w) A (ofAClassStatement 8 (.ref a)) Q E s
 hbv:∀{A:Around} {E:Value->Shared->Prop} {s:Shared} {k:K} {a:Addr} {Q:Bool->Shared->Prop},is s.heap k a->Q true s->wpAny (model prog w) A (hashByValue 8 (.ref a)) Q E s
section
variable {prog:Program}{w:World}{K:Type} [DecidableEq K] {knd:NK prog w K}{A:Around}{E:Value->Shared->Prop}{s:Shared}
theorem zdK {ks:K}{b:Addr}{ys:List Value}{Q:Bool->Shared->Prop} (hk:knd.is s.heap ks b) (hy:∀y∈ys,∃k' c,y=.ref c/\knd.is s.heap k' c) (h:Q false s) :
  wpAny (model prog w) A (searchCouldBeSeen (.ref b) ys) Q E s:=by
 unfold searchCouldBeSeen;refine wpAny_bind ?_;refine wpAny_forIn_list _ (fun rest r s'=>r.1=none/\s'=s/\∀y∈rest,∃k' c,y=.ref c/\knd.is s.heap k' c) _ ?_ ?_ _ _ ⟨rfl,rfl,hy⟩
 ·rintro v rest r s' ⟨hr,rfl,hall⟩
  obtain⟨k',c,rfl,hc⟩:=hall v List.mem_cons_self;have nx:∀u∈rest,∃k' c,u=.ref c/\knd.is s'.heap k' c:=fun u hu'=>hall u (List.mem_cons_of_mem _ hu');dsimp only;split
  ·exact wpAny_pure ⟨rfl,rfl,nx⟩
  ·refine wpAny_bind (knd.quiet hk ?_)
   simp only[Bool.not_true,Bool.false_eq_true,if_false];refine wpAny_bind (knd.quiet hc ?_);simp only[Bool.not_true,Bool.false_eq_true,if_false];refine wpAny_bind (knd.oacs hk ?_);simp only[Bool.false_eq_true,if_false];refine wpAny_bind (knd.oacs hc ?_);simp only[Bool.false_eq_true,if_false];exact wpAny_pure ⟨rfl,rfl,nx⟩
 ·rintro⟨r1,r2⟩ s' ⟨hr,rfl,_⟩
  simp only at hr;subst hr;exact wpAny_pure h
structure NTS (knd:NK prog w K) (h:Heap) (S:Addr) (o:Obj) (es:Array (Int×Value)) (ep:Nat) (t:SetTable) (ks:List K) (B:List Addr):Prop where
 at_:h.get? S=some o
 ex:o.ExactSet
 dt:o.data=.set es ep t
 tb:Tb t (es.map (·.1))
 sz:es.size=ks.length
 nd:ks.Nodup
 el:∀e∈es.toList,∃k b,k∈ks/\e=(knd.hash k,Value.ref b)/\knd.is h k b
 ke:∀k∈ks,∃b,(knd.hash k,Value.ref b)∈es.toList/\knd.is h k b
 msk:(t.mask=7/\es.size<=4) \/ (t.mask=31/\es.size<=18) \/ (t.mask=127/\es.size<=76) \/ (t.mask=15/\es.size<=8) \/ (t.mask=63/\es.size<=37) \/ (t.mask=255/\es.size<=152)
 ad:∀e∈es.toList,∃b∈B,e.2=Value.ref b
 wk:w.params.followText "set-order"=true \/ (t.led=true/\t.plain=true)
theorem zd2 {B:List Addr}{S:Addr}{o:Obj}{es:Array (Int×Value)}{ep:Nat}{t:SetTable}{ks:List K} (X:NTS knd s.heap S o es ep t ks B) (hu:A.units+8<cLine) {k:K}{b:Addr} (hk:knd.is s.heap k b)
  {ne:Nat} (hne:ne<10*turns t.mask) (he:¬ Occ t (pos t.mask (knd.hash k) ne)) (hm:∀m,m<ne->Occ t (pos t.mask (knd.hash k) m)) {add:Bool} {Q:SetFound->Shared->Prop}
  (h1:k∈ks->∀r:Option Nat,(add=false->r.isSome=true)->Q (.there r) s) (h2:k∉ks->Q (.free (pos t.mask (knd.hash k) ne) false) s) :
  ∀(fuel n:Nat) (stand:Option Probe),ne<n+fuel->n<=ne->stand.getD (t.probeStart (knd.hash k))=pr t.mask (knd.hash k) n->
   (∀(m i:Nat) (c:Addr),m<n->t.place[i]?=some (pos t.mask (knd.hash k) m)->es[i]?=some (knd.hash k,Value.ref c)->¬ knd.is s.heap k c)->
   wpAny (model prog w) A (setSearchFrom S (.ref b) (knd.hash k) add fuel stand) Q E s:=by
 have T:=X.tb;have fit:=fits_of T;have hA:∀i:Nat,(es.map (·.1))[i]?=(es[i]?).map (·.1):=fun i=>Array.getElem?_map ..;intro fuel
 induction fuel with
 | zero=>intro n stand a1 a2 _ _; omega
 | succ fuel ih=>
  intro n stand a1 a2 a3 a4;unfold setSearchFrom;refine wpAny_bind (wpAny_setState_of X.at_ X.dt fit ?_);dsimp only;have gw:t.gaveWay=false:=by
   unfold SetTable.gaveWay;rw[T.odd]
   rfl
  rw[gw];simp only[Bool.false_eq_true,if_false];rw[a3];rcases probe_spec T (hashAt:=fun i=>((es[i]?).map (·.1)).getD 0) hne he hm a2 with ⟨ep1,none_⟩ | ⟨N,i,b1,b2,b3,b4,b5,b6⟩
  ·have ep1':t.probe (fun i=>((es[i]?).map (·.1)).getD 0) (knd.hash k) (pr t.mask (knd.hash k) n)=some (.empty (pos t.mask (knd.hash k) ne) none):=ep1
   show wpAny _ _ (match t.probe (fun i=>((es[i]?).map (·.1)).getD 0) (knd.hash k) (pr t.mask (knd.hash k) n) with | some met=>_ | _=>_) _ _ s;rw[ep1'];dsimp only;refine wpAny_pure (h2 fun hin=>?_);obtain⟨c,hc1,hc2⟩:=X.ke k hin;obtain⟨i,hi,ei⟩:=List.mem_iff_getElem.mp hc1;have ei':es[i]?=some (knd.hash k,.ref c):=by
    rw[<- Array.getElem?_toList,List.getElem?_eq_getElem hi,ei]
   have hlt:i<t.place.size:=by rw[T.size,Array.size_map]; simpa using hi
   have ej:t.place[i]?=some t.place[i]:=getElem?_pos t.place i hlt;obtain⟨N,hN,eN⟩:=zhU T he (k:=i) (by rw[hA,ei']; rfl) ej;rcases Nat.lt_or_ge N n with q | q
   ·exact a4 N i c q (by rw[eN]; exact ej) ei' hc2
   ·exact none_ N i q hN (by rw[eN]; exact ej) (by show ((es[i]?).map (·.1)).getD 0=_; rw[ei']; rfl)
  ·show wpAny _ _ (match t.probe (fun i=>((es[i]?).map (·.1)).getD 0) (knd.hash k) (pr t.mask (knd.hash k) n) with | some met=>_ | _=>_) _ _ s
   rw[b5];dsimp only;have hi:i<es.size:=by
    have:=(Array.getElem?_eq_some_iff.mp b3).1;rw[T.size,Array.size_map] at this;exact this
   have ei:es[i]?=some es[i]:=getElem?_pos es i hi;obtain⟨k',c,hk',ee,hc⟩:=X.el es[i] (by simp);rw[ee] at ei;have eh:knd.hash k'=knd.hash k:=by
    have:((es[i]?).map (·.1)).getD 0=knd.hash k:=b4;rw[ei] at this;exact this
   rw[eh] at ei;have sm:t.sameMemory t.moves t.mask=some true:=by unfold SetTable.sameMemory; rw[if_pos (by simp)]
   have nxt':k'≠k->wpAny (model prog w) A (setSearchFrom S (.ref b) (knd.hash k) add fuel (some (pr t.mask (knd.hash k) (N+1)))) Q E s:=fun eq=>by
    refine ih (N+1) _ (by omega) (by omega) rfl fun m i2 c2 q1 q2 q3 q4=>?_;rcases Nat.lt_or_ge m n with z | z
    ·exact a4 m i2 c2 z q2 q3 q4
    ·rcases Nat.lt_or_ge m N with z2 | z2
     ·exact b6 m i2 z z2 q2 (by show ((es[i2]?).map (·.1)).getD 0=_; rw[q3]; rfl)
     ·have:m=N:=by omega
      subst this;have:=T.ris.inj q2 b3;subst this;rw[ei] at q3;cases q3;exact eq (knd.inj hc q4)
   cases led:t.led
   all_goals simp only[Bool.not_true,Bool.not_false,Bool.false_eq_true,if_true,if_false]
   ·refine wpAny_bind (zdK hk (fun y hy=>?_) ?_)
    ·obtain⟨e,he',rfl⟩:=List.mem_map.mp hy
     rw[Array.toList_filter] at he';obtain⟨k2,c2,_,e2,h2'⟩:=X.el e (List.mem_filter.mp he').1;exact⟨k2,c2,by rw[e2],h2'⟩
    simp only[Bool.false_eq_true,if_false];rw[ei];refine wpAny_bind (wpAny_holding (knd.eqBool hu hc hk ?_));refine wpAny_bind (wpAny_setState_of X.at_ X.dt fit ?_)
    by_cases eq:k'=k
    ·subst eq
     cases add
     ·simp only[decide_true,Bool.false_and,Bool.false_eq_true,if_false]
      rw[sm];simp only[if_true];rw[zP T b3];dsimp only;rw[ei];refine wpAny_bind (wpAny_isSame_ref_self (wpAny_bind (wpAny_pure ?_)));simp only[if_true];exact wpAny_pure (h1 hk' _ fun _=>rfl)
     ·simp only[decide_true,Bool.and_self,if_true]
      exact wpAny_pure (h1 hk' _ fun z=>by cases z)
    ·rw[decide_eq_false eq]
     simp only[Bool.and_false,Bool.false_eq_true,if_false];rw[sm];simp only[if_true];rw[zP T b3];dsimp only;rw[ei];refine wpAny_bind (wpAny_isSame_ref_self (wpAny_bind (wpAny_pure ?_)));simp only[if_true];exact nxt' eq
   ·rw[ei]
    refine wpAny_bind (wpAny_holding (knd.eqBool hu hc hk ?_));refine wpAny_bind (wpAny_setState_of X.at_ X.dt fit ?_)
    by_cases eq:k'=k
    ·subst eq
     cases add
     ·simp only[decide_true,Bool.false_and,Bool.false_eq_true,if_false]
      rw[sm];simp only[if_true];rw[zP T b3];dsimp only;rw[ei];refine wpAny_bind (wpAny_isSame_ref_self (wpAny_bind (wpAny_pure ?_)));simp only[if_true];exact wpAny_pure (h1 hk' _ fun _=>rfl)
     ·simp only[decide_true,Bool.and_self,if_true]
      exact wpAny_pure (h1 hk' _ fun z=>by cases z)
    ·rw[decide_eq_false eq]
     simp only[Bool.and_false,Bool.false_eq_true,if_false];rw[sm];simp only[if_true];rw[zP T b3];dsimp only;rw[ei];refine wpAny_bind (wpAny_isSame_ref_self (wpAny_bind (wpAny_pure ?_)));simp only[if_true];exact nxt' eq
end
end STb
end
section
namespace STb
open PySem PySem.SetTable
section
variable {prog:Program}{w:World}{K:Type} [DecidableEq K] {knd:NK prog w K}{A:Around}{E:Value->Shared->Prop}{s:Shared}
theorem zY {h h':Heap}{S b:Addr}{k:K}{o:Obj}{es ep t} (hk:knd.is h k b) (ho:h.get? S=some o) (hd:o.data=.set es ep t) (hs:Heap.SameBut S h h'):knd.is h' k b:=by
 refine knd.keep hk fun c o' ⟨items,m,_,hd'⟩ ho'=>?_;have hne:c≠S:=by
  rintro rfl;obtain rfl:o'=o:=Option.some.inj (ho'.symm.trans ho);rw[hd] at hd'; exact nomatch hd'
 exact (hs.2 c hne).trans ho'
theorem zfc {B:List Addr}{S:Addr}{o:Obj}{es:Array (Int×Value)}{ep:Nat}{t:SetTable}{ks:List K}{want m2:Nat} (hat:s.heap.get? S=some o) (hex:o.ExactSet) (hd:o.data=.set es ep t) (T:Tb t (es.map (·.1)))
  (hsz:es.size=ks.length) (nd:ks.Nodup) (ad:∀e∈es.toList,∃b∈B,e.2=Value.ref b) (el:∀e∈es.toList,∃k b,k∈ks/\e=(knd.hash k,Value.ref b)/\knd.is s.heap k b) (ke:∀k∈ks,∃b,(knd.hash k,Value.ref b)∈es.toList/\knd.is s.heap k b)
  (hw:SetTable.sizeAbove want - 1=m2) (hw2:SetTable.sizeAbove want<=sizeLine) (hc:Cov m2) (ho:m2 % 2=1) (hr:es.size<=m2) (hz:es.size<=1000)
  (hmk:(m2=7/\es.size<=4) \/ (m2=31/\es.size<=18) \/ (m2=127/\es.size<=76) \/ (m2=15/\es.size<=8) \/ (m2=63/\es.size<=37) \/ (m2=255/\es.size<=152)) (wk:w.params.followText "set-order"=true \/ (t.led=true/\t.plain=true)) {Q:Unit->Shared->Prop}
  (h:∀h' o' es' ep' t',NTS knd h' S o' es' ep' t' ks B->Heap.SameBut S s.heap h'->Q () { s with heap:=h' }):wpAny (model prog w) A (setRelay S want) Q E s:=by
 have fit:=fits_of T;unfold setRelay;refine wpAny_bind (wpAny_setState_of hat hd fit ?_);dsimp only;rw[if_neg (Nat.not_lt.mpr hw2)];obtain⟨t2,order,e1,e2,e3,e4,e5,e6,e7,e8⟩:=zgh hc ho t.finger (t.movedTo m2) t.led t.plain (es.map (·.1)) (by rw[Array.size_map]; exact hr);have er:t.relaid (es.map (·.1)) want=some (t2,order):=by
  unfold SetTable.relaid;rw[hw];exact e1
 rw[Array.size_map] at e5 e7;obtain⟨l',f1,f2,f3,f4⟩:=zfz (es:=es) e7;have eo:order.filterMap (es[·]?)=l'.toArray:=by
  apply Array.toList_inj.mp;rw[Array.toList_filterMap,f1]
 have hl:l'.length=es.size:=by rw[f2,Array.length_toList,e5]
 rw[er];refine wpAny_bind ?_;show wpAny _ _ (ite (((order.filterMap (es[·]?)).size != es.size)=true) _ _) _ _ _;rw[if_neg (by rw[eo,List.size_toArray,hl]; simp),eo];refine wpAny_pure ?_;dsimp only;have hes:(l'.toArray.map (·.1))=order.map fun q=>((es.map (·.1))[q]?).getD 0:=by
  apply Array.ext_getElem?;intro i;rw[Array.getElem?_map,Array.getElem?_map,List.getElem?_toArray];cases q:order[i]? with
  | none=>
   have:order.toList.length<=i:=by rw[Array.length_toList]; exact Array.getElem?_eq_none_iff.mp q
   rw[List.getElem?_eq_none (by omega)]
   rfl
  | some p=>
   have e:=f4 i p (by rw[Array.getElem?_toList]; exact q);have hp:=e7 p (by rw[<- Array.getElem?_toList] at q; exact List.mem_of_getElem? q);rw[e,getElem?_pos es p hp];simp[hp]
 have T2:Tb t2 (l'.toArray.map (·.1)):=by rw[hes]; exact e8
 have hne:∀q,q<es.size->q∈order.toList:=fun q hq=>Classical.byContradiction fun z=>by
  have nd2:(q::order.toList).Nodup:=List.nodup_cons.mpr ⟨z,e6⟩;have sub:(q::order.toList) ⊆ List.range es.size:=fun x hx=>by
   rcases List.mem_cons.mp hx with rfl | hx
   ·exact List.mem_range.mpr hq
   ·exact List.mem_range.mpr (e7 x hx)
  have:=nd2.length_le_of_subset sub;rw[List.length_cons,Array.length_toList,e5,List.length_range] at this;omega
 refine wpAny_storeSet_of hat hd ?_ (by rw[List.size_toArray,hl,sizeLine_eq]; omega);refine h _ { o with data:=.set l'.toArray (ep+1) t2 } l'.toArray (ep+1) t2 ?_ (Heap.SameBut.update ..);have sb:Heap.SameBut S s.heap (s.heap.update S (Obj.putSet l'.toArray t2)):=Heap.SameBut.update ..;refine⟨zaJ hat hd,hex,rfl,T2,by rw[List.size_toArray,hl]; exact hsz,nd,fun e he=>?_,fun k hk=>?_,?_,fun e he=>ad e (f3 e he),by rw[e3,e4]; exact wk⟩
 ·obtain⟨k,b,a1,a2,a3⟩:=el e (f3 e he)
  exact⟨k,b,a1,a2,zY a3 hat hd sb⟩
 ·obtain⟨b,a1,a2⟩:=ke k hk
  refine⟨b,?_,zY a2 hat hd sb⟩;obtain⟨q,hq,eq⟩:=List.mem_iff_getElem.mp a1;rw[Array.length_toList] at hq;obtain⟨i,hi,ei⟩:=List.mem_iff_getElem.mp (hne q hq);have e:=f4 i q (by rw[List.getElem?_eq_getElem hi,ei]);refine List.mem_of_getElem? (i:=i) ?_;rw[e,<- eq];simp[hq]
 ·rw[e2,List.size_toArray,hl]
  exact hmk
theorem zfR {B:List Addr}{S:Addr}{o:Obj}{es:Array (Int×Value)}{ep:Nat}{t:SetTable}{ks:List K} (X:NTS knd s.heap S o es ep t ks B) (hu:A.units+8<cLine)
  {k:K} {b:Addr} (hk:knd.is s.heap k b) (hbB:b∈B) (hn:ks.length<60) {Q:Bool->Shared->Prop}
  (h:∀(r:Bool) h' o' es' ep' t',NTS knd h' S o' es' ep' t' (if k∈ks then ks else ks++[k]) B->Heap.SameBut S s.heap h'->Q r { s with heap:=h' }):wpAny (model prog w) A (setAddHashed S (.ref b) (knd.hash k)) Q E s:=by
 unfold setAddHashed;refine wpAny_holding ?_;have T:=X.tb;have fit:=fits_of T;have X':NTS knd s.heap S o es ep t ks B:=X;unfold setAddHashedIn;refine wpAny_bind (wpAny_setState_of (s:=s) X.at_ X.dt fit ?_);dsimp only;have nb:byScan (.ref b) es=false:=rfl;rw[nb];simp only[Bool.false_eq_true,if_false];obtain⟨ne,hne,he,hm⟩:=zcm T (knd.hash k);refine wpAny_bind ?_;unfold setSearch;refine zd2 (s:=s) X' hu hk hne he hm (fun hin r0 _=>?_) (fun hout=>?_) 100000 0 none ?_ (Nat.zero_le _) rfl (fun m i c hm'=>absurd hm' (Nat.not_lt_zero _))
 ·dsimp only
  refine wpAny_pure (h false s.heap o es ep t ?_ (Heap.SameBut.refl ..));rw[if_pos hin];exact X
 ·dsimp only
  refine wpAny_bind (wpAny_setState_of (s:=s) X.at_ X.dt fit ?_);dsimp only;have hroom:(es.map (·.1)).size+1<=t.mask:=by
   rw[Array.size_map];rcases X.msk with ⟨a,b⟩ | ⟨a,b⟩ | ⟨a,b⟩ | ⟨a,b⟩ | ⟨a,b⟩ | ⟨a,b⟩ <;> omega
  obtain⟨p1,p2,p3⟩:=zhZ T he hm hroom;rw[Array.size_map] at p1;obtain⟨t1,p,eput⟩:∃t1 p,t.put (pos t.mask (knd.hash k) ne)=(t1,p):=⟨_,_,rfl⟩;rw[eput] at p1 p2 p3 ⊢;dsimp only at p1 p2 p3 ⊢;have hnin:k∉ks:=hout;have hsz2:(insertAt es p (knd.hash k,Value.ref b)).size=es.size+1:=zaX _ _ _ p1;have hlen:=X.sz;have hle:es.size<60:=by omega
  have hst:∀t2:SetTable,Tb t2 (insertAt (es.map (·.1)) p (knd.hash k))->t2.mask=t.mask->wpAny (model prog w) A (storeSet S (insertAt es p (knd.hash k,Value.ref b)) t2)
    (fun _ s'=>∃h',s'={ s with heap:=h' }/\h'.get? S=some { o with data:=.set (insertAt es p (knd.hash k,Value.ref b)) (ep+1) t2 }/\Heap.SameBut S s.heap h') E s:=fun t2 T2 m2=>
   wpAny_storeSet_of (s:=s) X.at_ X.dt ⟨_,rfl,zaJ X.at_ X.dt,Heap.SameBut.update ..⟩ (by rw[hsz2,sizeLine_eq]; omega)
  have emap:(insertAt es p (knd.hash k,Value.ref b)).map (·.1)=insertAt (es.map (·.1)) p (knd.hash k):=ins_map (·.1) es p _ p1;have knd2:(ks++[k]).Nodup:=by
   rw[List.nodup_append];refine⟨X.nd,by simp,fun x hx y hy=>?_⟩;rw[List.mem_singleton.mp hy];exact fun z=>hnin (z ▸ hx)
  have els:∀h',Heap.SameBut S s.heap h'->∀e∈(insertAt es p (knd.hash k,Value.ref b)).toList,∃k' b',k'∈ks++[k]/\e=(knd.hash k',Value.ref b')/\knd.is h' k' b':=fun h' hsb e he=>by
   rcases (ins_mem p1).mp he with rfl | he
   ·exact⟨k,b,by simp,rfl,zY hk X.at_ X.dt hsb⟩
   ·obtain⟨k',b',a1,a2,a3⟩:=X.el e he
    exact⟨k',b',List.mem_append_left _ a1,a2,zY a3 X.at_ X.dt hsb⟩
  have kes:∀h',Heap.SameBut S s.heap h'->∀k'∈ks++[k],∃b',(knd.hash k',Value.ref b')∈(insertAt es p (knd.hash k,Value.ref b)).toList/\knd.is h' k' b':=fun h' hsb k' hk'=>by
   rcases List.mem_append.mp hk' with hk' | hk'
   ·obtain⟨b',a1,a2⟩:=X.ke k' hk'
    exact⟨b',(ins_mem p1).mpr (.inr a1),zY a2 X.at_ X.dt hsb⟩
   ·rw[List.mem_singleton.mp hk']
    exact⟨b,(ins_mem p1).mpr (.inl rfl),zY hk X.at_ X.dt hsb⟩
  have ads:∀e∈(insertAt es p (knd.hash k,Value.ref b)).toList,∃b'∈B,e.2=Value.ref b':=fun e he=>by
   rcases (ins_mem p1).mp he with rfl | he
   ·exact⟨b,hbB,rfl⟩
   ·exact X.ad e he
  have hlast:∀(t2:SetTable) (h':Heap),Tb t2 (insertAt (es.map (·.1)) p (knd.hash k))->t2.mask=t.mask->(w.params.followText "set-order"=true \/ (t2.led=true/\t2.plain=true))->h'.get? S=some { o with data:=.set (insertAt es p (knd.hash k,Value.ref b)) (ep+1) t2 }->Heap.SameBut S s.heap h'->
    wpAny (model prog w) A (if (!false && t2.tooFull)=true then (setRelay S (SetTable.grown (es.size+1)) >>= fun _=>pure true) else pure true) Q E { s with heap:=h' }:=fun t2 h' T2 m2 wk2 hg hsb=>by
   have T2':Tb t2 ((insertAt es p (knd.hash k,Value.ref b)).map (·.1)):=by rw[emap]; exact T2
   have fl:t2.fill=es.size+1:=by
    unfold SetTable.fill;rw[T2'.dum,T2'.size,Array.size_map,hsz2]
    rfl
   have tf:t2.tooFull=decide ((es.size+1)*5 ≥ t.mask*3):=by unfold SetTable.tooFull; rw[fl,m2]
   have lk:es.size+1=(ks++[k]).length:=by rw[List.length_append,hlen]; rfl
   have stay:((es.size+1)*5<t.mask*3)->((t2.mask=7/\es.size+1<=4) \/ (t2.mask=31/\es.size+1<=18) \/ (t2.mask=127/\es.size+1<=76) \/ (t2.mask=15/\es.size+1<=8) \/ (t2.mask=63/\es.size+1<=37) \/ (t2.mask=255/\es.size+1<=152))->wpAny (model prog w) A (if (!false && t2.tooFull)=true then (setRelay S (SetTable.grown (es.size+1)) >>= fun _=>pure true) else pure true) Q E { s with heap:=h' }:=fun q mk=>by
    rw[tf,decide_eq_false (by omega)];simp only[Bool.and_false,Bool.false_eq_true,if_false];refine wpAny_pure (h true h' { o with data:=.set (insertAt es p (knd.hash k,Value.ref b)) (ep+1) t2 } (insertAt es p (knd.hash k,Value.ref b)) (ep+1) t2 ?_ hsb);rw[if_neg hnin];exact⟨hg,X.ex,rfl,T2',by rw[hsz2]; exact lk,knd2,els h' hsb,kes h' hsb,by rw[hsz2]; exact mk,ads,wk2⟩
   have grow:∀m3 n,es.size+1=n->((es.size+1)*5 ≥ t.mask*3)->SetTable.sizeAbove (SetTable.grown n) - 1=m3->SetTable.sizeAbove (SetTable.grown n)<=1000->Cov m3->m3 % 2=1->es.size+1<=m3->((m3=7/\es.size+1<=4) \/ (m3=31/\es.size+1<=18) \/ (m3=127/\es.size+1<=76) \/ (m3=15/\es.size+1<=8) \/ (m3=63/\es.size+1<=37) \/ (m3=255/\es.size+1<=152))->
     wpAny (model prog w) A (if (!false && t2.tooFull)=true then (setRelay S (SetTable.grown (es.size+1)) >>= fun _=>pure true) else pure true) Q E { s with heap:=h' }:=fun m3 n en q w1 w2 c1 c2 c3 mk=>by
    rw[tf,decide_eq_true q];simp only[Bool.not_false,Bool.and_self,if_true];subst en;refine wpAny_bind (zfc (s:={ s with heap:=h' }) (ks:=ks++[k]) hg X.ex rfl T2' (by rw[hsz2]; exact lk) knd2 ads (els h' hsb) (kes h' hsb) w1 (by rw[sizeLine_eq]; omega) c1 c2 (by rw[hsz2]; exact c3) (by rw[hsz2]; omega) (by rw[hsz2]; exact mk) wk2 fun h'' o'' es'' ep'' t'' X'' hsb2=>?_);refine wpAny_pure (h true h'' o'' es'' ep'' t'' ?_ (hsb.trans hsb2));rw[if_neg hnin];exact X''
   rcases X.msk with ⟨a,c⟩ | ⟨a,c⟩ | ⟨a,c⟩ | ⟨a,c⟩ | ⟨a,c⟩ | ⟨a,c⟩
   ·by_cases q:es.size+1<=4
    ·exact stay (by omega) (.inl ⟨by omega,q⟩)
    ·exact grow 31 5 (by omega) (by omega) (by decide +kernel) (by decide +kernel) cov31 rfl (by omega) (.inr (.inl ⟨rfl,by omega⟩))
   ·by_cases q:es.size+1<=18
    ·exact stay (by omega) (.inr (.inl ⟨by omega,q⟩))
    ·exact grow 127 19 (by omega) (by omega) (by decide +kernel) (by decide +kernel) cov127 rfl (by omega) (.inr (.inr (.inl ⟨rfl,by omega⟩)))
   ·exact stay (by omega) (.inr (.inr (.inl ⟨by omega,by omega⟩)))
   ·by_cases q:es.size+1<=8
    ·exact stay (by omega) (.inr (.inr (.inr (.inl ⟨by omega,q⟩))))
    ·exact grow 63 9 (by omega) (by omega) (by decide +kernel) (by decide +kernel) cov63 rfl (by omega) (.inr (.inr (.inr (.inr (.inl ⟨rfl,by omega⟩)))))
   ·by_cases q:es.size+1<=37
    ·exact stay (by omega) (.inr (.inr (.inr (.inr (.inl ⟨by omega,q⟩)))))
    ·exact grow 255 38 (by omega) (by omega) (by decide +kernel) (by decide +kernel) cov255 rfl (by omega) (.inr (.inr (.inr (.inr (.inr ⟨rfl,by omega⟩)))))
   ·exact stay (by omega) (.inr (.inr (.inr (.inr (.inr ⟨by omega,by omega⟩)))))
  have wk1:w.params.followText "set-order"=true \/ (t1.led=true/\t1.plain=true):=by
   have e1:t1=(t.put (pos t.mask (knd.hash k) ne)).1:=by rw[eput]
   have e2:t1.led=t.led:=by rw[e1]; rfl
   have e3:t1.plain=t.plain:=by rw[e1]; rfl
   rw[e2,e3];exact X.wk
  cases hpl:t1.plain with
  | true=>
   simp only[if_true];refine wpAny_bind (knd.hbv (s:=s) hk ?_);simp only[if_true];refine wpAny_bind (wpAny_mono (hst t1 p3 p2) (fun _ s' hs'=>?_) fun _ _ e=>e);obtain⟨h',rfl,g1,g2⟩:=hs';exact hlast t1 h' p3 p2 wk1 g1 g2
  | false=>
   simp only[Bool.false_eq_true,if_false];refine wpAny_bind (wpAny_pure ?_);simp only[if_true];refine wpAny_bind (wpAny_mono (hst t1 p3 p2) (fun _ s' hs'=>?_) fun _ _ e=>e);obtain⟨h',rfl,g1,g2⟩:=hs';exact hlast t1 h' p3 p2 wk1 g1 g2
 ·have:t.mask<=255:=by rcases X.msk with ⟨a,_⟩ | ⟨a,_⟩ | ⟨a,_⟩ | ⟨a,_⟩ | ⟨a,_⟩ | ⟨a,_⟩ <;> omega
  unfold turns at hne;omega
theorem zhK {B:List Addr}{S:Addr}{o:Obj}{es:Array (Int×Value)}{ep:Nat}{t:SetTable}{ks:List K} (X:NTS knd s.heap S o es ep t ks B) (hu:A.units+8<cLine)
  {k:K} {b:Addr} (hk:knd.is s.heap k b) (hbB:b∈B) (hn:ks.length<60) {Q:Bool->Shared->Prop}
  (h:∀(r:Bool) h' o' es' ep' t',NTS knd h' S o' es' ep' t' (if k∈ks then ks else ks++[k]) B->Heap.SameBut S s.heap h'->Q r { s with heap:=h',toks:=s.toks+knd.draws k }):wpAny (model prog w) A (setAdd S (.ref b)) Q E s:=by
 unfold setAdd;exact wpAny_holding (wpAny_bind (knd.pyHash hu hk (zfR (s:={ s with toks:=s.toks+knd.draws k }) X hu hk hbB hn h)))
end
end STb
end
section
set_option maxHeartbeats 3200000
namespace STb
open PySem PySem.SetTable PyProof.Rows
section
variable {prog:Program}{w:World}{K:Type} [DecidableEq K] {knd:NK prog w K}{A:Around}{R:Result->Shared->Prop}{I:Addr}{fp wr:List Addr}{G:Array GenState->Array GenState->Prop}{n:Nat}{P:Nat->Value->Prop}{St:Nat->Shared->Prop}
theorem NTS.moved {B:List Addr}{h h':Heap}{S:Addr}{o:Obj}{es:Array (Int×Value)}{ep:Nat}{t:SetTable}{ks:List K} (X:NTS knd h S o es ep t ks B) (hS:h'.get? S=some o) (hk:∀k b,knd.is h k b->knd.is h' k b):NTS knd h' S o es ep t ks B:=
 ⟨hS,X.ex,X.dt,X.tb,X.sz,X.nd,fun e he=>let ⟨k,b,a1,a2,a3⟩:=X.el e he; ⟨k,b,a1,a2,hk k b a3⟩,fun k hk'=>let ⟨b,a1,a2⟩:=X.ke k hk'; ⟨b,a1,hk k b a2⟩,X.msk,X.ad,X.wk⟩
theorem zfg {B:List Addr} (W:WalksS prog w A.in1 I fp wr G n P St) (hu:A.in1.units+8<cLine) (S:Addr) (hSf:S∉fp) (vals:List K) (adr:Nat->Addr) (hn:vals.length=n) (hB:∀i,i<n->adr i∈B) (hz:n<=59)
  (hval:∀i v,P i v->v=.ref (adr i)) (hna:∀b o,(∃items m,o.cls=Value.type "tuple"/\o.data=.seq items m)->∀s i,St i s->s.heap.get? b=some o->b∉wr) :
  ∀(k i:Nat) (s:Shared),n - i=k->i<=n->St i s->(∃o es ep t,NTS knd s.heap S o es ep t (dd (vals.take i)) B)->(∀(j:Nat) (x:K),vals[j]?=some x->knd.is s.heap x (adr j))->
   (∀s',Moved (S::wr) G s s'->(∃o es ep t,NTS knd s'.heap S o es ep t (dd vals) B)->R (.ok (.ret .none)) s')->codeAny (model prog w) A (.builtin "set.update.loop" ⟨[.ref S,.ref I],[]⟩) R s:=by
 have hSw:S∉wr:=fun h=>hSf (W.sub _ h);have hsub:∀b∈wr,b∈S::wr:=fun b hb=>List.mem_cons_of_mem _ hb;have kmove:∀{i:Nat} {s s':Shared} {x:K} {b:Addr},St i s->Moved wr G s s'->knd.is s.heap x b->knd.is s'.heap x b:=fun {i s s' x b} hst hm hk=>by
  exact knd.keep hk fun c o ht ho=>hm.heap c o (hna c o ht s i hst ho) ho
 intro k
 induction k with
 | zero=>
  intro i s hk hi hst hS hT hR;have hin:i=n:=by omega
  subst hin;refine codeAny_builtin F.entry_set_update_loop ?_;rw[Around.under_plainId F.plain_set_update_loop _];show wpAny _ A.in1 (pyNext (.ref I) >>= _) _ _ s;refine wpAny_bind (W.done s _ _ hst fun s' hm=>?_);show wpAny _ A.in1 (ret Value.none) _ _ s';refine wpAny_pure (hR s' (hm.mono hsub) ?_);obtain⟨o,es,ep,t,X⟩:=hS;rw[List.take_of_length_le (by omega)] at X;exact⟨o,es,ep,t,X.moved (hm.heap S _ hSw X.at_) fun k b hk=>kmove hst hm hk⟩
 | succ k ih=>
  intro i s hk hi hst hS hT hR;have hlt:i<n:=by omega
  refine codeAny_builtin F.entry_set_update_loop ?_;rw[Around.under_plainId F.plain_set_update_loop _];show wpAny _ A.in1 (pyNext (.ref I) >>= _) _ _ s;refine wpAny_bind (W.item i s _ _ hlt hst fun v s' hP hst' hm=>?_);obtain rfl:=hval i v hP;obtain⟨o,es,ep,t,X⟩:=hS;have X':NTS knd s'.heap S o es ep t (dd (vals.take i)) B:=X.moved (hm.heap S _ hSw X.at_) fun k b hk=>kmove hst hm hk;have hx:vals[i]?=some vals[i]:=List.getElem?_eq_getElem (by omega);have hlen:=zaM (vals.take i);rw[List.length_take] at hlen;show wpAny _ A.in1 (holding [Value.ref (adr i)] (setAdd S (.ref (adr i))) >>= _) _ _ s';refine wpAny_bind (wpAny_holding (zhK X' hu (kmove hst hm (hT i _ hx)) (hB i hlt) (by omega) fun r h' o' es' ep' t' X2 hsb=>?_));have htk:s'.toks<=s'.toks+knd.draws vals[i]:=Nat.le_add_right _ _;have st2:St (i+1) { s' with heap:=h',toks:=s'.toks+knd.draws vals[i] }:=W.frame _ s' _ _ hst' htk fun b hb o2 e=>by
   rw[hsb.2 b (fun h:b=S=>hSf (by rw[<- h]; exact hb))]; exact e
  have etake:vals.take (i+1)=vals.take i++[vals[i]]:=by rw[List.take_add_one,hx]; rfl
  have X3:NTS knd h' S o' es' ep' t' (dd (vals.take (i+1))) B:=by
   rw[etake,zbl]
   by_cases q:vals[i]∈dd (vals.take i)
   ·rw[if_pos q] at X2 ⊢; exact X2
   ·rw[if_neg q] at X2 ⊢; exact X2
  refine wpAny_pure ⟨plainId_quiet F.plain_set_update_loop _,ih (i+1) _ (by omega) hlt st2 ⟨o',es',ep',t',X3⟩ (fun j x hj=>zY (kmove hst hm (hT j x hj)) X'.at_ X'.dt hsb) fun s'' hm'' hS''=>?_⟩;refine hR s'' (Moved.trans W.gtrans ((hm.mono hsub).then_heap htk fun b o2 hb e=>?_) hm'') hS'';rw[hsb.2 b (fun h:b=S=>hb (by rw[h]; exact List.mem_cons_self))]; exact e
end
end STb
end
section
namespace STb
open PySem PySem.SetTable PyProof.Rows
section
variable {prog:Program}{w:World}{K:Type} [DecidableEq K] {knd:NK prog w K}{A:Around}{E:Value->Shared->Prop}{s:Shared}
theorem zbf {B:List Addr}{l:Addr}{items:Array Value}{vals:List K}{adr:Nat->Addr}{Q:Value->Shared->Prop}
  (hh:A.handled=none) (hl:s.heap.IsList l items) (hu:A.units+64<cLine) (hz:items.size<=59) (hn:vals.length=items.size) (hB:∀i,i<items.size->adr i∈B)
  (hit:∀(i:Nat) v,items[i]?=some v->v=.ref (adr i)) (hT:∀(j:Nat) x,vals[j]?=some x->knd.is s.heap x (adr j))
  (h:∀h' tk,(∃o es ep t,NTS knd h' s.heap.objs.size o es ep t (dd vals) B)->(∀b o,b<s.heap.objs.size->s.heap.get? b=some o->h'.get? b=some o)->Q (.ref s.heap.objs.size) { s with heap:=h',toks:=tk }) :
  wpAny (model prog w) A (call (.type "set") [.ref l]) Q E s:=by
 obtain⟨c,tl,hmro⟩:=F.called_set.mro;have hmade:=F.called_set.made;have hsub:=F.called_set.sub;refine wpAny_call (codeAny_of_tree ?_);show wpAny _ _ (callAny (.type "set") _) _ _ _;refine wpAny_pure ⟨Code.quiet_builtin _ (by decide +kernel),codeAny_builtin F.entry_type_call ?_⟩;rw[Around.under_plain (weight_type_call_type "set" [.ref l] []) rfl];have h1:=F.called_set.notType;have h2:=F.called_set.canCreate;have hct:=F.typeCall_set_1 (.ref l)
 repeat (any_goals (first | assumption | wp_step))
 refine codeAny_mono (zez (.ref l) (E:=E) (Q₁:=fun obj s₁=>∃led:Bool,(w.params.followText "set-order"=true \/ led=true)/\obj=.ref s.heap.objs.size/\s₁={ s with heap:=s.heap.push { cls:=.type "set",dict:=none,data:=.set #[] 0 (.fresh 0 0 led) } }) ⟨_,by cases w.params.followText "set-order" <;> simp,rfl,rfl⟩) fun r s₁ hr=>?_;cases r with
 | error e=>exact hr
 | ok fl=>
  cases fl with
  | ret obj=>
   obtain⟨led,hled,rfl,rfl⟩:=hr;have hS:(s.heap.push { cls:=.type "set",dict:=none,data:=.set #[] 0 (.fresh 0 0 led) }).get? s.heap.objs.size=some { cls:=.type "set",dict:=none,data:=.set #[] 0 (.fresh 0 0 led) }:=Heap.get?_push_size _ rfl;have hTy:Shared.TypeIs { s with heap:=s.heap.push { cls:=.type "set",dict:=none,data:=.set #[] 0 (.fresh 0 0 led) } } (.ref s.heap.objs.size) "set":=⟨_,hS,rfl⟩;have hli:=F.called_set.init.lookup;have hbi:=F.called_set.init.bind (.ref s.heap.objs.size)
   repeat (any_goals (first | assumption | wp_step))
   refine codeAny_mono (codeAny_call_builtin (R:=wants (fun r s₂=>r=.none/\∃h' tk,s₂={ s with heap:=h',toks:=tk }/\
     (∃o es ep t,NTS knd h' s.heap.objs.size o es ep t (dd vals) B)/\
     (∀b o,b<s.heap.objs.size->s.heap.get? b=some o->h'.get? b=some o)) E) F.called_set.init.plain F.entry_set_init (check_set_init_1 hTy ?_)) fun r₂ s₂ hr₂=>?_
   ·obtain⟨ol,hol,hcl,nl,hdl⟩:=hl
    obtain⟨ocls,odict,odata,oslots⟩:=ol;simp only at hcl hdl;subst hcl; subst hdl;have hol':(s.heap.push { cls:=.type "set",dict:=none,data:=.set #[] 0 (.fresh 0 0 led) }).get? l=some { cls:=.type "list",dict:=odict,data:=.seq items nl,slots:=oslots }:=Heap.get?_push_of_some _ hol;have hsls:=F.sub_list_set;have hslf:=F.sub_list_frozenset;have hne:(Value.type "list" == Value.type "dict")=false:=by decide
    have hl1:(s.heap.push { cls:=.type "set",dict:=none,data:=.set #[] 0 (.fresh 0 0 led) }).IsList l items:=⟨_,hol',rfl,nl,rfl⟩;unfold Builtin.«set.__init__» noKeywords Builtin.Frozenset.updateFrom;generalize hPI:pyIter=PI
    wp_walk
    subst hPI;refine wpAny_pyIter_list hl1 ?_;refine wpAny_bind (wpAny_runValue ?_);have hlS:l<s.heap.objs.size:=Heap.lt_size hol;have hh3:A.in1.in1.in1.handled=none:=by simp[hh]
    have hneI:l≠(s.heap.push { cls:=.type "set",dict:=none,data:=.set #[] 0 (.fresh 0 0 led) }).objs.size:=by
     rw[Heap.size_push]; exact Nat.ne_of_lt (Nat.lt_succ_of_lt hlS)
    have hSf:s.heap.objs.size∉[(s.heap.push { cls:=.type "set",dict:=none,data:=.set #[] 0 (.fresh 0 0 led) }).objs.size,l]:=by
     rw[Heap.size_push]; simp only[List.mem_cons,List.mem_singleton,List.not_mem_nil,or_false,not_or];exact⟨Nat.ne_of_lt (Nat.lt_succ_self _),Nat.ne_of_gt hlS⟩
    refine zfg (knd:=knd) ((Walks.list hh3 _ l hneI items).toS) (by show A.units+1+1+1+8<cLine; omega) s.heap.objs.size hSf vals adr hn hB hz (fun i v q=>hit i v q) (fun b o ho s' i st e hb=>?hna)
     (items.size - 0) 0 _ (by omega) (Nat.zero_le _) ⟨⟨_,Heap.get?_push_size _ rfl,rfl,rfl⟩,(hl1.push _)⟩ ⟨{ cls:=.type "set",dict:=none,data:=.set #[] 0 (.fresh 0 0 led) },#[],0,.fresh 0 0 led,?hS0⟩ (fun j x hx=>knd.keep (hT j x hx) fun c o _ e=>Heap.get?_push_of_some _ (Heap.get?_push_of_some _ e)) ?hR
    case hna=>
     obtain⟨⟨oi,e1,e2,_⟩,_⟩:=st;obtain⟨its,m,hc,_⟩:=ho;simp only[List.mem_singleton] at hb;subst hb;have e3:=Option.some.inj (e1.symm.trans e);rw[<- e3,e2] at hc;exact absurd hc (by decide)
    case hS0=>
     have hget:((s.heap.push { cls:=.type "set",dict:=none,data:=.set #[] 0 (.fresh 0 0 led) }).push { cls:=.type "list_iterator",data:=.fields #[.ref l,.int 0 0] }).get? s.heap.objs.size
      =some { cls:=.type "set",dict:=none,data:=.set #[] 0 (.fresh 0 0 led) }:=Heap.get?_push_of_some _ hS
     exact⟨hget,⟨rfl,rfl,rfl⟩,rfl,(by simpa using zes 0 0 led),rfl,List.nodup_nil,fun e he=>by simp at he,fun k hk=>by simp[dd] at hk,.inl ⟨rfl,Nat.zero_le _⟩,(fun e he=>by simp at he),hled.imp id fun z=>⟨z,rfl⟩⟩
    case hR=>
     intro s' hm hS';obtain⟨h',g',d',tk',os'⟩:=s';have eg:g'=s.gens:=hm.gens;have ed:d'=s.drawn:=hm.drawn;have eo:os'=s.os:=hm.os;subst eg; subst ed; subst eo;show wpAny _ _ _ _ _ _;refine wpAny_pure ?_;show wpAny _ _ (ret Value.none) _ _ _;refine wpAny_pure ⟨rfl,h',tk',rfl,hS',fun b o hb e=>?_⟩;have hb1:b≠s.heap.objs.size:=Nat.ne_of_lt hb;have hb2:b≠(s.heap.push { cls:=.type "set",dict:=none,data:=.set #[] 0 (.fresh 0 0 led) }).objs.size:=by
      rw[Heap.size_push]; exact Nat.ne_of_lt (Nat.lt_succ_of_lt hb)
     exact hm.heap b o (by simp only[List.mem_cons,List.mem_singleton,List.not_mem_nil,or_false,not_or]; exact⟨hb1,hb2⟩) (Heap.get?_push_of_some _ (Heap.get?_push_of_some _ e))
   ·cases r₂ with
    | error e=>exact hr₂
    | ok fl₂=>
     cases fl₂ with
     | ret r=>
      obtain⟨rfl,h',tk,rfl,hS',hk'⟩:=hr₂
      repeat (any_goals (first | assumption | wp_step))
      exact h _ _ hS' hk'
     | _=>exact hr₂.elim
  | _=>exact hr.elim
end
end STb
end
section
namespace L2
open PySem PySem.Spec PyProof.Rows STb
def PrK (h:Heap) (x:List Int×List Int) (b:Addr):Prop:=∃(a1 a2:Addr) (cs ds:List Value),IsTup h b #[.ref a1,.ref a2]/\IsTup h a1 cs.toArray/\IntsAre cs x.1/\IsTup h a2 ds.toArray/\IntsAre ds x.2
theorem zhF {h:Heap}{b:Addr}{xs ys:Array Value} (h1:IsTup h b xs) (h2:IsTup h b ys):xs=ys:=by
 obtain⟨o,e,_,n,d⟩:=h1;obtain⟨o',e',_,n',d'⟩:=h2;obtain rfl:o=o':=Option.some.inj (e.symm.trans e');rw[d] at d';injection d' with z _
theorem PrK.inj {h:Heap}{a:Addr}{x y:List Int×List Int} (prog:Program) (w:World) (h1:PrK h x a) (h2:PrK h y a):x=y:=by
 obtain⟨a1,a2,cs,ds,t,t1,i1,t2,i2⟩:=h1;obtain⟨b1,b2,es,fs,u,u1,j1,u2,j2⟩:=h2;have e:=zhF t u;have e1:a1=b1:=by injection e with e; injection e with e _; injection e
 have e2:a2=b2:=by injection e with e; injection e with _ e; injection e with e _; injection e
 subst e1; subst e2;have q1:=IsTupleKey.inj (zL (prog:=prog) (w:=w) t1 i1) (zL u1 j1);have q2:=IsTupleKey.inj (zL (prog:=prog) (w:=w) t2 i2) (zL u2 j2);exact Prod.ext q1 q2
theorem zcy {h h':Heap}{b:Addr}{xs:Array Value} (t:IsTup h b xs) (k:∀c o,(∃items m,o.cls=Value.type "tuple"/\o.data=.seq items m)->h.get? c=some o->h'.get? c=some o):IsTup h' b xs:=by
 obtain⟨o,e,hc,n,d⟩:=t;exact⟨o,k b o ⟨xs,n,hc,d⟩ e,hc,n,d⟩
def zf2 (prog:Program) (w:World) (x:List Int×List Int):Int:=reduceHash (Builtin.Tuple.tupleHashOf [tupleKeyHash (intKind prog w) x.1,tupleKeyHash (intKind prog w) x.2])
section
variable {prog:Program}{w:World}{A:Around}{E:Value->Shared->Prop}{s:Shared}
theorem zeu {b:Addr}{xs:Array Value} (t:IsTup s.heap b xs):s.TypeIs (.ref b) "tuple":=let ⟨o,e,hc,_⟩:=t; ⟨o,e,hc⟩
theorem zjc {x:List Int×List Int}{a:Addr}{Q:Int->Shared->Prop} (hu:A.units+8<cLine) (hk:PrK s.heap x a) (h:Q (zf2 prog w x) { s with toks:=s.toks+(x.1.length+1+(x.2.length+1)+1) }) :
  wpAny (model prog w) A (pyHash (.ref a)) Q E s:=by
 obtain⟨a1,a2,cs,ds,t,t1,i1,t2,i2⟩:=hk;have hT:=zeu t;obtain⟨o,ho,_,n,hd⟩:=t;have k1:=zL (prog:=prog) (w:=w) t1 i1;have k2:=zL (prog:=prog) (w:=w) t2 i2;unfold pyHash
 first | unfold pyHashByItsType | skip
 first | refine wpAny_bind (wpAny_cRoomFor_or (.inr (by omega)) ?_) | skip
 refine wpAny_bind (wpAny_specialOf hT F.slot_tuple_hash.lookup ?_);show wpAny _ _ (if (some (Value.builtin "tuple.__hash__") == some Value.none)=true then _ else _) Q E s;rw[if_neg (by rw[beq_builtin_none]; exact Bool.false_ne_true)];refine wpAny_bind (wpAny_specialOf hT F.slot_tuple_hash.lookup ?_);show wpAny _ _ (callSpecialIfBoundUnlessNone? (.ref a) "__hash__" _ >>= _) Q E s;refine wpAny_bind (wpAny_callSpecialIfBoundUnlessNone?_slot hT F.slot_tuple_hash (wpAny_call_entry F.slot_tuple_hash hT F.entry_tuple_hash ?_ (F.args_tuple_hash_1 _)));show wpAny _ _ (Builtin.Tuple.tupleItemsOf (.ref a) >>= _) _ _ s;refine wpAny_bind (wpAny_tupleItemsOf ho hd ?_);refine wpAny_bind ?_;rw[<- Array.forIn_toList];refine wpAny_forIn_list _
  (fun rest (b:Array Int) s'=>(rest=[.ref a1,.ref a2]/\b.toList=[]/\s'=s) \/ (rest=[.ref a2]/\b.toList=[tupleKeyHash (intKind prog w) x.1]/\s'={ s with toks:=s.toks+(x.1.length+1) }) \/
   (rest=[]/\b.toList=[tupleKeyHash (intKind prog w) x.1,tupleKeyHash (intKind prog w) x.2]/\s'={ s with toks:=s.toks+(x.1.length+1)+(x.2.length+1) }))
  _ ?_ ?_ _ _ (.inl ⟨rfl,rfl,rfl⟩)
 ·rintro v rest b s' (⟨e,hb,rfl⟩ | ⟨e,hb,rfl⟩ | ⟨e,_⟩)
  ·injection e with e1 e2
   subst e1;refine wpAny_bind (wpAny_pyHash_tuple (knd:=intKind prog w) (by show A.units+1<cLine; omega) k1 ?_)
   first
    | exact wpAny_pure (.inr (.inl ⟨e2,by simp[hb],rfl⟩))
    | exact wpAny_bind (wpAny_pure (wpAny_pure (.inr (.inl ⟨e2,by simp[hb],rfl⟩))))
  ·injection e with e1 e2
   subst e1;refine wpAny_bind (wpAny_pyHash_tuple (knd:=intKind prog w) (by show A.units+1<cLine; omega) k2 ?_)
   first
    | exact wpAny_pure (.inr (.inr ⟨e2,by simp[hb],rfl⟩))
    | exact wpAny_bind (wpAny_pure (wpAny_pure (.inr (.inr ⟨e2,by simp[hb],rfl⟩))))
  ·cases e
 ·rintro b s' (⟨e,_⟩ | ⟨e,_⟩ | ⟨_,hb,rfl⟩)
  ·cases e
  ·cases e
  show wpAny _ _ (retInt (Builtin.Tuple.tupleHashOf b.toList)) _ _ _;rw[hb];refine wpAny_ret_mkInt ?_;unfold zf2 reduceHash at h;generalize Builtin.Tuple.tupleHashOf [tupleKeyHash (intKind prog w) x.1,tupleKeyHash (intKind prog w) x.2]=z at h ⊢;show wpAny _ _ (if (decide (-(2:Int) ^ 63<=z) && decide (z<2 ^ 63))=true then _ else _) Q E _
  by_cases hr:(decide (-(2:Int) ^ 63<=z) && decide (z<2 ^ 63))=true
  ·rw[if_pos hr]
   rw[if_pos hr] at h;exact wpAny_pure (by simpa[Nat.add_assoc] using h)
  ·rw[if_neg hr]
   rw[if_neg hr] at h;exact wpAny_bind (wpAny_rule (wpAny_pure (by simpa[Nat.add_assoc] using h)))
theorem zcl {h:Heap}{b:Addr}{xs:Array Value} (t:IsTup h b xs):h.IsTuple b xs:=t
theorem zgb (prog:Program) (w:World) {x y:List Int×List Int}{a b:Addr} (hu:A.units+8<cLine) (hx:PrK s.heap x a) (hy:PrK s.heap y b):SeqAt.EqAt A s (.ref a) (.ref b) (decide (x=y)):=by
 by_cases e:a=b
 ·subst e
  have:=PrK.inj prog w hx hy;subst this;rw[decide_eq_true rfl];exact .same _
 ·obtain⟨a1,a2,cs,ds,t,t1,i1,t2,i2⟩:=hx
  obtain⟨b1,b2,es,fs,u,u1,j1,u2,j2⟩:=hy;have:=SeqAt.RcAt.tuples (A:=A) (e:=fun j=>if j=0 then decide (x.1=y.1) else decide (x.2=y.2)) (zcl t) (zcl u) (by omega) (fun j h1 h2=>?_)
  ·refine .of_refs e ?_
   have ee:decide (x=y)=((List.range (min (#[Value.ref a1,.ref a2]:Array Value).size (#[Value.ref b1,.ref b2]:Array Value).size)).all (fun j=>if j=0 then decide (x.1=y.1) else decide (x.2=y.2)) && (#[Value.ref a1,.ref a2]:Array Value).size == (#[Value.ref b1,.ref b2]:Array Value).size):=by
    show decide (x=y)=(((decide (x.1=y.1)) && ((decide (x.2=y.2)) && true)) && true);rw[Bool.and_true,Bool.and_true,<- Bool.decide_and];exact decide_eq_decide.mpr Prod.ext_iff
   rw[ee];exact this
  ·have hj:j=0 \/ j=1:=by simp at h1; omega
   rcases hj with rfl | rfl
   ·exact fun prog w E Q q=>wpAny_eqBool_tuple (by show A.units+1<cLine; omega) (zL (prog:=prog) (w:=w) t1 i1) (zL u1 j1) q
   ·exact fun prog w E Q q=>wpAny_eqBool_tuple (by show A.units+1<cLine; omega) (zL (prog:=prog) (w:=w) t2 i2) (zL u2 j2) q
theorem zds {ks:List Int}{a:Addr}{Q:Bool->Shared->Prop} (hk:IsTupleKey (intKind prog w) s.heap ks a) (h:Q true s):wpAny (model prog w) A (eqIsQuiet 7 (.ref a)) Q E s:=by
 have hT:=hk.typeIs;obtain⟨o,items,n,ho,_,hd,hi⟩:=hk;unfold eqIsQuiet;refine wpAny_bind (wpAny_specialOf hT F.slot_tuple_eq.lookup ?_);show wpAny _ _ (isInstance (.ref a) (.type "tuple") >>= _) _ _ s;refine wpAny_bind (wpAny_isInstance hT isSubtype_tuple_tuple ?_);simp only[Bool.not_true,Bool.false_eq_true,if_false];refine wpAny_bind (wpAny_seqItems ho hd ?_);refine wpAny_bind ?_;show wpAny _ _ (forIn items _ _) _ _ s;rw[<- Array.forIn_toList];refine wpAny_forIn_list _ (fun rest r s'=>r.1=none/\s'=s/\∀v∈rest,carriedByValue v=true) _ ?_ ?_ _ _ ⟨rfl,rfl,hi.byValue⟩
 ·rintro v rest r s' ⟨hr,rfl,hall⟩
  rw[eqIsQuiet_byValue _ (hall v List.mem_cons_self)];refine wpAny_bind (wpAny_pure ?_);simp only[Bool.not_true,Bool.false_eq_true,if_false];exact wpAny_pure ⟨rfl,rfl,fun u hu'=>hall u (List.mem_cons_of_mem _ hu')⟩
 ·rintro⟨r1,r2⟩ s' ⟨hr,rfl,_⟩
  simp only at hr;subst hr;exact wpAny_pure h
theorem zeH {ks:List Int}{b:Addr}{Q:Bool->Shared->Prop} (hk:IsTupleKey (intKind prog w) s.heap ks b) (h:Q false s):wpAny (model prog w) A (ofAClassStatement 7 (.ref b)) Q E s:=by
 have hT:=hk.typeIs;obtain⟨o,items,n,ho,_,hd,hi⟩:=hk;unfold ofAClassStatement;refine wpAny_bind (wpAny_typeOf hT ?_);show wpAny _ _ ((if ("tuple" == "tuple")=true then pure true else isSubtype (.type "tuple") (.type "tuple")) >>= _) _ _ s;rw[if_pos (by decide)];refine wpAny_bind (wpAny_pure ?_);simp only[Bool.not_true,Bool.false_eq_true,if_false];refine wpAny_bind (wpAny_seqItems ho hd ?_);refine wpAny_bind ?_;show wpAny _ _ (forIn items _ _) _ _ s;rw[<- Array.forIn_toList];refine wpAny_forIn_list _ (fun rest r s'=>r.1=none/\s'=s/\∀v∈rest,carriedByValue v=true) _ ?_ ?_ _ _ ⟨rfl,rfl,hi.byValue⟩
 ·rintro v rest r s' ⟨hr,rfl,hall⟩
  rw[zeJ _ (hall v List.mem_cons_self)];refine wpAny_bind (wpAny_pure ?_);simp only[Bool.false_eq_true,if_false];exact wpAny_pure ⟨rfl,rfl,fun u hu'=>hall u (List.mem_cons_of_mem _ hu')⟩
 ·rintro⟨r1,r2⟩ s' ⟨hr,rfl,_⟩
  simp only at hr;subst hr;exact wpAny_pure h
theorem zgr {ks:List Int}{b:Addr}{Q:Bool->Shared->Prop} (hk:IsTupleKey (intKind prog w) s.heap ks b) (h:Q true s):wpAny (model prog w) A (hashByValue 7 (.ref b)) Q E s:=by
 have hT:=hk.typeIs;obtain⟨o,items,n,ho,_,hd,hi⟩:=hk;unfold hashByValue;refine wpAny_bind (wpAny_specialOf hT F.slot_tuple_hash.lookup ?_);dsimp only;refine wpAny_bind (wpAny_seqItems ho hd ?_);refine wpAny_bind ?_;show wpAny _ _ (forIn items _ _) _ _ s;rw[<- Array.forIn_toList];refine wpAny_forIn_list _ (fun rest r s'=>r.1=none/\s'=s/\∃ks',ItemsAre (intKind prog w) ks' rest) _ ?_ ?_ _ _ ⟨rfl,rfl,ks,hi⟩
 ·rintro v rest r s' ⟨hr,rfl,ks',hi'⟩
  cases hi' with
  | @cons k _ ks'' _ h1 h2=>
   rw[zfj k v 6 h1];refine wpAny_bind (wpAny_pure ?_);simp only[Bool.not_true,Bool.false_eq_true,if_false];exact wpAny_pure ⟨rfl,rfl,ks'',h2⟩
 ·rintro⟨r1,r2⟩ s' ⟨hr,rfl,_⟩
  simp only at hr;subst hr;exact wpAny_pure h
theorem ziT {x:List Int×List Int}{a:Addr}{Q:Bool->Shared->Prop} (hk:PrK s.heap x a) (h:Q false s):wpAny (model prog w) A (ofAClassStatement 8 (.ref a)) Q E s:=by
 obtain⟨a1,a2,cs,ds,t,t1,i1,t2,i2⟩:=hk;have hT:=zeu t;have k1:=zL (prog:=prog) (w:=w) t1 i1;have k2:=zL (prog:=prog) (w:=w) t2 i2;obtain⟨o,ho,_,n,hd⟩:=t;unfold ofAClassStatement;refine wpAny_bind (wpAny_typeOf hT ?_);show wpAny _ _ ((if ("tuple" == "tuple")=true then pure true else isSubtype (.type "tuple") (.type "tuple")) >>= _) _ _ s;rw[if_pos (by decide)];refine wpAny_bind (wpAny_pure ?_);simp only[Bool.not_true,Bool.false_eq_true,if_false];refine wpAny_bind (wpAny_seqItems ho hd ?_);refine wpAny_bind ?_;show wpAny _ _ (forIn #[Value.ref a1,.ref a2] _ _) _ _ s;rw[<- Array.forIn_toList];refine wpAny_forIn_list _ (fun rest r s'=>r.1=none/\s'=s/\∀v∈rest,v=.ref a1 \/ v=.ref a2) _ ?_ ?_ _ _ ⟨rfl,rfl,by simp⟩
 ·rintro v rest r s' ⟨hr,rfl,hall⟩
  have q:∀{Q:Bool->Shared->Prop},Q false s'->wpAny (model prog w) A (ofAClassStatement 7 v) Q E s':=fun {Q} z=>by
   rcases hall v List.mem_cons_self with rfl | rfl
   ·exact zeH k1 z
   ·exact zeH k2 z
  refine wpAny_bind (q ?_);simp only[Bool.false_eq_true,if_false];exact wpAny_pure ⟨rfl,rfl,fun u hu'=>hall u (List.mem_cons_of_mem _ hu')⟩
 ·rintro⟨r1,r2⟩ s' ⟨hr,rfl,_⟩
  simp only at hr;subst hr;exact wpAny_pure h
theorem zkg {x:List Int×List Int}{a:Addr}{Q:Bool->Shared->Prop} (hk:PrK s.heap x a) (h:Q true s):wpAny (model prog w) A (hashByValue 8 (.ref a)) Q E s:=by
 obtain⟨a1,a2,cs,ds,t,t1,i1,t2,i2⟩:=hk;have hT:=zeu t;have k1:=zL (prog:=prog) (w:=w) t1 i1;have k2:=zL (prog:=prog) (w:=w) t2 i2;obtain⟨o,ho,_,n,hd⟩:=t;unfold hashByValue;refine wpAny_bind (wpAny_specialOf hT F.slot_tuple_hash.lookup ?_);dsimp only;refine wpAny_bind (wpAny_seqItems ho hd ?_);refine wpAny_bind ?_;show wpAny _ _ (forIn #[Value.ref a1,.ref a2] _ _) _ _ s;rw[<- Array.forIn_toList];refine wpAny_forIn_list _ (fun rest r s'=>r.1=none/\s'=s/\∀v∈rest,v=.ref a1 \/ v=.ref a2) _ ?_ ?_ _ _ ⟨rfl,rfl,by simp⟩
 ·rintro v rest r s' ⟨hr,rfl,hall⟩
  have q:∀{Q:Bool->Shared->Prop},Q true s'->wpAny (model prog w) A (hashByValue 7 v) Q E s':=fun {Q} z=>by
   rcases hall v List.mem_cons_self with rfl | rfl
   ·exact zgr k1 z
   ·exact zgr k2 z
  refine wpAny_bind (q ?_);simp only[Bool.not_true,Bool.false_eq_true,if_false];exact wpAny_pure ⟨rfl,rfl,fun u hu'=>hall u (List.mem_cons_of_mem _ hu')⟩
 ·rintro⟨r1,r2⟩ s' ⟨hr,rfl,_⟩
  simp only at hr;subst hr;exact wpAny_pure h
theorem zhk {x:List Int×List Int}{a:Addr}{Q:Bool->Shared->Prop} (hk:PrK s.heap x a) (h:Q true s):wpAny (model prog w) A (eqIsQuiet 8 (.ref a)) Q E s:=by
 obtain⟨a1,a2,cs,ds,t,t1,i1,t2,i2⟩:=hk;have hT:=zeu t;have k1:=zL (prog:=prog) (w:=w) t1 i1;have k2:=zL (prog:=prog) (w:=w) t2 i2;obtain⟨o,ho,_,n,hd⟩:=t;unfold eqIsQuiet;refine wpAny_bind (wpAny_specialOf hT F.slot_tuple_eq.lookup ?_);show wpAny _ _ (isInstance (.ref a) (.type "tuple") >>= _) _ _ s;refine wpAny_bind (wpAny_isInstance hT isSubtype_tuple_tuple ?_);simp only[Bool.not_true,Bool.false_eq_true,if_false];refine wpAny_bind (wpAny_seqItems ho hd ?_);refine wpAny_bind ?_;show wpAny _ _ (forIn #[Value.ref a1,.ref a2] _ _) _ _ s;rw[<- Array.forIn_toList];refine wpAny_forIn_list _ (fun rest r s'=>r.1=none/\s'=s/\∀v∈rest,v=.ref a1 \/ v=.ref a2) _ ?_ ?_ _ _ ⟨rfl,rfl,by simp⟩
 ·rintro v rest r s' ⟨hr,rfl,hall⟩
  have q:∀{Q:Bool->Shared->Prop},Q true s'->wpAny (model prog w) A (eqIsQuiet 7 v) Q E s':=fun {Q} z=>by
   rcases hall v List.mem_cons_self with rfl | rfl
   ·exact zds k1 z
   ·exact zds k2 z
  refine wpAny_bind (q ?_);simp only[Bool.not_true,Bool.false_eq_true,if_false];exact wpAny_pure ⟨rfl,rfl,fun u hu'=>hall u (List.mem_cons_of_mem _ hu')⟩
 ·rintro⟨r1,r2⟩ s' ⟨hr,rfl,_⟩
  simp only at hr;subst hr;exact wpAny_pure h
end
def prNK (prog:Program) (w:World):NK prog w (List Int×List Int) where
 is:=PrK
 hash:=zf2 prog w
 draws:=fun x=>x.1.length+1+(x.2.length+1)+1
 inj:=fun h1 h2=>PrK.inj prog w h1 h2
 keep:=fun ⟨a1,a2,cs,ds,t,t1,i1,t2,i2⟩ k=>⟨a1,a2,cs,ds,zcy t k,zcy t1 k,i1,zcy t2 k,i2⟩
 pyHash:=fun hu hk h=>zjc hu hk h
 eqBool:=fun hu hx hy h=>zgb prog w hu hx hy prog w _ _ h
 quiet:=fun hk h=>zhk hk h
 oacs:=fun hk h=>ziT hk h
 hbv:=fun hk h=>zkg hk h
section
variable {X:Cx}
theorem zf6 {pins:List (Addr×Obj)}{σ:St}{H:Hp}{s:Shared}{t:Addr}{x:Pp} (I:Inv X pins σ H s) (h:Pr2 H t x):PrK s.heap x t:=by
 obtain⟨a,b,ht,ha,hb⟩:=h;obtain⟨its,r,p,_⟩:=I.tuple (SqT.of (K:=X.K) ht);obtain rfl:=vals_refs (as:=[a,b]) r;obtain⟨i1,r1,p1,_⟩:=I.tuple (SqT.of (K:=X.K) ha);obtain⟨i2,r2,p2,_⟩:=I.tuple (SqT.of (K:=X.K) hb);exact⟨a,b,i1,i2,p,p1,intsAre_of r1,p2,intsAre_of r2⟩
theorem zdw (hc:X.calm=true) (hu:X.A.units+64<cLine):zaz X (.type "set") (fun xs H Q=>∃(l:Addr) (ts:List Addr) (ps:List Pp),xs=[.ref l]/\SqL X.K H l (ts.map V.ref)/\Prs2 H ts ps/\ps.length<=59/\
  ∀D,H D=none->Q (.ref D) (upd H D (SetN D (STb.dd ps).length))):=by
 intro pins s σ H xs us Q I r h;obtain⟨l,as,pss,rfl,hq,hp,hz,q⟩:=h;obtain⟨u,rfl,ru⟩:=vals1 r;cases ru;obtain⟨its,r1,p1,_⟩:=I.list hq;obtain rfl:=vals_refs r1;have hla:=Paired.length hp;refine STb.zbf (B:=as) (knd:=prNK X.prog X.w) (vals:=pss) (adr:=fun i=>as.getD i 0) (I.ok.hd hc) p1.isList hu (by rw[List.size_toArray,List.length_map]; omega) (by rw[List.size_toArray,List.length_map]; omega) (fun i hi=>by rw[List.size_toArray,List.length_map] at hi; rw[List.getD_eq_getElem?_getD,List.getElem?_eq_getElem hi]; exact List.getElem_mem hi)
  (fun i v e=>?_) (fun j x e=>?_) fun h' tk ⟨o,es,ep,t,T⟩ kk=>?_
 ·have e':(as.map Value.ref)[i]?=some v:=by simpa using e
  rw[List.getElem?_map] at e';cases ea:as[i]? with
  | none=>rw[ea] at e'; simp at e'
  | some a=>
   rw[ea] at e';rw[<- Option.some.inj e',List.getD_eq_getElem?_getD,ea]
   rfl
 ·have hj:j<as.length:=by rw[hla]; exact (List.getElem?_eq_some_iff.mp e).1
  have ea:as[j]?=some as[j]:=List.getElem?_eq_getElem hj;obtain⟨ps',e1,e2⟩:=Prs2.get hp ea;rw[e] at e1;obtain rfl:=Option.some.inj e1;rw[List.getD_eq_getElem?_getD,ea];exact zf6 I e2
 ·have hlen:=STb.zaM pss
  refine⟨.ref s.heap.objs.size,_,I.laid (o:=SetN s.heap.objs.size (STb.dd pss).length) (fun b u e=>kk b u (Heap.lt_size e) e) (Nat.le_refl _) ?_,rfl,q _ (I.hok.fresh (Nat.le_refl _))⟩;refine⟨⟨o,es,ep,t,T.at_,T.ex,T.dt,STb.fits_of T.tb,T.sz,by omega⟩,⟨o,T.at_⟩,fun h1 h2 ⟨o',es',ep',t',g1,g2⟩ kp=>⟨o',es',ep',t',kp _ g1,g2⟩⟩
end
end L2
end
section
namespace L2
open PySem PySem.Spec PyProof.Rows
section
variable {X:Cx}
def zks (K:PySem.W.Frag):R2:=fun x y H Q=>∃(L M l m l' m':Addr) (as bs ts us:List Addr) (pss:List (List Int)) (ps:List Pp),x=.ref L/\y=.ref M/\SqL K H L [.ref l,.ref m]/\SqL K H M [.ref l',.ref m']/\SqL K H l (as.map V.ref)/\Tps H as pss/\SqL K H l' (bs.map V.ref)/\Tps H bs pss/\SqL K H m (ts.map V.ref)/\Prs2 H ts ps/\SqL K H m' (us.map V.ref)/\Prs2 H us ps/\Q (.bl false) H
theorem ziO (hu:X.A.units+128<cLine):OpR X (compareOp .NotEq) (zks X.K):=by
 intro pins s σ H x y v u Q I rx ry h;obtain⟨L,M,l,m,l',m',as,bs,ts,us,pss,ps,rfl,rfl,hL,hM,hl,ha,hl',hb,hm,ht,hm',hu',q⟩:=h;cases rx;cases ry;obtain⟨its,r1,p1,_⟩:=I.list hL;obtain⟨its2,r2,p2,_⟩:=I.list hM;obtain rfl:=vals_refs (as:=[l,m]) r1;obtain rfl:=vals_refs (as:=[l',m']) r2;have e1:SeqAt.EqAt X.A.in1 s (.ref l) (.ref l') true:=by
  have hs:=zaG pss;have:=SeqAt.eqAt_reads _ _ X.A.in1 s _ _ _ _ (zaK I hl ha) (zaK I hl' hb) (SeqAt.canLay_of_shaped hs) (SeqAt.canLay_of_shaped hs) (SeqAt.room_of_shaped hs (by show X.A.units+1+64<cLine; omega));rw[<- SeqAt.same_eq_eqv _ _ (SeqAt.noMix_of_shape (.list (.tuples .int)) rfl _ _ (zcr _) (zcr _)),show same (.list (pss.map fun ps=>PyData.tuple (ps.map PyData.int))) (.list (pss.map fun ps=>PyData.tuple (ps.map PyData.int)))=true from by unfold same; rw[zct pss pss]; exact decide_eq_true rfl] at this;exact this
 have e2:SeqAt.EqAt X.A.in1 s (.ref m) (.ref m') true:=by
  have hs:=zam ps;have:=SeqAt.eqAt_reads _ _ X.A.in1 s _ _ _ _ (zao I hm ht) (zao I hm' hu') (SeqAt.canLay_of_shaped hs) (SeqAt.canLay_of_shaped hs) (SeqAt.room_of_shaped hs (by show X.A.units+1+64<cLine; omega));rw[<- SeqAt.same_eq_eqv _ _ (SeqAt.noMix_of_shape (.list (.tuples (.tuples .int))) rfl _ _ (zbc _) (zbc _)),show same (ppsD ps) (ppsD ps)=true from by simp only[same]; rw[zbL ps ps]; exact decide_eq_true rfl] at this;exact this
 refine SeqAt.RcNeAt.lists (e:=fun _=>true) p1.isList p2.isList (by simp) (by omega) (fun j h1 h2=>?_) X.prog X.w X.xe _ ⟨.bl _,H,I,rfl,?_⟩
 ·have hj:j=0 \/ j=1:=by simp at h1; omega
  rcases hj with rfl | rfl
  ·exact e1
  ·exact e2
 ·rw[List.all_eq_true.mpr (fun _ _=>rfl)]; exact q
end
end L2
end
section
namespace L2
open PySem PySem.Spec PyProof.Rows STb
theorem zia {H:Hp}{a:Addr}{ps qs:List Int} (h:Tp H a ps) (h':Tp H a qs):ps=qs:=by
 have e:=Option.some.inj ((show H a=some _ from h).symm.trans h');injection e with e
 exact (List.map_inj_right (fun x y z=>by injection z)).mp e
theorem Pr2.inj {H:Hp}{t:Addr}{x y:Pp} (h:Pr2 H t x) (h':Pr2 H t y):x=y:=by
 obtain⟨a,b,e,p,q⟩:=h;obtain⟨a',b',e',p',q'⟩:=h';have z:=Option.some.inj (e.symm.trans e');injection z with z
 injection z with z1 z2
 injection z2 with z2 _
 injection z1 with z1
 injection z2 with z2
 subst z1; subst z2;exact Prod.ext (zia p p') (zia q q')
def zja (neg:Bool) (K:PySem.W.Frag):R2:=fun x y H Q=>∃t l ts z ps,x=.ref t/\y=.ref l/\Pr2 H t z/\SqL K H l (ts.map V.ref)/\Prs2 H ts ps/\Q (.bl (if neg then !decide (z∈ps) else decide (z∈ps))) H
open Classical in
theorem zii {H:Hp}{z:Pp}:∀{ts:List Addr}{ps:List Pp},Prs2 H ts ps->(ts.map Value.ref).any (fun v=>decide (∃t,v=Value.ref t/\Pr2 H t z))=decide (z∈ps)
 | _,_,.nil=>by simp
 | _,_,.cons (a:=t') (b:=z') h r=>by
  have ih:=zii (z:=z) r;rw[List.map_cons,List.any_cons,ih];have e:decide (∃t,Value.ref t'=Value.ref t/\Pr2 H t z)=decide (z=z'):=decide_eq_decide.mpr ⟨fun ⟨t,e,q⟩=>by injection e with e; subst e; exact Pr2.inj q h,fun e=>⟨t',rfl,e ▸ h⟩⟩;rw[e,<- Bool.decide_or];exact decide_eq_decide.mpr (List.mem_cons).symm
section
variable {X:Cx}
theorem zcs (hu:X.A.units+64<cLine):OpR X (compareOp .NotIn) (zja true X.K):=by
 classical
 intro pins s σ H x y v u Q I rx ry h;obtain⟨t,l,ts,z,ps,rfl,rfl,ht,hl,hp,q⟩:=h;cases rx;cases ry;obtain⟨its,r,p,_⟩:=I.list hl;obtain rfl:=vals_refs r;refine SeqAt.notIn_listAt (fun v=>decide (∃t,v=Value.ref t/\Pr2 H t z)) p.isList (fun w hw=>?_) ⟨.bl _,H,I,rfl,?_⟩
 ·have hw':w∈ts.map Value.ref:=by simpa using hw
  obtain⟨t',ht',rfl⟩:=List.mem_map.mp hw';obtain⟨i,hi⟩:=List.getElem?_of_mem ht';obtain⟨z',_,h'⟩:=hp.get hi;have e:=zgb X.prog X.w (A:=X.A.in1) (s:=s) (by show X.A.units+1+8<cLine; omega) (zf6 I h') (zf6 I ht);have e2:decide (∃t,Value.ref t'=Value.ref t/\Pr2 H t z)=decide (z'=z):=decide_eq_decide.mpr ⟨fun ⟨t,e,q⟩=>by injection e with e; subst e; exact Pr2.inj h' q,fun e=>⟨t',rfl,e ▸ h'⟩⟩;show SeqAt.EqAt _ _ _ _ (decide _);rw[e2];exact e
 ·have e:(ts.map Value.ref).toArray.any (fun v=>decide (∃t,v=Value.ref t/\Pr2 H t z))=(ts.map Value.ref).any (fun v=>decide (∃t,v=Value.ref t/\Pr2 H t z)):=by simp
  rw[e,zii hp];exact q
def rEqJ:R2:=fun x y H Q=>∃a b z,x=.ref a/\y=.ref b/\((H a=some (.tup [.str z])/\H b=some (.tup [.str z])) \/ ∃i,H a=some (.tup [.str z,.int i])/\H b=some (.tup [.str z,.int i]))/\Q (.bl true) H
theorem zh9 (hu:X.A.units+64<cLine):OpR X (compareOp .Eq) rEqJ:=by
 intro pins s σ H x y v u Q I rx ry h;obtain⟨a,b,z,rfl,rfl,h,q⟩:=h;cases rx;cases ry;rcases h with ⟨ha,hb⟩ | ⟨i,ha,hb⟩
 ·obtain⟨its,r,p,_⟩:=I.tuple (SqT.of (K:=X.K) ha)
  obtain⟨its2,r2,p2,_⟩:=I.tuple (SqT.of (K:=X.K) hb);obtain⟨w1,rfl,⟨t1,rfl⟩⟩:=vals1 r;obtain⟨w2,rfl,⟨t2,rfl⟩⟩:=vals1 r2;refine SeqAt.eq_tupleAt (e:=fun _=>true) p p2 (by omega) (fun j h1 h2=>?_) ⟨.bl _,H,I,rfl,?_⟩
  ·have:j=0:=by simp at h2; omega
   subst this;have:=SeqAt.EqAt.str_str (A:=X.A.in1) (s:=s) z t1 z t2
   simpa using this
  ·simpa using q
 ·obtain⟨its,r,p,_⟩:=I.tuple (SqT.of (K:=X.K) ha)
  obtain⟨its2,r2,p2,_⟩:=I.tuple (SqT.of (K:=X.K) hb);obtain⟨u1,u2,rfl,⟨t1,rfl⟩,⟨t1',rfl⟩⟩:=vals2 r;obtain⟨w1,w2,rfl,⟨t2,rfl⟩,⟨t2',rfl⟩⟩:=vals2 r2;refine SeqAt.eq_tupleAt (e:=fun _=>true) p p2 (by omega) (fun j h1 h2=>?_) ⟨.bl _,H,I,rfl,?_⟩
  ·have:j=0 \/ j=1:=by simp at h2; omega
   rcases this with rfl | rfl
   ·have:=SeqAt.EqAt.str_str (A:=X.A.in1) (s:=s) z t1 z t2
    simpa using this
   ·have:=SeqAt.EqAt.int_int (A:=X.A.in1) (s:=s) i t1' i t2'
    simpa using this
  ·have:((List.range (min [Value.str z t1,Value.int i t1'].toArray.size [Value.str z t2,Value.int i t2'].toArray.size)).all (fun _=>true) && [Value.str z t1,Value.int i t1'].toArray.size == [Value.str z t2,Value.int i t2'].toArray.size)=true:=by simp
   rw[this];exact q
end
end L2
end
section
namespace K45
open K1
open PySem L2 STb
abbrev sIsR:Stmt:=top 40
abbrev nmRo:List Str:=["found","pairs","k","pair","later"]
theorem zjC {α:Type} [DecidableEq α] {l:List α} (h:l.Nodup):(dd l).length=l.length:=by
 rw[zeE l fun k x e hx=>?_];have h2:(l.take k++l.drop k).Nodup:=by rw[List.take_append_drop]; exact h
 exact (List.nodup_append.mp h2).2.2 x hx x (List.mem_of_getElem? (i:=0) (by rw[List.getElem?_drop]; exact e)) rfl
section
variable {P:Program}{w:World}{K:PySem.W.Frag}{mg:Str->Option Value}{base:Heap}
def zjk (K:PySem.W.Frag):Sp:=fun vs H Q _=>∃l m us cs ts ps,vs=[.ref l,.ref m]/\H l=some (.lst (List.map V.ref us))/\Prs2 H us cs/\SqL K H m (ts.map V.ref)/\Prs2 H ts ps/\ps.length<=50/\(∀x∈ps,x.2.length<=5)/\Rnd cs/\cs.Nodup/\(∀x∈cs,x∈ps)/\∀H',Same H H'->Q (.bl true) H'
theorem zgL:zv nmRo ["found","pairs"] (zf sIsR):=⟨rfl,rfl,rfl,by decide +kernel,rfl,by decide +kernel,by decide +kernel⟩
theorem zjY {f fs:Addr}{fd fds:FuncData} (F:Fun K "_law_is_round" "_law_is_round" sIsR f fd) (B:Bt mg)
  (Fs:Fun K "_law_steps" "_law_steps" za6 fs fds) (bs:Binds K fds ["pair","pairs"] []) (ms:mg "_law_steps"=some (.ref fs)) (Gs:FnOk P w K mg base CX0 2 fs fds ["pair","pairs"] (zcW K)):FnOk P w K mg base CX0 3 f fd ["found","pairs"] (zjk K):=by
 refine F.ok zgL (fun vs H Q E h=>?_) (fun cdv A outer s H vs Q E hr h=>?_)
 ·obtain⟨l,m,us,cs,ts,ps,rfl,_⟩:=h; rfl
 ·obtain⟨l,m,us,cs,ts,ps,rfl,hl,hu,hm,ht,hz,h5,hrn,hcn,hcs,k⟩:=h
  have hu64:=hr.units;have hi1:=in1_units hu64;have hr2:Room 2 _:=hr.mono (by decide);refine⟨_,ze (zR (PW.pt (zbo (zb1 (zbP (zo zd4 rfl B.isinstance zaE (zc (pv 0) (zc (zdM (v:=.ty "list") rfl B.list zb7 rfl) zd)))))
    (zbo (zn (zgg hu64) (pv 0) (zz zd) (nomark _)) (zaP (zn zfP (zo za2 rfl B.len zab (zc (zF (zdw rfl hu64) rfl B.set zjI (zc (pv 0) zd)) zd)) (zo zk rfl B.len zab (zc (pv 0) zd)) (nomark _)))))) (zh (zp zaL)) zw)
   (ze (zX PassesOwn.never rfl (zdX rfl B.enumerate zaR (zc (pv 0) zd)) (zeQ rfl (zai (zr (i:=2) zgL.nd rfl (Or.inl rfl)) (zai (zr (i:=3) zgL.nd rfl (Or.inl rfl)) zcv)))
    (ze (zt (i:=4) zgL.nd rfl (Or.inl rfl) (zx zK (pv 0) (zC zbw (zC zaq (pv 2) zi) (zo zk rfl B.len zab (zc (pv 0) zd))) (fun _ _=>rfl)))
    (zh (zR (PW.pt (zbo (zn (r:=zja true K) (zcs hu64) (pv 3) (pv 1) (by with_unfolding_all rfl)) (zaP (zn (r:=zja true K) (zcs hu64) (pv 4) (zl Gs hr2 rfl ms Fs.kp bs .nil pass0 (zc (pv 3) (zc (pv 1) zd))) (by with_unfolding_all rfl))))) (zh (zp zaL)) zw))))
   (zh (zp zaL))),?_⟩
  have hul:=hu.length;have hcl:cs.length<=50:=Nat.le_trans (hcn.length_le_of_subset fun x hx=>hcs x hx) hz;have hpos:0<cs.length:=List.length_pos_iff.mpr hrn.1;have htl:=ht.length;refine⟨_,rfl,l,_,rfl,hl,_,rfl,iteF ⟨_,rfl,zg (by simp),fun T hT=>?_⟩⟩;have s1:=Same.new (o:=.lst []) hT;refine⟨l,T,us,[],cs,[],rfl,rfl,SqL.of (s1 _ _ hl),hu.same s1,SqL.of upd_same,.nil,_,rfl,?_⟩;rw[if_neg (by decide),decide_eq_false hrn.1];refine iteF ⟨_,rfl,l,us,cs,rfl,SqL.of (s1 _ _ hl),hu.same s1,by omega,fun S hS=>?_⟩;have s2:=Same.new (o:=SetN S (dd cs).length) hS;have s12:=s1.trans s2;refine⟨S,_,rfl,upd_same,_,rfl,l,_,rfl,.inl (SqL.of (s12 _ _ hl)),rfl,_,rfl,?_⟩;rw[List.length_map,hul,zjC hcn,decide_eq_true rfl];refine iteF ?_;rw[zjC hcn] at s12;generalize upd (upd H T (.lst [])) S (SetN S cs.length)=H1 at s12;refine⟨_,rfl,l,rfl,⟨_,SqL.of (s12 _ _ hl)⟩,zcu (K:=K) (a:=l) (xs:=us.map V.ref) (fun i σ H2=>∃(v2 v3 v4:Option V),σ=[some (.ref l),some (.ref m),v2,v3,v4]/\Same H H2)
   ⟨none,none,none,rfl,s12⟩ (fun i σ H2 _ ⟨_,_,_,_,sm⟩=>SqL.of (sm _ _ hl)) ?_ ?_⟩
  ·rintro i v p σ H2 hv ⟨v2,v3,v4,rfl,sm⟩ hp
   obtain⟨t,et,rfl⟩:=z0 hv;obtain⟨x,ex,hx⟩:=hu.get et;obtain⟨y,ey,hxy⟩:=hrn.2 i x ex;have sp:=Same.new (o:=.tup [.int i,.ref t]) hp;have s3:=sm.trans sp;have hi:i<cs.length:=(List.getElem?_eq_some_iff.mp ex).1;have hj:(i+1) % cs.length<us.length:=by rw[hul]; exact Nat.mod_lt _ hpos
   have ey':us[(i+1) % cs.length]?=some us[(i+1) % cs.length]:=List.getElem?_eq_getElem hj;obtain⟨y',ey2,hy⟩:=hu.get ey';obtain rfl:y=y':=Option.some.inj (ey.symm.trans ey2);refine⟨p,_,rfl,SqT.of upd_same,rfl,_,_,rfl,_,_,rfl,rfl,?_⟩;refine⟨_,rfl,_,rfl,_,_,rfl,rfl,_,rfl,l,_,rfl,.inl (SqL.of (s3 _ _ hl)),_,_,rfl,rfl,by rw[List.length_map]; omega,?_⟩;have hat:atI (us.map V.ref) (((i:Int)+1) % ((us.map V.ref).length:Int))=some (.ref us[(i+1) % cs.length]):=by
    rw[List.length_map,hul,show ((i:Int)+1) % (cs.length:Int)=(((i+1) % cs.length:Nat):Int) by simp];exact zq (by rw[List.getElem?_map,ey']; rfl)
   have hxp:=hcs x (List.mem_of_getElem? ex);refine⟨l,_,_,_,rfl,rfl,SqL.of (s3 _ _ hl),hat,?_⟩;refine⟨_,rfl,_,rfl,t,m,ts,x,ps,rfl,rfl,hx.same s3,s3.seq hm,ht.same s3,_,rfl,?_⟩;rw[if_pos rfl,decide_eq_true hxp];refine iteF ⟨_,rfl,_,rfl,_,rfl,t,m,ts,ps,x,rfl,hx.same s3,h5 x hxp,s3.seq hm,ht.same s3,by omega,fun D H4 ds s4 hD4 hd4=>?_⟩;have s34:=s3.trans s4;refine⟨_,D,ds,y,_,rfl,rfl,hy.same s34,SqL.of hD4,hd4,_,rfl,?_⟩;rw[if_pos rfl,decide_eq_true (List.mem_filter.mpr ⟨hcs y (List.mem_of_getElem? ey),hxy⟩)];exact iteF ⟨_,_,_,rfl,s34⟩
  ·rintro σ H2 ⟨v2,v3,v4,rfl,sm⟩
   exact k H2 sm
end
end K45
end
section
namespace K45
open K1
open PySem L2 STb
abbrev sLaw:Stmt:=top 41
abbrev nmL:List Str:=["script","box","web","known","pairs","odd","handed","bad","turn","found"]
theorem u128 {k:Nat}{A:Around} (r:Room k A):A.units+128<cLine:=by have:=r.un; omega
abbrev tI1 (a:Int):TE:=tTup (zU (tC (.int a)) tNil)
abbrev tI2 (a b:Int):TE:=tTup (zU (tC (.int a)) (zU (tC (.int b)) tNil))
structure PAi (X:Cx) (es:List Expr) (t:TA):Prop where
 h:PA X es t
theorem pa_n {X:Cx}:PAi X [] tNil:=⟨zd⟩
theorem zcE {X:Cx}{a:Int}{j:Nat}{p:Pos}{es:List Expr}{t:TA} (h:PAi X es t):PAi X (.Constant (.int a) j p::es) (zU (tC (.int a)) t):=⟨zc zi h.h⟩
theorem zcC {X:Cx}{xs es:List Expr}{k:Nat}{q:Pos}{t u:TA} (hx:PAi X xs u) (h:PAi X es t):PAi X (.Tuple xs k q::es) (zU (tTup u) t):=⟨zc (zaa hx.h) h.h⟩
def odE:List Expr:=match List.drop 5 (zm sLaw) with
 | .If _ (.Assign _ (.Subscript (.List E _) _ _) _::_) _ _::_=>E
 | _=>[]
def odC:Expr:=match List.drop 5 (zm sLaw) with
 | .If c _ _ _::_=>c
 | _=>.Name "" ⟨0,0,0,0⟩
def odX:Expr:=match List.drop 5 (zm sLaw) with
 | .If _ (.Assign _ (.Subscript _ i _) _::_) _ _::_=>i
 | _=>.Name "" ⟨0,0,0,0⟩
def odI:Stmt:=match List.drop 5 (zm sLaw) with
 | .If _ [_,i] _ _::_=>i
 | _=>.Pass ⟨0,0,0,0⟩
theorem w5:∃E:List Expr,List.drop 5 (zm sLaw)=.If odC [.Assign [.Name "odd" ⟨206,8,206,11⟩] (.Subscript (.List E ⟨206,14,206,66⟩) odX ⟨206,14,206,85⟩) ⟨206,8,206,85⟩,odI] [] ⟨205,4,207,57⟩::List.drop 6 (zm sLaw)/\
  ∀X:Cx,PAi X E (zU (tTup (zU (tI1 98) (zU (tI2 98 99) tNil))) (zU (tTup (zU (tTup tNil) (zU (tI1 0) tNil))) (zU (tTup (zU (tI2 5 1) (zU (tTup (zU (tC (.int 5)) (zU (tC (.int 1)) (zU (tC (.int 2)) tNil)))) tNil))) tNil))):=
 ⟨odE,rfl,fun X=>zcC (zcC (zcE pa_n) (zcC (zcE (zcE pa_n)) pa_n)) (zcC (zcC pa_n (zcC (zcE pa_n) pa_n)) (zcC (zcC (zcE (zcE pa_n)) (zcC (zcE (zcE (zcE pa_n))) pa_n)) pa_n))⟩
theorem zft {pss:List (List Int)} (hw:webM pss=true) {p r:List Int} (hp:p∈canon pss) (hr:r∈rims p):r∈canon pss:=by
 obtain⟨h3,kk,hkk,er⟩:=zeI.mp hr;obtain⟨hs',hlt⟩:=zgJ hkk er;have h0:r≠[]:=fun z=>by
  rw[z] at er;have:=congrArg List.length er;rw[List.length_append,List.length_take,List.length_drop,List.length_nil] at this;have:=List.length_pos_iff.mpr (zad.mp (zaB hw hp)).1;omega
 obtain⟨_,t,ht,hs2⟩:=zgG.mp hp;exact zgG.mpr ⟨h0,t,ht,hs'.trans hs2⟩
structure Zk (H:Hp) (O KN PD:Addr) (os ks ts:List Addr) (pss:List (List Int)) (ps:List Pq):Prop where
 hO:H O=some (.lst (os.map V.ref))
 ho:Tps H os pss
 hK:H KN=some (.lst (ks.map V.ref))
 hk:Tps H ks (canon pss)
 hP:H PD=some (.lst (ts.map V.ref))
 hp:Prs2 H ts ps
theorem Zk.same {H H':Hp}{O KN PD:Addr}{os ks ts:List Addr}{pss:List (List Int)}{ps:List Pq} (h:Zk H O KN PD os ks ts pss ps) (s:Same H H'):Zk H' O KN PD os ks ts pss ps:=⟨s _ _ h.hO,s.tps h.ho,s _ _ h.hK,s.tps h.hk,s _ _ h.hP,h.hp.same s⟩
theorem Zk.draw {H H':Hp}{p O KN PD:Addr}{os ks ts:List Addr}{pss:List (List Int)}{ps:List Pq} (h:Zk H O KN PD os ks ts pss ps) (hb:zM H p) (s:zT p H H'):Zk H' O KN PD os ks ts pss ps:=⟨s _ _ (hb.ne h.hO) h.hO,s.tps hb h.ho,s _ _ (hb.ne h.hK) h.hK,s.tps hb h.hk,s _ _ (hb.ne h.hP) h.hP,zcb s hb h.hp⟩
theorem Zk.put {H:Hp}{O KN PD:Addr}{os ks ts us:List Addr}{pss:List (List Int)}{ps qs:List Pq} (h:Zk H O KN PD os ks ts pss ps) (nO:PD≠O) (nK:PD≠KN) (q:Prs2 H us qs):Zk (upd H PD (.lst (us.map V.ref))) O KN PD os ks us pss qs:=
 ⟨by rw[upd_ne nO.symm]; exact h.hO,Tps.upd h.ho h.hP (by intro xs z; cases z),by rw[upd_ne nK.symm]; exact h.hK,Tps.upd h.hk h.hP (by intro xs z; cases z),upd_same,Prs2.upd q h.hP (by intro xs z; cases z)⟩
theorem zkG {H:Hp}{ts:List Addr}{ps:List Pq} (ht:Prs2 H ts ps) {r:Int} (h0:0<=r) (h1:r<ts.length):∃t x,atI (ts.map V.ref) r=some (.ref t)/\Pr2 H t x:=by
 obtain⟨n,rfl⟩:=Int.eq_ofNat_of_zero_le h0;have e:ts[n]?=some ts[n]:=List.getElem?_eq_getElem (by omega);obtain⟨x,_,h⟩:=ht.get e;exact⟨ts[n],x,zq (by rw[List.getElem?_map,e]; rfl),h⟩
def BadV (kn:List (List Int)) (ps:List Pq) (v:V):Prop:=(∃(i:Nat) (x:Pq),v=.int i/\ps[i]?=some x/\badB kn (stds (ps.take i)) x=true/\zaj kn ps i) \/ (v=.non/\zaj kn ps ps.length)
theorem zfq {kn:List (List Int)}{ps:List Pq}{i j:Nat}{x y:Pq} (e:ps[i]?=some x) (h:badB kn (stds (ps.take i)) x=true) (g:zaj kn ps i) (e':ps[j]?=some y) (h':badB kn (stds (ps.take j)) y=true) (g':zaj kn ps j):i=j:=by
 rcases Nat.lt_trichotomy i j with z | z | z
 ·rw[g' i x z e] at h; cases h
 ·exact z
 ·rw[g j y z e'] at h'; cases h'
theorem zeC {kn:List (List Int)}{ps:List Pq}{i:Nat}{x:Pq} (e:ps[i]?=some x) (h:badB kn (stds (ps.take i)) x=true) (g:zaj kn ps ps.length):False:=by
 rw[g i x (List.getElem?_eq_some_iff.mp e).1 e] at h;cases h
theorem zjF {kn:List (List Int)}{ps:List Pq}{i:Nat}{x:Pq} (e:ps[i]?=some x) (h:badB kn (stds (ps.take i)) x=true):¬ PG kn ps:=fun g=>by
 rw[zis g i x e] at h;cases h
theorem zgq {H:Hp}:∀{as:List Addr}{ps:List Pq}{a:Addr}{x:Pq},Prs2 H as ps->Pr2 H a x->∀n,Prs2 H (as.take n++a::as.drop n) (ps.take n++x::ps.drop n)
 | _,_,_,_,h,q,0=>.cons q h
 | _,_,_,_,.nil,q,n+1=>.cons q .nil
 | _,_,_,_,.cons r t,q,n+1=>.cons r (zgq t q n)
section
variable {P:Program}{w:World}{K:PySem.W.Frag}{mg:Str->Option Value}{base:Heap}
def zgT (K:PySem.W.Frag):Sp:=fun vs H Q _=>∃(a:Addr) (ns:List Int),vs=[.ref a]/\SqL K H a (ns.map V.int)/\ns.length<=63/\∀H',Q (.bl true) H'
theorem zb2:zv nmL ["script"] (zf sLaw):=⟨rfl,rfl,rfl,by decide +kernel,rfl,by decide +kernel,by decide +kernel⟩
theorem zjs {f fc fb ft fw fl fp fq fi fj fg:Addr}{fd fdc fdb fdt fdw fdl fdp fdq fdi fdj fdg:FuncData} (F:Fun K "law" "law" sLaw f fd) (B:Bt mg)
  (Fc:Fun K "_law_cell_at" "_law_cell_at" zdF fc fdc) (bc:Binds K fdc ["script","k"] []) (mc:mg "_law_cell_at"=some (.ref fc))
  (Fb:Fun K "_law_box" "_law_box" sBox fb fdb) (bb:Binds K fdb ["cell"] []) (mb:mg "_law_box"=some (.ref fb))
  (Ft:Fun K "_law_take" "_law_take" zci ft fdt) (bt:Binds K fdt ["box","most"] []) (mt:mg "_law_take"=some (.ref ft))
  (Fw:Fun K "_law_web" "_law_web" sWeb fw fdw) (bw:Binds K fdw ["box"] []) (mw:mg "_law_web"=some (.ref fw)) (Gw:FnOk P w K mg base CX0 3 fw fdw ["box"] zkl)
  (Fl:Fun K "_law_pieces" "_law_pieces" zaw fl fdl) (bl:Binds K fdl ["web"] []) (ml:mg "_law_pieces"=some (.ref fl)) (Gl:FnOk P w K mg base CX0 2 fl fdl ["web"] (zgH K))
  (Fp:Fun K "_law_some_pairs" "_law_some_pairs" zdg fp fdp) (bp:Binds K fdp ["box","known"] []) (mp:mg "_law_some_pairs"=some (.ref fp)) (Gp:FnOk P w K mg base CX0 2 fp fdp ["box","known"] (zid K))
  (Fq:Fun K "_law_bad" "_law_bad" zd7 fq fdq) (bq:Binds K fdq ["known","pairs"] []) (mq:mg "_law_bad"=some (.ref fq)) (Gq:FnOk P w K mg base CX0 2 fq fdq ["known","pairs"] (zfi K))
  (Fi:Fun K "_law_in_rounds" "_law_in_rounds" sInR fi fdi) (bi:Binds K fdi ["pairs"] []) (mi:mg "_law_in_rounds"=some (.ref fi)) (Gi:FnOk P w K mg base CX0 3 fi fdi ["pairs"] (zj3 K))
  (Fj:Fun K "judged" "judged" zaQ fj fdj) (bj:Binds K fdj ["web","pairs"] []) (mj:mg "judged"=some (.ref fj)) (Gj:FnOk P w K mg base CX0 9 fj fdj ["web","pairs"] (zcY K))
  (Fg:Fun K "_law_is_round" "_law_is_round" sIsR fg fdg) (bg:Binds K fdg ["found","pairs"] []) (mg':mg "_law_is_round"=some (.ref fg)) (Gg:FnOk P w K mg base CX0 3 fg fdg ["found","pairs"] (zjk K)) :
  FnOk P w K mg base CX0 10 f fd ["script"] (zgT K):=by
 have Gc:FnOk P w K mg base CX0 1 fc fdc ["script","k"] (zie K):=ziH Fc B;have Gb:FnOk P w K mg base CX0 1 fb fdb ["cell"] zj9:=zjn Fb;have Gt:FnOk P w K mg base CX0 1 ft fdt ["box","most"] zdn:=zcF Ft;refine F.ok zb2 (fun vs H Q E h=>?_) (fun cdv A outer s H vs Q E hr h=>?_)
 ·obtain⟨a,ns,rfl,_⟩:=h; rfl
 ·obtain⟨a,nn,rfl,hS,hn,k⟩:=h
  have hu64:=hr.units;have hu128:=u128 hr;have hi1:=in1_units hu64;have hr1:Room 1 _:=hr.mono (by decide);have hr2:Room 2 _:=hr.mono (by decide);have hr3:Room 3 _:=hr.mono (by decide);have R8:∃tr,PSs (cxOf CX0 P w K mg base nmL "law" (zf sLaw) f cdv A outer s H E).nox (List.drop 8 (zm sLaw)) tr/\
    ∀(p O KN PD HD LA LB:Addr) (os ks ts:List Addr) (pss:List (List Int)) (ps:List Pq) (v5:Option V) (bv:V) (H3:Hp),Zk H3 O KN PD os ks ts pss ps->webS pss->ps.length<=9->BadV (canon pss) ps bv->
     H3 HD=some (.lst [.ref LA,.ref LB])->H3 LA=some (.lst (os.map V.ref))->H3 LB=some (.lst (ts.map V.ref))->
     tr { nx:=fun _ H'=>Q .non H',rt:=Q } [some (.ref a),some (.ref p),some (.ref O),some (.ref KN),some (.ref PD),v5,some (.ref HD),some bv,none,none] H3:=by
   refine⟨_,ze (zX PassesOwn.never rfl (zar rfl B.range (zc zi zd)) (zr (i:=8) zb2.nd rfl (Or.inl rfl))
     (ze (zt (i:=9) zb2.nd rfl (Or.inl rfl) (zl Gj hr rfl mj Fj.kp bj .nil pass0 (zc (zx zK (pv 6) zi (fun _ _=>rfl)) (zc (zx zK (pv 6) zi (fun _ _=>rfl)) zd))))
     (ze (zR (PW.pt (zbo (zb1 (zbP (zo zdJ rfl B.isinstance zaE (zc (pv 9) (zc (zdM (v:=.ty "tuple") rfl B.tuple zcQ rfl) zd)))))
      (zaP (zn (ziO hu128) (pv 6) (zz (zc (pv 2) (zc (pv 4) zd))) (nomark _))))) (zh (zp zaL)) zw)
     (ze (zR (zn zgd (pv 7) zeF (nomark _)) (zh (zp (zhX (zbg (zh9 hu64) (pv 9) (zaa (zc zD (zc (pv 7) zd))) (nomark _))
      (zhY (zjR (zo zd9 rfl B.isinstance zaE (zc (zx zB (pv 9) zi (fun _ _=>rfl)) (zc (zdM (v:=.ty "bool") rfl B.bool zjD rfl) zd)))))))) zw)
     (ze (zR (zn (zgg hu64) (zl Gi hr3 rfl mi Fi.kp bi .nil pass0 (zc (pv 4) zd)) (zz zd) (nomark _)) (zh (zp (zbg (zh9 hu64) (pv 9) (zaa (zc zD zd)) (nomark _)))) zw)
     (ze (zR (PW.pt (zbo (zn zfP (zo zk rfl B.len zab (zc (pv 9) zd)) zi (nomark _))
      (zbo (zn zfP (zx zB (pv 9) zi (fun _ _=>rfl)) zD (nomark _))
      (zaP (zb1 (zbP (zl Gg hr3 rfl mg' Fg.kp bg .nil pass0 (zc (zx zB (pv 9) zi (fun _ _=>rfl)) (zc (pv 4) zd))))))))) (zh (zp zaL)) zw)
     (zh (zal (zch PySem.F.plainAttrs_list PySem.F.slot_list_append PySem.F.type_list_append zac (zx zB (pv 9) zi (fun _ _=>rfl)) (zc (zaa zd) zd))))))))))
    (zh (zp zaL)),?_⟩
   intro p O KN PD HD LA LB os ks ts pss ps v5 bv H3 z3 hw hz hbv hH3 hA3 hB3;have c5:∀p∈canon pss,p.length<=5:=fun p hp=>(zad.mp (zaB hw.1 hp)).2.1;refine⟨2,rfl,by omega,by omega,?_⟩;refine zbb (lo:=0) (n:=(2:Int).toNat) (fun i σ H4=>∃(v8 v9:Option V),σ=[some (.ref a),some (.ref p),some (.ref O),some (.ref KN),some (.ref PD),v5,some (.ref HD),some bv,v8,v9]/\Same H3 H4) ⟨none,none,rfl,Same.refl _⟩ ?_ ?_
   ·rintro i σ H4 hi ⟨v8,v9,rfl,s4⟩
    refine⟨_,rfl,HD,_,_,_,rfl,rfl,SqL.of (s4 _ _ hH3),zq (j:=0) rfl,_,rfl,HD,_,_,_,rfl,rfl,SqL.of (s4 _ _ hH3),zq (j:=1) rfl,?_⟩;refine⟨LA,LB,os,pss,ts,ps,rfl,SqL.of (s4 _ _ hA3),s4.tps z3.ho,hw,SqL.of (s4 _ _ hB3),z3.hp.same s4,by omega,fun D H5 pg s5 hD=>?_,fun j y D H5 ey hbd hgd s5 hD=>?_,fun D R H5 us cs hgd s5 hR0 hD hR hu hrn hcn hcs=>?_⟩
    all_goals
     have s35:=s4.trans s5;have z5:=z3.same s35;refine⟨_,rfl,D,_,rfl,hD,_,rfl,iteF ⟨_,rfl,_,rfl,_,rfl,zg (by simp),fun T hT=>?_⟩⟩;have s6:=Same.new (o:=.lst [.ref O,.ref PD]) hT;have z6:=z5.same s6;have s36:=s35.trans s6;refine⟨HD,T,LA,LB,O,PD,os,os,ts,ts,pss,ps,rfl,rfl,SqL.of (s6 _ _ (s35 _ _ hH3)),SqL.of upd_same,SqL.of (s6 _ _ (s35 _ _ hA3)),z6.ho,SqL.of z6.hO,z6.ho,SqL.of (s6 _ _ (s35 _ _ hB3)),z6.hp,SqL.of z6.hP,z6.hp,_,rfl,iteF ?_⟩;replace hD:=s6 _ _ hD
    ·generalize upd H5 T (.lst [.ref O,.ref PD])=H6 at s6 z6 s36 hD
     rcases hbv with ⟨j,y,rfl,ey,hbd,hgd⟩ | ⟨rfl,hgd⟩
     ·exact absurd pg (zjF ey hbd)
     ·have x5:∀x∈ps,x.2.length<=5:=fun x hx=>c5 _ (pg.has x hx).1
      refine⟨_,rfl,rfl,_,rfl,iteF ⟨_,rfl,PD,ts,ps,rfl,SqL.of z6.hP,z6.hp,x5,by omega,fun RD H7 us cs s7 hRD hu7 hcs=>⟨zg (by simp),fun T2 hT2=>?_⟩⟩⟩;have s8:=Same.new (o:=.lst []) hT2;refine⟨RD,T2,us,[],cs,[],rfl,rfl,SqL.of (s8 _ _ hRD),hu7.same s8,SqL.of upd_same,.nil,_,rfl,?_⟩;rw[if_neg (by decide),decide_eq_true (hcs.mpr pg.ac)];refine iteT ⟨_,rfl,zg (by simp),fun T3 hT3=>?_⟩;have s9:=Same.new (o:=.tup [.str "pairing"]) hT3;exact⟨D,T3,"pairing",rfl,rfl,.inl ⟨s9 _ _ (s8 _ _ (s7 _ _ hD)),upd_same⟩,k _⟩
    ·generalize upd H5 T (.lst [.ref O,.ref PD])=H6 at s6 z6 s36 hD
     rcases hbv with ⟨j',y',rfl,ey',hbd',hgd'⟩ | ⟨rfl,hgd'⟩
     ·obtain rfl:=zfq ey' hbd' hgd' ey hbd hgd
      refine⟨_,rfl,rfl,_,rfl,iteT ⟨_,rfl,_,rfl,zg (by simp),fun T3 hT3=>?_⟩⟩;have s9:=Same.new (o:=.tup [.str "bad",.int j']) hT3;refine⟨D,T3,"bad",rfl,rfl,.inr ⟨_,s9 _ _ hD,upd_same⟩,_,rfl,iteT ?_⟩;exact⟨_,rfl,D,_,_,_,rfl,rfl,SqT.of (s9 _ _ hD),zq (j:=1) rfl,_,rfl,_,rfl,k _⟩
     ·exact (zeC ey hbd hgd').elim
    ·replace hR:=s6 _ _ hR
     replace hu:=hu.same s6;generalize upd H5 T (.lst [.ref O,.ref PD])=H6 at s6 z6 s36 hD hR hu;rcases hbv with ⟨j',y',rfl,ey',hbd',hgd'⟩ | ⟨rfl,hgd'⟩
     ·exact (zeC ey' hbd' hgd).elim
     ·obtain⟨hh,_⟩:=zdY ps.length (Nat.le_refl _) hgd
      rw[take_all] at hh;have x5:∀x∈ps,x.2.length<=5:=fun x hx=>c5 _ (hh x hx).1;refine⟨_,rfl,rfl,_,rfl,iteF ⟨_,rfl,PD,ts,ps,rfl,SqL.of z6.hP,z6.hp,x5,by omega,fun RD H7 us' cs' s7 hRD hu7 hcs'=>⟨zg (by simp),fun T2 hT2=>?_⟩⟩⟩;have s8:=Same.new (o:=.lst []) hT2;refine⟨RD,T2,us',[],cs',[],rfl,rfl,SqL.of (s8 _ _ hRD),hu7.same s8,SqL.of upd_same,.nil,_,rfl,?_⟩;have hne:cs'≠[]:=fun z=>ziR hrn hcs (hcs'.mp z);rw[if_neg (by decide),decide_eq_false hne];have s68:=s7.trans s8;have hD8:=s68 _ _ hD;have hR8:=s68 _ _ hR;have hu8:=hu.same s68;have z8:=z6.same s68;have s38:=s36.trans s68;generalize upd H7 T2 (.lst [])=H8 at s8 s68 hD8 hR8 hu8 z8 s38;refine iteF ⟨_,rfl,D,_,rfl,.inr (SqT.of hD8),rfl,_,rfl,iteF ?_⟩;refine⟨_,rfl,D,_,_,_,rfl,rfl,SqT.of hD8,zq (j:=0) rfl,rfl,_,rfl,iteF ?_⟩;refine⟨_,rfl,D,_,_,_,rfl,rfl,SqT.of hD8,zq (j:=1) rfl,_,rfl,R,PD,us,cs,ts,ps,rfl,hR8,hu8,SqL.of z8.hP,z8.hp,by omega,x5,hrn,hcn,hcs,fun H9 s9=>⟨_,rfl,iteF ?_⟩⟩;have hul:=hu.length;have hcl:cs.length<=ps.length:=hcn.length_le_of_subset fun x hx=>hcs x hx;refine⟨_,rfl,D,_,_,_,rfl,rfl,SqT.of (s9 _ _ hD8),zq (j:=1) rfl,.inl ⟨rfl,_,SqL.of (s9 _ _ hR8)⟩,zg (by simp),fun T4 hT4=>?_⟩;have s10:=Same.new (o:=.tup []) hT4;refine⟨R,_,_,rfl,rfl,s10 _ _ (s9 _ _ hR8),by rw[List.length_map]; exact zJ (by omega),?_⟩;exact⟨_,_,rfl,((s38.trans s9).trans s10).then (s4.free hR0)⟩
   ·rintro σ H4 ⟨v8,v9,rfl,s4⟩
    exact k H4
  obtain⟨tr8,htr8,rest8⟩:=R8;have R6:∃tr,PSs (cxOf CX0 P w K mg base nmL "law" (zf sLaw) f cdv A outer s H E).nox (List.drop 6 (zm sLaw)) tr/\
    ∀(p O KN PD:Addr) (os ks ts:List Addr) (pss:List (List Int)) (ps:List Pq) (v5:Option V) (H2:Hp),Zk H2 O KN PD os ks ts pss ps->webS pss->ps.length<=9->
     tr { nx:=fun _ H'=>Q .non H',rt:=Q } [some (.ref a),some (.ref p),some (.ref O),some (.ref KN),some (.ref PD),v5,none,none,none,none] H2:=by
   refine⟨_,ze (zt (i:=6) zb2.nd rfl (Or.inl rfl) (zz (zc (zF zaF rfl B.list zb7 (zc (pv 2) zd)) (zc (zF zaF rfl B.list zb7 (zc (pv 4) zd)) zd))))
    (ze (zt (i:=7) zb2.nd rfl (Or.inl rfl) (zl Gq hr2 rfl mq Fq.kp bq .nil pass0 (zc (pv 3) (zc (pv 4) zd)))) htr8),?_⟩
   intro p O KN PD os ks ts pss ps v5 H2 z2 hw hz;have c5:∀p∈canon pss,p.length<=5:=fun p hp=>(zad.mp (zaB hw.1 hp)).2.1;refine⟨_,rfl,O,_,rfl,.inl (SqL.of z2.hO),fun LA hLA=>?_⟩;have sA:=Same.new (o:=.lst (os.map V.ref)) hLA;refine⟨_,rfl,PD,_,rfl,.inl (SqL.of (sA _ _ z2.hP)),fun LB hLB=>⟨zg (by simp),fun HD hHD=>?_⟩⟩;have sB:=Same.new (o:=.lst (ts.map V.ref)) hLB;have sH:=Same.new (o:=.lst [.ref LA,.ref LB]) hHD;have s3:=(sA.trans sB).trans sH;have hA3:=sH _ _ (sB _ _ (upd_same (H:=H2) (a:=LA) (o:=.lst (os.map V.ref))));have hB3:=sH _ _ (upd_same (H:=upd H2 LA (.lst (os.map V.ref))) (a:=LB) (o:=.lst (ts.map V.ref)));have hH3:=upd_same (H:=upd (upd H2 LA (.lst (os.map V.ref))) LB (.lst (ts.map V.ref))) (a:=HD) (o:=.lst [.ref LA,.ref LB]);generalize upd (upd (upd H2 LA (.lst (os.map V.ref))) LB (.lst (ts.map V.ref))) HD (.lst [.ref LA,.ref LB])=H3 at s3 hA3 hB3 hH3;have z3:=z2.same s3;refine⟨_,rfl,_,rfl,KN,PD,ks,canon pss,ts,ps,rfl,SqL.of z3.hK,z3.hk,SqL.of z3.hP,z3.hp,c5,fun p hp r hr=>zft hw.1 hp hr,by omega,fun i x H7 ex hbd hg s7=>?_,fun H7 g s7=>?_⟩
   ·exact rest8 p O KN PD HD LA LB os ks ts pss ps v5 _ H7 (z3.same s7) hw hz (.inl ⟨i,x,rfl,ex,hbd,hg⟩) (s7 _ _ hH3) (s7 _ _ hA3) (s7 _ _ hB3)
   ·exact rest8 p O KN PD HD LA LB os ks ts pss ps v5 _ H7 (z3.same s7) hw hz (.inr ⟨rfl,g⟩) (s7 _ _ hH3) (s7 _ _ hA3) (s7 _ _ hB3)
  obtain⟨tr6,htr6,rest6⟩:=R6;have R5:∃tr,PSs (cxOf CX0 P w K mg base nmL "law" (zf sLaw) f cdv A outer s H E).nox (List.drop 5 (zm sLaw)) tr/\
    ∀(p O KN PD:Addr) (os ks ts:List Addr) (pss:List (List Int)) (ps:List Pq) (H2:Hp),Zk H2 O KN PD os ks ts pss ps->zM H2 p->webS pss->ps.length<=8->PD≠O->PD≠KN->
     tr { nx:=fun _ H'=>Q .non H',rt:=Q } [some (.ref a),some (.ref p),some (.ref O),some (.ref KN),some (.ref PD),none,none,none,none,none] H2:=by
   obtain⟨EL,hEL,paEL⟩:=w5;rw[hEL];refine⟨_,ze (zR (zn zfh (zl Gt hr1 rfl mt Ft.kp bt .nil pass0 (zc (pv 1) (zc zi zd))) zi (nomark _))
    (ze (zt (i:=5) zb2.nd rfl (Or.inl rfl) (zx zK (zz (paEL _).h) (zl Gt hr1 rfl mt Ft.kp bt .nil pass0 (zc (pv 1) (zc zi zd))) (fun _ _=>rfl)))
    (zh (zal (zch PySem.F.plainAttrs_list PySem.F.slot_list_insert PySem.F.type_list_insert zdp (pv 4) (zc (zl Gt hr1 rfl mt Ft.kp bt .nil pass0 (zc (pv 1) (zc (zC zaq (zo zk rfl B.len zab (zc (pv 4) zd)) zi) zd)))
     (zc (pv 5) zd)))))) zw) htr6,?_⟩
   intro p O KN PD os ks ts pss ps H2 z2 hb2 hw hz nO nK;refine⟨_,rfl,p,12,rfl,hb2,by decide,by decide,fun r1 H3 r10 r11 sb3 hb3=>⟨rfl,_,rfl,ite2 (fun _=>?_) (fun _=>rest6 p O KN PD os ks ts pss ps _ H3 (z2.draw hb2 sb3) hw (by omega))⟩⟩;have z3:=z2.draw hb2 sb3;refine⟨zg (by simp),fun t1 g1=>⟨zg (by simp),fun t2 g2=>⟨zg (by simp),fun q1 e1=>⟨zg (by simp),fun t3 g3=>⟨zg (by simp),fun t4 g4=>⟨zg (by simp),fun q2 e2=>⟨zg (by simp),fun t5 g5=>⟨zg (by simp),fun t6 g6=>⟨zg (by simp),fun q3 e3=>⟨zg (by simp),fun L hL=>?_⟩⟩⟩⟩⟩⟩⟩⟩⟩⟩;have P1:Prs2 _ [q1] [([98],[98,99])]:=.cons ⟨t1,t2,upd_same (a:=q1) (o:=.tup [.ref t1,.ref t2]),(Same.new e1).tp ((Same.new g2).tp (upd_same (H:=H3) (a:=t1) (o:=.tup [.int 98]))),(Same.new e1).tp (upd_same (a:=t2) (o:=.tup [.int 98,.int 99]))⟩ .nil;have u1:=((Same.new (o:=.tup [.int 98]) g1).trans (Same.new (o:=.tup [.int 98,.int 99]) g2)).trans (Same.new (o:=.tup [.ref t1,.ref t2]) e1);have P2:Prs2 _ [q1,q2] [([98],[98,99]),([],[0])]:=Prs2.snoc (((P1.same (Same.new (o:=.tup []) g3)).same (Same.new (o:=.tup [.int 0]) g4)).same (Same.new (o:=.tup [.ref t3,.ref t4]) e2)) ⟨t3,t4,upd_same (a:=q2) (o:=.tup [.ref t3,.ref t4]),(Same.new e2).tp ((Same.new g4).tp (upd_same (a:=t3) (o:=.tup []))),(Same.new e2).tp (upd_same (a:=t4) (o:=.tup [.int 0]))⟩;have u2:=((u1.trans (Same.new (o:=.tup []) g3)).trans (Same.new (o:=.tup [.int 0]) g4)).trans (Same.new (o:=.tup [.ref t3,.ref t4]) e2);have P3:Prs2 _ [q1,q2,q3] [([98],[98,99]),([],[0]),([5,1],[5,1,2])]:=Prs2.snoc (((P2.same (Same.new (o:=.tup [.int 5,.int 1]) g5)).same (Same.new (o:=.tup [.int 5,.int 1,.int 2]) g6)).same (Same.new (o:=.tup [.ref t5,.ref t6]) e3)) ⟨t5,t6,upd_same (a:=q3) (o:=.tup [.ref t5,.ref t6]),(Same.new e3).tp ((Same.new g6).tp (upd_same (a:=t5) (o:=.tup [.int 5,.int 1]))),(Same.new e3).tp (upd_same (a:=t6) (o:=.tup [.int 5,.int 1,.int 2]))⟩;have u3:=((u2.trans (Same.new (o:=.tup [.int 5,.int 1]) g5)).trans (Same.new (o:=.tup [.int 5,.int 1,.int 2]) g6)).trans (Same.new (o:=.tup [.ref t5,.ref t6]) e3);have P4:=P3.same (Same.new (o:=.lst ([q1,q2,q3].map V.ref)) hL);have u4:=u3.trans (Same.new (o:=.lst ([q1,q2,q3].map V.ref)) hL);clear P1 P2 P3 u1 u2 u3;have hb4:=hb3.same u4;have z4:=z3.same u4;have nL:L≠p:=by
    obtain⟨x,y,h,_⟩:=hb4;intro z;rw[z,upd_same] at h;cases h
   refine⟨_,rfl,p,3,rfl,hb4,by decide,by decide,fun r2 H5 r20 r21 sb5 hb5=>?_⟩;have hL5:=sb5 _ _ nL upd_same;have P5:=zcb sb5 hb4 P4;have z5:=z4.draw hb4 sb5;clear P4 u4 z4 hb4;obtain⟨q,x,eq,hq⟩:=zkG P5 r20 r21;have htl:=z5.hp.length;refine⟨L,_,_,_,rfl,rfl,SqL.of hL5,eq,?_⟩;refine⟨_,rfl,.inl ⟨rfl,_,SqL.of z5.hP⟩,?_⟩;refine⟨_,rfl,_,rfl,PD,_,rfl,.inl (SqL.of z5.hP),_,_,rfl,rfl,?_⟩;refine⟨p,_,rfl,hb5,by rw[List.length_map]; omega,by rw[List.length_map]; omega,fun r3 H6 r30 r31 sb6 hb6=>?_⟩;have z6:=z5.draw hb5 sb6;have hq6:=zcJ sb6 hb5 hq;rw[List.length_map] at r31;refine⟨_,rfl,PD,_,_,_,rfl,rfl,z6.hP,r30,by rw[List.length_map]; omega,by rw[List.length_map]; exact zJ (by omega),?_⟩;rw[show (ts.map V.ref).take r3.toNat++V.ref q::(ts.map V.ref).drop r3.toNat=(ts.take r3.toNat++q::ts.drop r3.toNat).map V.ref by rw[List.map_append,List.map_cons,List.map_take,List.map_drop]];refine rest6 p O KN PD os ks _ pss _ _ _ (z6.put nO nK (zgq z6.hp hq6 r3.toNat)) hw ?_;rw[List.length_append,List.length_cons,List.length_take,List.length_drop];omega
  obtain⟨tr5,htr5,rest5⟩:=R5;refine⟨_,ze (zt (i:=1) zb2.nd rfl (Or.inl rfl) (zl Gb hr1 rfl mb Fb.kp bb .nil pass0 (zc (zl Gc hr1 rfl mc Fc.kp bc .nil pass0 (zc (pv 0) (zc zi zd))) zd)))
   (ze (zt (i:=2) zb2.nd rfl (Or.inl rfl) (zl Gw hr3 rfl mw Fw.kp bw .nil pass0 (zc (pv 1) zd)))
   (ze (zt (i:=3) zb2.nd rfl (Or.inl rfl) (zl Gl hr2 rfl ml Fl.kp bl .nil pass0 (zc (pv 2) zd)))
   (ze (zt (i:=4) zb2.nd rfl (Or.inl rfl) (zz zd))
   (ze (zR (zn (zc1 hu64) (pv 3) (zz zd) (nomark _)) (zh (zt (i:=4) zb2.nd rfl (Or.inl rfl) (zl Gp hr2 rfl mp Fp.kp bp .nil pass0 (zc (pv 1) (zc (pv 3) zd))))) zw)
   htr5)))),?_⟩
  refine⟨_,rfl,a,nn,rfl,hS,fun n=>⟨n,rfl,fun p x y hp bo'=>?_⟩⟩;refine⟨_,rfl,p,rfl,⟨x,y,upd_same,bo'⟩,fun O os pss H1 sb1 hb1 _ hO1 ho1 hdr=>?_⟩;obtain⟨hw,hnd,hlen⟩:=zgE hdr;obtain⟨h20,hpc,h5,h200⟩:=zdO hw;have h56:=zfl hdr;have hws:webS pss:=⟨hw,by rw[za1]; omega⟩;have c5:∀p∈canon pss,p.length<=5:=fun p hp=>(zad.mp (zaB hw hp)).2.1;refine⟨_,rfl,O,os,pss,rfl,SqL.of hO1,ho1,h5,by omega,by omega,fun KN H2 q2 t2=>?_⟩;obtain⟨ks,s2,_,hK2,hk2⟩:=zcq t2;refine⟨zg (by simp),fun PD hPD=>?_⟩;have s3:=Same.new (o:=.lst []) hPD;have hb3:=(hb1.same s2).same s3;have hO3:=s3 _ _ (s2 _ _ hO1);have hK3:=s3 _ _ hK2;have ho3:=s3.tps (s2.tps ho1);have hk3:=s3.tps hk2;have hP3:=upd_same (H:=H2) (a:=PD) (o:=.lst []);have nO:=zj (s2 _ _ hO1) hPD;have nK:=zj hK2 hPD;generalize upd H2 PD (.lst [])=H3 at s3 hb3 hO3 hK3 ho3 hk3 hP3;refine⟨_,rfl,zg (by simp),fun T hT=>?_⟩;have s4:=Same.new (o:=.lst []) hT;refine .inr ⟨KN,T,ks,[],canon pss,[],rfl,rfl,SqL.of (s4 _ _ hK3),s4.tps hk3,SqL.of upd_same,.nil,_,rfl,?_⟩;rw[if_pos rfl];have hO4:=s4 _ _ hO3;have hK4:=s4 _ _ hK3;have ho4:=s4.tps ho3;have hk4:=s4.tps hk3;have hP4:=s4 _ _ hP3;have hb4:=hb3.same s4;generalize upd H3 T (.lst [])=H4 at s4 hO4 hK4 ho4 hk4 hP4 hb4
  by_cases hc:canon pss=[]
  ·rw[decide_eq_true hc]
   exact iteF (rest5 p O KN PD os ks [] pss [] H4 ⟨hO4,ho4,hK4,hk4,hP4,.nil⟩ hb4 hws (by simp) nO.symm nK.symm)
  ·rw[decide_eq_false hc]
   have hcl:(canon pss).length<=1000:=by rw[za1]; omega
   refine iteT ⟨_,rfl,_,rfl,p,KN,ks,canon pss,rfl,hb4,hK4,hk4,hc,c5,fun q hq r hr=>zft hw hq hr,hcl,fun D H5 ts ps sb5 hb5 hD0 hD5 hp5 hz5 hin5=>?_⟩;exact rest5 p O KN D os ks ts pss ps H5 ⟨sb5 _ _ (hb4.ne hO4) hO4,sb5.tps hb4 ho4,sb5 _ _ (hb4.ne hK4) hK4,sb5.tps hb4 hk4,hD5,hp5⟩ hb5 hws hz5 (zj hO4 hD0).symm (zj hK4 hD0).symm
end
end K45
end
section
namespace K45
open K1
open PySem L2 STb
theorem ln1 {α:Type}{us:List α}{p:Str} (h:us.length=[p].length):∃a,us=[a]:=by
 rcases us with _ | ⟨a,_ | ⟨b,t⟩⟩
 ·cases h
 ·exact⟨a,rfl⟩
 ·simp at h
theorem ln2 {α:Type}{us:List α}{p q:Str} (h:us.length=[p,q].length):∃a b,us=[a,b]:=by
 rcases us with _ | ⟨a,t⟩
 ·cases h
 ·obtain⟨b,rfl⟩:=ln1 (p:=p) (Nat.succ.inj h)
  exact⟨a,b,rfl⟩
theorem ln3 {α:Type}{us:List α}{p q r:Str} (h:us.length=[p,q,r].length):∃a b c,us=[a,b,c]:=by
 rcases us with _ | ⟨a,t⟩
 ·cases h
 ·obtain⟨b,c,rfl⟩:=ln2 (p:=p) (q:=q) (Nat.succ.inj h)
  exact⟨a,b,c,rfl⟩
theorem zju {l:PySem.W.OpenLaw}{w:World}{K:PySem.W.Frag}{h:Heap}{mg:Str->Option Value}{fa f1 f2 f3 f4 f5 f6 f7 f8 f9 f10 f11 f12 f13 f14 f15 f16 f17 f18 f19 f20 f21 f22 f23 f24 f25 f26 f27 f28 f29 f30 :Addr} (X:K.In h) (G:h.Ns mainGlobals mg) (hfa:mg "law"=some (.ref fa))
  {od1 an1 od2 an2 od3 an3 od4 an4 od5 an5 od6 an6 od7 an7 od8 an8 od9 an9 od10 an10 od11 an11 od12 an12 od13 an13 od14 an14 od15 an15 od16 an16 od17 an17 od18 an18 od19 an19 od20 an20 od21 an21 od22 an22 od23 an23 od24 an24 od25 an25 od26 an26 od27 an27 od28 an28 od29 an29 od30 an30:Option Addr} {sl1 sl2 sl3 sl4 sl5 sl6 sl7 sl8 sl9 sl10 sl11 sl12 sl13 sl14 sl15 sl16 sl17 sl18 sl19 sl20 sl21 sl22 sl23 sl24 sl25 sl26 sl27 sl28 sl29 sl30:Array (Option Value)} {oc1 kV1 dc1 pm1 cd1 ct1 oc2 kV2 dc2 pm2 cd2 ct2 oc3 kV3 dc3 pm3 cd3 ct3 oc4 kV4 dc4 pm4 cd4 ct4 oc5 kV5 dc5 pm5 cd5 ct5 oc6 kV6 dc6 pm6 cd6 ct6 oc7 kV7 dc7 pm7 cd7 ct7 oc8 kV8 dc8 pm8 cd8 ct8 oc9 kV9 dc9 pm9 cd9 ct9 oc10 kV10 dc10 pm10 cd10 ct10 oc11 kV11 dc11 pm11 cd11 ct11 oc12 kV12 dc12 pm12 cd12 ct12 oc13 kV13 dc13 pm13 cd13 ct13 oc14 kV14 dc14 pm14 cd14 ct14 oc15 kV15 dc15 pm15 cd15 ct15 oc16 kV16 dc16 pm16 cd16 ct16 oc17 kV17 dc17 pm17 cd17 ct17 oc18 kV18 dc18 pm18 cd18 ct18 oc19 kV19 dc19 pm19 cd19 ct19 oc20 kV20 dc20 pm20 cd20 ct20 oc21 kV21 dc21 pm21 cd21 ct21 oc22 kV22 dc22 pm22 cd22 ct22 oc23 kV23 dc23 pm23 cd23 ct23 oc24 kV24 dc24 pm24 cd24 ct24 oc25 kV25 dc25 pm25 cd25 ct25 oc26 kV26 dc26 pm26 cd26 ct26 oc27 kV27 dc27 pm27 cd27 ct27 oc28 kV28 dc28 pm28 cd28 ct28 oc29 kV29 dc29 pm29 cd29 ct29 oc30 kV30 dc30 pm30 cd30 ct30:Value} {tp tq tr ts:Tok}
  (a1:PySem.W.nsIn K mainGlobals "is_piece"=some (some (.ref f1))) (l1:K.lookup f1=some ⟨oc1,od1,.func (PySem.W.fnOf "is_piece" "is_piece" (zu zbS) (zm zbS) (zf zbS) .none kV1 dc1 pm1 an1 cd1 ct1),sl1⟩) (c1:PySem.W.codeIn K cd1 "is_piece"=true) (k1:PySem.W.keepIn K (.ref f1)=true)
  (a2:PySem.W.nsIn K mainGlobals "parts_of"=some (some (.ref f2))) (l2:K.lookup f2=some ⟨oc2,od2,.func (PySem.W.fnOf "parts_of" "parts_of" (zu zaZ) (zm zaZ) (zf zaZ) .none kV2 dc2 pm2 an2 cd2 ct2),sl2⟩) (c2:PySem.W.codeIn K cd2 "parts_of"=true) (k2:PySem.W.keepIn K (.ref f2)=true)
  (a3:PySem.W.nsIn K mainGlobals "rims_of"=some (some (.ref f3))) (l3:K.lookup f3=some ⟨oc3,od3,.func (PySem.W.fnOf "rims_of" "rims_of" (zu zcD) (zm zcD) (zf zcD) .none kV3 dc3 pm3 an3 cd3 ct3),sl3⟩) (c3:PySem.W.codeIn K cd3 "rims_of"=true) (k3:PySem.W.keepIn K (.ref f3)=true)
  (a4:PySem.W.nsIn K mainGlobals "order_key"=some (some (.ref f4))) (l4:K.lookup f4=some ⟨oc4,od4,.func (PySem.W.fnOf "order_key" "order_key" (zu sKey) (zm sKey) (zf sKey) .none kV4 dc4 pm4 an4 cd4 ct4),sl4⟩) (c4:PySem.W.codeIn K cd4 "order_key"=true) (k4:PySem.W.keepIn K (.ref f4)=true)
  (a5:PySem.W.nsIn K mainGlobals "in_order"=some (some (.ref f5))) (l5:K.lookup f5=some ⟨oc5,od5,.func (PySem.W.fnOf "in_order" "in_order" (zu zbr) (zm zbr) (zf zbr) .none kV5 dc5 pm5 an5 cd5 ct5),sl5⟩) (c5:PySem.W.codeIn K cd5 "in_order"=true) (k5:PySem.W.keepIn K (.ref f5)=true)
  (a6:PySem.W.nsIn K mainGlobals "all_parts"=some (some (.ref f6))) (l6:K.lookup f6=some ⟨oc6,od6,.func (PySem.W.fnOf "all_parts" "all_parts" (zu sAll) (zm sAll) (zf sAll) .none kV6 dc6 pm6 an6 cd6 ct6),sl6⟩) (c6:PySem.W.codeIn K cd6 "all_parts"=true) (k6:PySem.W.keepIn K (.ref f6)=true)
  (a7:PySem.W.nsIn K mainGlobals "is_web"=some (some (.ref f7))) (l7:K.lookup f7=some ⟨oc7,od7,.func (PySem.W.fnOf "is_web" "is_web" (zu zcd) (zm zcd) (zf zcd) .none kV7 dc7 pm7 an7 cd7 ct7),sl7⟩) (c7:PySem.W.codeIn K cd7 "is_web"=true) (k7:PySem.W.keepIn K (.ref f7)=true)
  (a8:PySem.W.nsIn K mainGlobals "must_be_web"=some (some (.ref f8))) (l8:K.lookup f8=some ⟨oc8,od8,.func (PySem.W.fnOf "must_be_web" "must_be_web" (zu zec) (zm zec) (zf zec) .none kV8 dc8 pm8 an8 cd8 ct8),sl8⟩) (c8:PySem.W.codeIn K cd8 "must_be_web"=true) (k8:PySem.W.keepIn K (.ref f8)=true)
  (a9:PySem.W.nsIn K mainGlobals "pieces"=some (some (.ref f9))) (l9:K.lookup f9=some ⟨oc9,od9,.func (PySem.W.fnOf "pieces" "pieces" (zu zaW) (zm zaW) (zf zaW) .none kV9 dc9 pm9 an9 cd9 ct9),sl9⟩) (c9:PySem.W.codeIn K cd9 "pieces"=true) (k9:PySem.W.keepIn K (.ref f9)=true)
  (a10:PySem.W.nsIn K mainGlobals "judged"=some (some (.ref f10))) (l10:K.lookup f10=some ⟨oc10,od10,.func (PySem.W.fnOf "judged" "judged" (zu zaQ) (zm zaQ) (zf zaQ) .none kV10 dc10 pm10 an10 cd10 ct10),sl10⟩) (c10:PySem.W.codeIn K cd10 "judged"=true) (k10:PySem.W.keepIn K (.ref f10)=true)
  (a11:PySem.W.nsIn K mainGlobals "first_bad"=some (some (.ref f11))) (l11:K.lookup f11=some ⟨oc11,od11,.func (PySem.W.fnOf "first_bad" "first_bad" (zu zdA) (zm zdA) (zf zdA) .none kV11 dc11 pm11 an11 cd11 ct11),sl11⟩) (c11:PySem.W.codeIn K cd11 "first_bad"=true) (k11:PySem.W.keepIn K (.ref f11)=true)
  (a12:PySem.W.nsIn K mainGlobals "is_pair"=some (some (.ref f12))) (l12:K.lookup f12=some ⟨oc12,od12,.func (PySem.W.fnOf "is_pair" "is_pair" (zu zaS) (zm zaS) (zf zaS) .none kV12 dc12 pm12 an12 cd12 ct12),sl12⟩) (c12:PySem.W.codeIn K cd12 "is_pair"=true) (k12:PySem.W.keepIn K (.ref f12)=true)
  (a13:PySem.W.nsIn K mainGlobals "first_round"=some (some (.ref f13))) (l13:K.lookup f13=some ⟨oc13,od13,.func (PySem.W.fnOf "first_round" "first_round" (zu zdW) (zm zdW) (zf zdW) .none kV13 dc13 pm13 an13 cd13 ct13),sl13⟩) (c13:PySem.W.codeIn K cd13 "first_round"=true) (k13:PySem.W.keepIn K (.ref f13)=true)
  (a14:PySem.W.nsIn K mainGlobals "round_with"=some (some (.ref f14))) (l14:K.lookup f14=some ⟨oc14,od14,.func (PySem.W.fnOf "round_with" "round_with" (zu sRW) (zm sRW) (zf sRW) .none kV14 dc14 pm14 an14 cd14 ct14),sl14⟩) (c14:PySem.W.codeIn K cd14 "round_with"=true) (k14:PySem.W.keepIn K (.ref f14)=true)
  (a15:PySem.W.nsIn K mainGlobals "other_rims"=some (some (.ref f15))) (l15:K.lookup f15=some ⟨oc15,od15,.func (PySem.W.fnOf "other_rims" "other_rims" (zu zbt) (zm zbt) (zf zbt) .none kV15 dc15 pm15 an15 cd15 ct15),sl15⟩) (c15:PySem.W.codeIn K cd15 "other_rims"=true) (k15:PySem.W.keepIn K (.ref f15)=true)
  (a16:PySem.W.nsIn K mainGlobals "_law_cell_at"=some (some (.ref f16))) (l16:K.lookup f16=some ⟨oc16,od16,.func (PySem.W.fnOf "_law_cell_at" "_law_cell_at" (zu zdF) (zm zdF) (zf zdF) .none kV16 dc16 pm16 an16 cd16 ct16),sl16⟩) (c16:PySem.W.codeIn K cd16 "_law_cell_at"=true) (k16:PySem.W.keepIn K (.ref f16)=true)
  (a17:PySem.W.nsIn K mainGlobals "_law_box"=some (some (.ref f17))) (l17:K.lookup f17=some ⟨oc17,od17,.func (PySem.W.fnOf "_law_box" "_law_box" (zu sBox) (zm sBox) (zf sBox) .none kV17 dc17 pm17 an17 cd17 ct17),sl17⟩) (c17:PySem.W.codeIn K cd17 "_law_box"=true) (k17:PySem.W.keepIn K (.ref f17)=true)
  (a18:PySem.W.nsIn K mainGlobals "_law_take"=some (some (.ref f18))) (l18:K.lookup f18=some ⟨oc18,od18,.func (PySem.W.fnOf "_law_take" "_law_take" (zu zci) (zm zci) (zf zci) .none kV18 dc18 pm18 an18 cd18 ct18),sl18⟩) (c18:PySem.W.codeIn K cd18 "_law_take"=true) (k18:PySem.W.keepIn K (.ref f18)=true)
  (a19:PySem.W.nsIn K mainGlobals "_law_parts"=some (some (.ref f19))) (l19:K.lookup f19=some ⟨oc19,od19,.func (PySem.W.fnOf "_law_parts" "_law_parts" (zu zaD) (zm zaD) (zf zaD) .none kV19 dc19 pm19 an19 cd19 ct19),sl19⟩) (c19:PySem.W.codeIn K cd19 "_law_parts"=true) (k19:PySem.W.keepIn K (.ref f19)=true)
  (a20:PySem.W.nsIn K mainGlobals "_law_pieces"=some (some (.ref f20))) (l20:K.lookup f20=some ⟨oc20,od20,.func (PySem.W.fnOf "_law_pieces" "_law_pieces" (zu zaw) (zm zaw) (zf zaw) .none kV20 dc20 pm20 an20 cd20 ct20),sl20⟩) (c20:PySem.W.codeIn K cd20 "_law_pieces"=true) (k20:PySem.W.keepIn K (.ref f20)=true)
  (a21:PySem.W.nsIn K mainGlobals "_law_known"=some (some (.ref f21))) (l21:K.lookup f21=some ⟨oc21,od21,.func (PySem.W.fnOf "_law_known" "_law_known" (zu zb4) (zm zb4) (zf zb4) .none kV21 dc21 pm21 an21 cd21 ct21),sl21⟩) (c21:PySem.W.codeIn K cd21 "_law_known"=true) (k21:PySem.W.keepIn K (.ref f21)=true)
  (a22:PySem.W.nsIn K mainGlobals "_law_named"=some (some (.ref f22))) (l22:K.lookup f22=some ⟨oc22,od22,.func (PySem.W.fnOf "_law_named" "_law_named" (zu zbv) (zm zbv) (zf zbv) .none kV22 dc22 pm22 an22 cd22 ct22),sl22⟩) (c22:PySem.W.codeIn K cd22 "_law_named"=true) (k22:PySem.W.keepIn K (.ref f22)=true)
  (a23:PySem.W.nsIn K mainGlobals "_law_web"=some (some (.ref f23))) (l23:K.lookup f23=some ⟨oc23,od23,.func (PySem.W.fnOf "_law_web" "_law_web" (zu sWeb) (zm sWeb) (zf sWeb) .none kV23 dc23 pm23 an23 cd23 ct23),sl23⟩) (c23:PySem.W.codeIn K cd23 "_law_web"=true) (k23:PySem.W.keepIn K (.ref f23)=true)
  (a24:PySem.W.nsIn K mainGlobals "_law_rims"=some (some (.ref f24))) (l24:K.lookup f24=some ⟨oc24,od24,.func (PySem.W.fnOf "_law_rims" "_law_rims" (zu zaO) (zm zaO) (zf zaO) .none kV24 dc24 pm24 an24 cd24 ct24),sl24⟩) (c24:PySem.W.codeIn K cd24 "_law_rims"=true) (k24:PySem.W.keepIn K (.ref f24)=true)
  (a25:PySem.W.nsIn K mainGlobals "_law_bad"=some (some (.ref f25))) (l25:K.lookup f25=some ⟨oc25,od25,.func (PySem.W.fnOf "_law_bad" "_law_bad" (zu zd7) (zm zd7) (zf zd7) .none kV25 dc25 pm25 an25 cd25 ct25),sl25⟩) (c25:PySem.W.codeIn K cd25 "_law_bad"=true) (k25:PySem.W.keepIn K (.ref f25)=true)
  (a26:PySem.W.nsIn K mainGlobals "_law_steps"=some (some (.ref f26))) (l26:K.lookup f26=some ⟨oc26,od26,.func (PySem.W.fnOf "_law_steps" "_law_steps" (zu za6) (zm za6) (zf za6) .none kV26 dc26 pm26 an26 cd26 ct26),sl26⟩) (c26:PySem.W.codeIn K cd26 "_law_steps"=true) (k26:PySem.W.keepIn K (.ref f26)=true)
  (a27:PySem.W.nsIn K mainGlobals "_law_in_rounds"=some (some (.ref f27))) (l27:K.lookup f27=some ⟨oc27,od27,.func (PySem.W.fnOf "_law_in_rounds" "_law_in_rounds" (zu sInR) (zm sInR) (zf sInR) .none kV27 dc27 pm27 an27 cd27 ct27),sl27⟩) (c27:PySem.W.codeIn K cd27 "_law_in_rounds"=true) (k27:PySem.W.keepIn K (.ref f27)=true)
  (a28:PySem.W.nsIn K mainGlobals "_law_some_pairs"=some (some (.ref f28))) (l28:K.lookup f28=some ⟨oc28,od28,.func (PySem.W.fnOf "_law_some_pairs" "_law_some_pairs" (zu zdg) (zm zdg) (zf zdg) .none kV28 dc28 pm28 an28 cd28 ct28),sl28⟩) (c28:PySem.W.codeIn K cd28 "_law_some_pairs"=true) (k28:PySem.W.keepIn K (.ref f28)=true)
  (a29:PySem.W.nsIn K mainGlobals "_law_is_round"=some (some (.ref f29))) (l29:K.lookup f29=some ⟨oc29,od29,.func (PySem.W.fnOf "_law_is_round" "_law_is_round" (zu sIsR) (zm sIsR) (zf sIsR) .none kV29 dc29 pm29 an29 cd29 ct29),sl29⟩) (c29:PySem.W.codeIn K cd29 "_law_is_round"=true) (k29:PySem.W.keepIn K (.ref f29)=true)
  (a30:PySem.W.nsIn K mainGlobals "law"=some (some (.ref f30))) (l30:K.lookup f30=some ⟨oc30,od30,.func (PySem.W.fnOf "law" "law" (zu sLaw) (zm sLaw) (zf sLaw) .none kV30 dc30 pm30 an30 cd30 ct30),sl30⟩) (c30:PySem.W.codeIn K cd30 "law"=true) (k30:PySem.W.keepIn K (.ref f30)=true)
  (gp:PySem.W.nsIn K mainGlobals "MOST_POINTS"=some (some (.int 5 tp)))
  (gq:PySem.W.nsIn K mainGlobals "LAST_POINT"=some (some (.int 99 tq)))
  (gr:PySem.W.nsIn K mainGlobals "MOST_HANDED"=some (some (.int 20 tr)))
  (gs:PySem.W.nsIn K mainGlobals "MOST_PIECES"=some (some (.int 200 ts)))
  (z1:PySem.W.nsIn K mainGlobals "len"=some none)
  (z2:PySem.W.nsIn K mainGlobals "all"=some none)
  (z3:PySem.W.nsIn K mainGlobals "zip"=some none)
  (z4:PySem.W.nsIn K mainGlobals "sorted"=some none)
  (z5:PySem.W.nsIn K mainGlobals "set"=some none)
  (z6:PySem.W.nsIn K mainGlobals "list"=some none)
  (z7:PySem.W.nsIn K mainGlobals "tuple"=some none)
  (z8:PySem.W.nsIn K mainGlobals "range"=some none)
  (z9:PySem.W.nsIn K mainGlobals "enumerate"=some none)
  (z10:PySem.W.nsIn K mainGlobals "int"=some none)
  (z11:PySem.W.nsIn K mainGlobals "isinstance"=some none)
  (z12:PySem.W.nsIn K mainGlobals "reversed"=some none)
  (z13:PySem.W.nsIn K mainGlobals "bool"=some none)
  (z14:PySem.W.nsIn K mainGlobals "any"=some none) :
  ∃fd:FuncData,(∀(s:Shared) (v:Value),BindsTo s fd ⟨[v],[]⟩ [("script",v)])/\∀base:Heap,K.In base->base.Ns mainGlobals mg->FnOk l.prog w K mg base CX0 10 fa fd ["script"] (zgT K):=by
 have e:=hfa.symm.trans (PySem.W.mg_of X G a30);cases e;have B:Bt mg:=⟨PySem.W.mg_none_of X G z1,PySem.W.mg_none_of X G z2,PySem.W.mg_none_of X G z3,PySem.W.mg_none_of X G z4,PySem.W.mg_none_of X G z5,PySem.W.mg_none_of X G z6,PySem.W.mg_none_of X G z7,PySem.W.mg_none_of X G z8,PySem.W.mg_none_of X G z9,PySem.W.mg_none_of X G z10,PySem.W.mg_none_of X G z11,PySem.W.mg_none_of X G z12,PySem.W.mg_none_of X G z13⟩;have F1:=zy (st:=zbS) l1 c1 k1;have b1:=F1.binds (ps:=["numbers"]) fun _ _ _ _ _ _ us hl=>by obtain⟨_,rfl⟩:=ln1 hl; rfl
 have m1:=PySem.W.mg_of X G a1;have F2:=zy (st:=zaZ) l2 c2 k2;have b2:=F2.binds (ps:=["piece"]) fun _ _ _ _ _ _ us hl=>by obtain⟨_,rfl⟩:=ln1 hl; rfl
 have m2:=PySem.W.mg_of X G a2;have F3:=zy (st:=zcD) l3 c3 k3;have b3:=F3.binds (ps:=["piece"]) fun _ _ _ _ _ _ us hl=>by obtain⟨_,rfl⟩:=ln1 hl; rfl
 have m3:=PySem.W.mg_of X G a3;have F4:=zy (st:=sKey) l4 c4 k4;have b4:=F4.binds (ps:=["piece"]) fun _ _ _ _ _ _ us hl=>by obtain⟨_,rfl⟩:=ln1 hl; rfl
 have m4:=PySem.W.mg_of X G a4;have F5:=zy (st:=zbr) l5 c5 k5;have b5:=F5.binds (ps:=["some"]) fun _ _ _ _ _ _ us hl=>by obtain⟨_,rfl⟩:=ln1 hl; rfl
 have m5:=PySem.W.mg_of X G a5;have F6:=zy (st:=sAll) l6 c6 k6;have b6:=F6.binds (ps:=["some"]) fun _ _ _ _ _ _ us hl=>by obtain⟨_,rfl⟩:=ln1 hl; rfl
 have m6:=PySem.W.mg_of X G a6;have F7:=zy (st:=zcd) l7 c7 k7;have b7:=F7.binds (ps:=["web"]) fun _ _ _ _ _ _ us hl=>by obtain⟨_,rfl⟩:=ln1 hl; rfl
 have m7:=PySem.W.mg_of X G a7;have F8:=zy (st:=zec) l8 c8 k8;have b8:=F8.binds (ps:=["web"]) fun _ _ _ _ _ _ us hl=>by obtain⟨_,rfl⟩:=ln1 hl; rfl
 have m8:=PySem.W.mg_of X G a8;have F9:=zy (st:=zaW) l9 c9 k9;have b9:=F9.binds (ps:=["web"]) fun _ _ _ _ _ _ us hl=>by obtain⟨_,rfl⟩:=ln1 hl; rfl
 have m9:=PySem.W.mg_of X G a9;have F10:=zy (st:=zaQ) l10 c10 k10;have b10:=F10.binds (ps:=["web","pairs"]) fun _ _ _ _ _ _ us hl=>by obtain⟨_,_,rfl⟩:=ln2 hl; rfl
 have m10:=PySem.W.mg_of X G a10;have F11:=zy (st:=zdA) l11 c11 k11;have b11:=F11.binds (ps:=["every","pairs"]) fun _ _ _ _ _ _ us hl=>by obtain⟨_,_,rfl⟩:=ln2 hl; rfl
 have m11:=PySem.W.mg_of X G a11;have F12:=zy (st:=zaS) l12 c12 k12;have b12:=F12.binds (ps:=["every","pair"]) fun _ _ _ _ _ _ us hl=>by obtain⟨_,_,rfl⟩:=ln2 hl; rfl
 have m12:=PySem.W.mg_of X G a12;have F13:=zy (st:=zdW) l13 c13 k13;have b13:=F13.binds (ps:=["pairs"]) fun _ _ _ _ _ _ us hl=>by obtain⟨_,rfl⟩:=ln1 hl; rfl
 have m13:=PySem.W.mg_of X G a13;have F14:=zy (st:=sRW) l14 c14 k14;have b14:=F14.binds (ps:=["seconds","new"]) fun _ _ _ _ _ _ us hl=>by obtain⟨_,_,rfl⟩:=ln2 hl; rfl
 have m14:=PySem.W.mg_of X G a14;have F15:=zy (st:=zbt) l15 c15 k15;have b15:=F15.binds (ps:=["pair"]) fun _ _ _ _ _ _ us hl=>by obtain⟨_,rfl⟩:=ln1 hl; rfl
 have m15:=PySem.W.mg_of X G a15;have F16:=zy (st:=zdF) l16 c16 k16;have b16:=F16.binds (ps:=["script","k"]) fun _ _ _ _ _ _ us hl=>by obtain⟨_,_,rfl⟩:=ln2 hl; rfl
 have m16:=PySem.W.mg_of X G a16;have F17:=zy (st:=sBox) l17 c17 k17;have b17:=F17.binds (ps:=["cell"]) fun _ _ _ _ _ _ us hl=>by obtain⟨_,rfl⟩:=ln1 hl; rfl
 have m17:=PySem.W.mg_of X G a17;have F18:=zy (st:=zci) l18 c18 k18;have b18:=F18.binds (ps:=["box","most"]) fun _ _ _ _ _ _ us hl=>by obtain⟨_,_,rfl⟩:=ln2 hl; rfl
 have m18:=PySem.W.mg_of X G a18;have F19:=zy (st:=zaD) l19 c19 k19;have b19:=F19.binds (ps:=["piece"]) fun _ _ _ _ _ _ us hl=>by obtain⟨_,rfl⟩:=ln1 hl; rfl
 have m19:=PySem.W.mg_of X G a19;have F20:=zy (st:=zaw) l20 c20 k20;have b20:=F20.binds (ps:=["web"]) fun _ _ _ _ _ _ us hl=>by obtain⟨_,rfl⟩:=ln1 hl; rfl
 have m20:=PySem.W.mg_of X G a20;have F21:=zy (st:=zb4) l21 c21 k21;have b21:=F21.binds (ps:=["number"]) fun _ _ _ _ _ _ us hl=>by obtain⟨_,rfl⟩:=ln1 hl; rfl
 have m21:=PySem.W.mg_of X G a21;have F22:=zy (st:=zbv) l22 c22 k22;have b22:=F22.binds (ps:=["box","web"]) fun _ _ _ _ _ _ us hl=>by obtain⟨_,_,rfl⟩:=ln2 hl; rfl
 have m22:=PySem.W.mg_of X G a22;have F23:=zy (st:=sWeb) l23 c23 k23;have b23:=F23.binds (ps:=["box"]) fun _ _ _ _ _ _ us hl=>by obtain⟨_,rfl⟩:=ln1 hl; rfl
 have m23:=PySem.W.mg_of X G a23;have F24:=zy (st:=zaO) l24 c24 k24;have b24:=F24.binds (ps:=["piece"]) fun _ _ _ _ _ _ us hl=>by obtain⟨_,rfl⟩:=ln1 hl; rfl
 have m24:=PySem.W.mg_of X G a24;have F25:=zy (st:=zd7) l25 c25 k25;have b25:=F25.binds (ps:=["known","pairs"]) fun _ _ _ _ _ _ us hl=>by obtain⟨_,_,rfl⟩:=ln2 hl; rfl
 have m25:=PySem.W.mg_of X G a25;have F26:=zy (st:=za6) l26 c26 k26;have b26:=F26.binds (ps:=["pair","pairs"]) fun _ _ _ _ _ _ us hl=>by obtain⟨_,_,rfl⟩:=ln2 hl; rfl
 have m26:=PySem.W.mg_of X G a26;have F27:=zy (st:=sInR) l27 c27 k27;have b27:=F27.binds (ps:=["pairs"]) fun _ _ _ _ _ _ us hl=>by obtain⟨_,rfl⟩:=ln1 hl; rfl
 have m27:=PySem.W.mg_of X G a27;have F28:=zy (st:=zdg) l28 c28 k28;have b28:=F28.binds (ps:=["box","known"]) fun _ _ _ _ _ _ us hl=>by obtain⟨_,_,rfl⟩:=ln2 hl; rfl
 have m28:=PySem.W.mg_of X G a28;have F29:=zy (st:=sIsR) l29 c29 k29;have b29:=F29.binds (ps:=["found","pairs"]) fun _ _ _ _ _ _ us hl=>by obtain⟨_,_,rfl⟩:=ln2 hl; rfl
 have m29:=PySem.W.mg_of X G a29;have F30:=zy (st:=sLaw) l30 c30 k30;have m30:=PySem.W.mg_of X G a30;have np:=PySem.W.mg_of X G gp;have nq:=PySem.W.mg_of X G gq;have nr:=PySem.W.mg_of X G gr;have ns:=PySem.W.mg_of X G gs;refine⟨PySem.W.fnOf "law" "law" (zu sLaw) (zm sLaw) (zf sLaw) .none kV30 dc30 pm30 an30 cd30 ct30,fun s v=>.of_eq rfl,fun base _ _=>?_⟩;have yany:=PySem.W.mg_none_of X G z14;have Gall:=zh3 (P:=l.prog) (w:=w) (base:=base) F6 B F2 b2 m2 F5 b5 m5 F4 b4 m4;have Gweb:=zhD (P:=l.prog) (w:=w) (base:=base) F7 B np nq nr ns F1 b1 m1 F6 b6 m6 F2 b2 m2 F5 b5 m5 F4 b4 m4;have Gm:=zin F8 F7 b7 m7 Gweb;have Gp:=zgc F9 F8 b8 m8 Gm F6 b6 m6 Gall;have Gor:=zhM (P:=l.prog) (w:=w) (base:=base) F15 B F3 b3 m3;have Grw:=zkm F14 B F15 b15 m15 Gor;have Gip:=zeY (P:=l.prog) (w:=w) (base:=base) F12 B F3 b3 m3;have Gfb:=zgK F11 B yany (by decide +kernel) F12 b12 m12 Gip;have Gfr:=zgR F13 B F14 b14 m14 Grw;have Gju:=zeU F10 B F11 b11 m11 Gfb F13 b13 m13 Gfr F9 b9 m9 Gp;have Glp:=ze5 (P:=l.prog) (w:=w) (base:=base) F20 B F19 b19 m19;have Glb:=zho (P:=l.prog) (w:=w) (base:=base) F25 B F24 b24 m24;have Gst:=zg5 (P:=l.prog) (w:=w) (base:=base) F26 B F24 b24 m24;have Gir:=zjN F27 B F26 b26 m26 Gst;have Gsr:=zjY F29 B F26 b26 m26 Gst;have Gso:=zim (P:=l.prog) (w:=w) (base:=base) F28 B F18 b18 m18 F24 b24 m24;have Gwb:=zj5 (P:=l.prog) (w:=w) (base:=base) F23 B F18 b18 m18 F22 b22 m22 F21 b21 m21;exact zjs F30 B F16 b16 m16 F17 b17 m17 F18 b18 m18 F23 b23 m23 Gwb F20 b20 m20 Glp F28 b28 m28 Gso F25 b25 m25 Glb F27 b27 m27 Gir F10 b10 m10 Gju F29 b29 m29 Gsr
theorem walk {l:PySem.W.OpenLaw}{q:Program}{loose:List Str}{XP:(Str->Option Value)->Heap->Prop}{YP:World->Heap->Prop}{d:DefRec}{K:Params->PySem.W.Frag} (hn:l.most=some 63) (hdf:d.params.defaults=[])
  (hY:∀(w:World) (h:Heap),YP w h->(K w.params).In h)
  (F:∀(w:World) (mg:Str->Option Value) (fa:Addr) (h:Heap),(K w.params).In h->h.Ns mainGlobals mg->mg d.name=some (.ref fa)->
   ∃fd:FuncData,(∀(s:Shared) (u:Value),BindsTo s fd ⟨[u],[]⟩ [("script",u)])/\∀base:Heap,(K w.params).In base->base.Ns mainGlobals mg->FnOk l.prog w (K w.params) mg base CX0 10 fa fd ["script"] (zgT (K w.params))) :
  PySem.W.WalkO q loose XP YP l.row.toRowW d [] (fun f vs=>PySem.call f vs):=
 L2.zfC (n:=63) (k:=10) (x:="script") (CX:=fun _=>CX0) (sp:=fun w=>zgT (K w.params)) hn (by decide) hdf ⟨rfl,by decide,by decide⟩ hY F (fun _ _ a ns hl _ hS=>⟨a,ns,rfl,hS,hl,fun _=>rfl⟩) fun _ _ _ _ _ z=>z
end K45
open PySem PySem.W PyProof.Rows
namespace PySem.W.Fast
theorem tw10030390594543601002:True:=⟨⟩
theorem tw10050382059482484745:True:=⟨⟩
theorem tw10087947059926060614:True:=⟨⟩
theorem tw10121115362765174668:True:=⟨⟩
theorem tw10126815212508323314:True:=⟨⟩
theorem tw10313699151231000573:True:=⟨⟩
theorem tw10392326138795168195:True:=⟨⟩
theorem tw10417265505247031614:True:=⟨⟩
theorem tw10458513471059814822:True:=⟨⟩
theorem tw10583759327916309309:True:=⟨⟩
theorem tw10648323663224804259:True:=⟨⟩
theorem tw10691444565634103288:True:=⟨⟩
theorem tw10711950900496403676:True:=⟨⟩
theorem tw10748592500252306204:True:=⟨⟩
theorem tw10818528756148782131:True:=⟨⟩
theorem tw10960793354001205433:True:=⟨⟩
theorem tw11387050222950501513:True:=⟨⟩
theorem tw11464731581215668201:True:=⟨⟩
theorem tw1165224103115640990:True:=⟨⟩
theorem tw11950145158832449591:True:=⟨⟩
theorem tw11954572880505026572:True:=⟨⟩
theorem tw11964266575215220543:True:=⟨⟩
theorem tw12172748180592738313:True:=⟨⟩
theorem tw12183254222458024670:True:=⟨⟩
theorem tw12250371589397164113:True:=⟨⟩
theorem tw122637104429242794:True:=⟨⟩
theorem tw12344266793013405418:True:=⟨⟩
theorem tw12362082100697015987:True:=⟨⟩
theorem tw12423282698997198553:True:=⟨⟩
theorem tw12522039961515142749:True:=⟨⟩
theorem tw1255840027202724421:True:=⟨⟩
theorem tw12749306785245286324:True:=⟨⟩
theorem tw12885641932718716740:True:=⟨⟩
theorem tw12967393549956861758:True:=⟨⟩
theorem tw12975357831461178659:True:=⟨⟩
theorem tw13274620578453589308:True:=⟨⟩
theorem tw1358239049323828985:True:=⟨⟩
theorem tw13793220442281180115:True:=⟨⟩
theorem tw13861308662227277133:True:=⟨⟩
theorem tw13899877981144714959:True:=⟨⟩
theorem tw14110310089782091582:True:=⟨⟩
theorem tw14117068263300955820:True:=⟨⟩
theorem tw14165860879008242935:True:=⟨⟩
theorem tw14211007818183051708:True:=⟨⟩
theorem tw14224767186678699639:True:=⟨⟩
theorem tw14276941643839059154:True:=⟨⟩
theorem tw14303801283873313713:True:=⟨⟩
theorem tw14450330730950832207:True:=⟨⟩
theorem tw14548458138953243512:True:=⟨⟩
theorem tw1455034552263240723:True:=⟨⟩
theorem tw1458868542665584619:True:=⟨⟩
theorem tw14614517400858414461:True:=⟨⟩
theorem tw14619852776514620118:True:=⟨⟩
theorem tw14675371815708961424:True:=⟨⟩
theorem tw14694130313882404685:True:=⟨⟩
theorem tw14834959642416404152:True:=⟨⟩
theorem tw14943038556967875803:True:=⟨⟩
theorem tw15010171142071379574:True:=⟨⟩
theorem tw15038168793763156865:True:=⟨⟩
theorem tw15082385846516605165:True:=⟨⟩
theorem tw15209656395297813595:True:=⟨⟩
theorem tw1521498584688784415:True:=⟨⟩
theorem tw15251491931523108784:True:=⟨⟩
theorem tw15386437258193481050:True:=⟨⟩
theorem tw15555297920183010063:True:=⟨⟩
theorem tw15581619215252049199:True:=⟨⟩
theorem tw15638584649416193890:True:=⟨⟩
theorem tw15703925706000817027:True:=⟨⟩
theorem tw15803497625403641670:True:=⟨⟩
theorem tw15901480170175588122:True:=⟨⟩
theorem tw15909246401448205956:True:=⟨⟩
theorem tw16004686528972149994:True:=⟨⟩
theorem tw16327743566252718263:True:=⟨⟩
theorem tw16345254683287531499:True:=⟨⟩
theorem tw16368221558990447137:True:=⟨⟩
theorem tw16371279159543997668:True:=⟨⟩
theorem tw16381522336018508784:True:=⟨⟩
theorem tw16481466672598112718:True:=⟨⟩
theorem tw16629021451326988420:True:=⟨⟩
theorem tw16697781230754549863:True:=⟨⟩
theorem tw16716932170840483108:True:=⟨⟩
theorem tw16766373359288474625:True:=⟨⟩
theorem tw16784345967140409840:True:=⟨⟩
theorem tw16874585012965709036:True:=⟨⟩
theorem tw1695868552083335625:True:=⟨⟩
theorem tw16983934283109077925:True:=⟨⟩
theorem tw1702228629128259496:True:=⟨⟩
theorem tw1730435406059472475:True:=⟨⟩
theorem tw17333124124089296212:True:=⟨⟩
theorem tw17455498208982565068:True:=⟨⟩
theorem tw17570580311785565893:True:=⟨⟩
theorem tw17758682939821755654:True:=⟨⟩
theorem tw18146640931840198761:True:=⟨⟩
theorem tw1824725351087215875:True:=⟨⟩
theorem tw18325848231513009916:True:=⟨⟩
theorem tw18383608001730179946:True:=⟨⟩
theorem tw228495133416978026:True:=⟨⟩
theorem tw251559966212525745:True:=⟨⟩
theorem tw2520636138976966713:True:=⟨⟩
theorem tw2593491330224472290:True:=⟨⟩
theorem tw276736851599135684:True:=⟨⟩
theorem tw2781421549123243212:True:=⟨⟩
theorem tw2829079837455603234:True:=⟨⟩
theorem tw2831018538642114837:True:=⟨⟩
theorem tw2950473755425247673:True:=⟨⟩
theorem tw2957290710960270543:True:=⟨⟩
theorem tw2971285917486915792:True:=⟨⟩
theorem tw3027299133701958426:True:=⟨⟩
theorem tw3031187571208963415:True:=⟨⟩
theorem tw3086987303827466962:True:=⟨⟩
theorem tw3151066243189744337:True:=⟨⟩
theorem tw317530004543624842:True:=⟨⟩
theorem tw3222886854107461264:True:=⟨⟩
theorem tw33328753909903794:True:=⟨⟩
theorem tw3370373047681491941:True:=⟨⟩
theorem tw3412499761670527836:True:=⟨⟩
theorem tw3443974495420099893:True:=⟨⟩
theorem tw3578005863084377508:True:=⟨⟩
theorem tw3607962480434595933:True:=⟨⟩
theorem tw360973433977125222:True:=⟨⟩
theorem tw3659663622868572663:True:=⟨⟩
theorem tw3670752870596787719:True:=⟨⟩
theorem tw3780416503817982607:True:=⟨⟩
theorem tw3827772168350673007:True:=⟨⟩
theorem tw3838224169269132608:True:=⟨⟩
theorem tw3951645428882014696:True:=⟨⟩
theorem tw4039151678481234369:True:=⟨⟩
theorem tw4075587836546988315:True:=⟨⟩
theorem tw4103477051112915757:True:=⟨⟩
theorem tw43268130693140218:True:=⟨⟩
theorem tw4372070018757522985:True:=⟨⟩
theorem tw4539840396757246447:True:=⟨⟩
theorem tw4559505716251610078:True:=⟨⟩
theorem tw4564750687001156285:True:=⟨⟩
theorem tw4658083754079950543:True:=⟨⟩
theorem tw4783858668578550688:True:=⟨⟩
theorem tw4834464653040717648:True:=⟨⟩
theorem tw5037017028606885718:True:=⟨⟩
theorem tw5059793311765153775:True:=⟨⟩
theorem tw5069577127525240858:True:=⟨⟩
theorem tw50706088738714171:True:=⟨⟩
theorem tw5112915057143002112:True:=⟨⟩
theorem tw5192571287929143802:True:=⟨⟩
theorem tw5196918067841492897:True:=⟨⟩
theorem tw5198569062723013796:True:=⟨⟩
theorem tw5289035683681996669:True:=⟨⟩
theorem tw5338215967044935351:True:=⟨⟩
theorem tw5353390182607171397:True:=⟨⟩
theorem tw5385450495715994885:True:=⟨⟩
theorem tw5401194642404199501:True:=⟨⟩
theorem tw5536842071340307590:True:=⟨⟩
theorem tw5580049423939725881:True:=⟨⟩
theorem tw589264740981886119:True:=⟨⟩
theorem tw5907600065331353412:True:=⟨⟩
theorem tw5913411244153765249:True:=⟨⟩
theorem tw5926346962895133940:True:=⟨⟩
theorem tw5931901068037836526:True:=⟨⟩
theorem tw5991611426342625619:True:=⟨⟩
theorem tw5997887947223872021:True:=⟨⟩
theorem tw6075401257942536774:True:=⟨⟩
theorem tw612007891815288190:True:=⟨⟩
theorem tw6150952836528949478:True:=⟨⟩
theorem tw6190907933317348697:True:=⟨⟩
theorem tw6328132750584030059:True:=⟨⟩
theorem tw6357692951826613424:True:=⟨⟩
theorem tw6383319256912621738:True:=⟨⟩
theorem tw6480583308492479815:True:=⟨⟩
theorem tw6595853817659674412:True:=⟨⟩
theorem tw6740735228175497460:True:=⟨⟩
theorem tw6749251387005428264:True:=⟨⟩
theorem tw6750747149692233164:True:=⟨⟩
theorem tw6785653397281362318:True:=⟨⟩
theorem tw6801580795500125020:True:=⟨⟩
theorem tw6925859409281979869:True:=⟨⟩
theorem tw6927020895968143127:True:=⟨⟩
theorem tw6955637309151250790:True:=⟨⟩
theorem tw7215699749377187796:True:=⟨⟩
theorem tw7251937205286070629:True:=⟨⟩
theorem tw7312173991894755269:True:=⟨⟩
theorem tw7315120408452040161:True:=⟨⟩
theorem tw7459282951526038444:True:=⟨⟩
theorem tw7601837988590428747:True:=⟨⟩
theorem tw7609829660537178185:True:=⟨⟩
theorem tw770017519431103930:True:=⟨⟩
theorem tw7712478303645286276:True:=⟨⟩
theorem tw7894728072551895332:True:=⟨⟩
theorem tw7968448806168707661:True:=⟨⟩
theorem tw8027124471739706876:True:=⟨⟩
theorem tw8119448211747925602:True:=⟨⟩
theorem tw8239451689356004466:True:=⟨⟩
theorem tw8273994362530415485:True:=⟨⟩
theorem tw8288494115966362395:True:=⟨⟩
theorem tw8335164896603048981:True:=⟨⟩
theorem tw8502067705758090230:True:=⟨⟩
theorem tw8587841924896545289:True:=⟨⟩
theorem tw8659641586074054731:True:=⟨⟩
theorem tw8703786486383324592:True:=⟨⟩
theorem tw871886840834164259:True:=⟨⟩
theorem tw8789050244806527581:True:=⟨⟩
theorem tw8927355581130551569:True:=⟨⟩
theorem tw8973977493210668831:True:=⟨⟩
theorem tw9038562678955938777:True:=⟨⟩
theorem tw9167815798418212892:True:=⟨⟩
theorem tw9234040150719358988:True:=⟨⟩
theorem tw9492401702192107243:True:=⟨⟩
theorem tw9668441247490349037:True:=⟨⟩
theorem tw9690739095034347159:True:=⟨⟩
theorem tw9705840790805922244:True:=⟨⟩
end PySem.W.Fast
set_option maxRecDepth 100000 in
set_option maxHeartbeats 0 in
theorem PySem.Challenge.cw_seamwright_k45_pairs_looked_at_holds : PySem.Challenge.rw_seamwright_k45_pairs_looked_at.Holds := by
 w_on; o_law; k_head; (case hw=>w_witness2)
 k_fill
 refine K45.walk (l:=PySem.Challenge.rw_seamwright_k45_pairs_looked_at) rfl rfl (fun w h Y=>PySem.W.kIn_of Y) ?F
 case F=>
  intro w mg fa h KX G hmg;refine' K45.zju KX G hmg ?a1 ?l1 ?c1 ?k1 ?a2 ?l2 ?c2 ?k2 ?a3 ?l3 ?c3 ?k3 ?a4 ?l4 ?c4 ?k4 ?a5 ?l5 ?c5 ?k5 ?a6 ?l6 ?c6 ?k6 ?a7 ?l7 ?c7 ?k7 ?a8 ?l8 ?c8 ?k8 ?a9 ?l9 ?c9 ?k9 ?a10 ?l10 ?c10 ?k10 ?a11 ?l11 ?c11 ?k11 ?a12 ?l12 ?c12 ?k12 ?a13 ?l13 ?c13 ?k13 ?a14 ?l14 ?c14 ?k14 ?a15 ?l15 ?c15 ?k15 ?a16 ?l16 ?c16 ?k16 ?a17 ?l17 ?c17 ?k17 ?a18 ?l18 ?c18 ?k18 ?a19 ?l19 ?c19 ?k19 ?a20 ?l20 ?c20 ?k20 ?a21 ?l21 ?c21 ?k21 ?a22 ?l22 ?c22 ?k22 ?a23 ?l23 ?c23 ?k23 ?a24 ?l24 ?c24 ?k24 ?a25 ?l25 ?c25 ?k25 ?a26 ?l26 ?c26 ?k26 ?a27 ?l27 ?c27 ?k27 ?a28 ?l28 ?c28 ?k28 ?a29 ?l29 ?c29 ?k29 ?a30 ?l30 ?c30 ?k30 ?gp ?gq ?gr ?gs ?z1 ?z2 ?z3 ?z4 ?z5 ?z6 ?z7 ?z8 ?z9 ?z10 ?z11 ?z12 ?z13 ?z14
  (case a1=>k_is); (case l1=>k_is); (case c1=>k_is); (case k1=>k_is); (case a2=>k_is); (case l2=>k_is)
  (case c2=>k_is); (case k2=>k_is); (case a3=>k_is); (case l3=>k_is); (case c3=>k_is); (case k3=>k_is)
  (case a4=>k_is); (case l4=>k_is); (case c4=>k_is); (case k4=>k_is); (case a5=>k_is); (case l5=>k_is)
  (case c5=>k_is); (case k5=>k_is); (case a6=>k_is); (case l6=>k_is); (case c6=>k_is); (case k6=>k_is)
  (case a7=>k_is); (case l7=>k_is); (case c7=>k_is); (case k7=>k_is); (case a8=>k_is); (case l8=>k_is)
  (case c8=>k_is); (case k8=>k_is); (case a9=>k_is); (case l9=>k_is); (case c9=>k_is); (case k9=>k_is)
  (case a10=>k_is); (case l10=>k_is); (case c10=>k_is); (case k10=>k_is); (case a11=>k_is); (case l11=>k_is)
  (case c11=>k_is); (case k11=>k_is); (case a12=>k_is); (case l12=>k_is); (case c12=>k_is); (case k12=>k_is)
  (case a13=>k_is); (case l13=>k_is); (case c13=>k_is); (case k13=>k_is); (case a14=>k_is); (case l14=>k_is)
  (case c14=>k_is); (case k14=>k_is); (case a15=>k_is); (case l15=>k_is); (case c15=>k_is); (case k15=>k_is)
  (case a16=>k_is); (case l16=>k_is); (case c16=>k_is); (case k16=>k_is); (case a17=>k_is); (case l17=>k_is)
  (case c17=>k_is); (case k17=>k_is); (case a18=>k_is); (case l18=>k_is); (case c18=>k_is); (case k18=>k_is)
  (case a19=>k_is); (case l19=>k_is); (case c19=>k_is); (case k19=>k_is); (case a20=>k_is); (case l20=>k_is)
  (case c20=>k_is); (case k20=>k_is); (case a21=>k_is); (case l21=>k_is); (case c21=>k_is); (case k21=>k_is)
  (case a22=>k_is); (case l22=>k_is); (case c22=>k_is); (case k22=>k_is); (case a23=>k_is); (case l23=>k_is)
  (case c23=>k_is); (case k23=>k_is); (case a24=>k_is); (case l24=>k_is); (case c24=>k_is); (case k24=>k_is)
  (case a25=>k_is); (case l25=>k_is); (case c25=>k_is); (case k25=>k_is); (case a26=>k_is); (case l26=>k_is)
  (case c26=>k_is); (case k26=>k_is); (case a27=>k_is); (case l27=>k_is); (case c27=>k_is); (case k27=>k_is)
  (case a28=>k_is); (case l28=>k_is); (case c28=>k_is); (case k28=>k_is); (case a29=>k_is); (case l29=>k_is)
  (case c29=>k_is); (case k29=>k_is); (case a30=>k_is); (case l30=>k_is); (case c30=>k_is); (case k30=>k_is)
  (case gp=>k_is); (case gq=>k_is); (case gr=>k_is); (case gs=>k_is); (case z1=>k_is); (case z2=>k_is)
  (case z3=>k_is); (case z4=>k_is); (case z5=>k_is); (case z6=>k_is); (case z7=>k_is); (case z8=>k_is)
  (case z9=>k_is); (case z10=>k_is); (case z11=>k_is); (case z12=>k_is); (case z13=>k_is); (case z14=>k_is)
#print axioms PySem.Challenge.cw_seamwright_k45_pairs_looked_at_holds
end
