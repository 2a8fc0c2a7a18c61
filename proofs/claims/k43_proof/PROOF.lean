import PyProof.Rows.All
import Wide.All
import OpenK.AllK
import Wide.FinOn
import Lean
import PyProof.EqAt
import PyProof.EqKinds
import PyProof.TupleCall
import PyProof.Rows.SortRuns
import KE.KSortKey
import KE.KListMore
import KE.KIntText
import KE.KEqDat
import PyProof.Rows.CallKwBuiltin
import PySem.SetTable
import PyProof.Rows.SetFrom
import PyProof.TupleKey
import PyProof.IsRules
import KE.KRevIter
import PyProof.ListRange
import PyProof.TupleOfGen
import PyProof.CollectIter
import PySem.Challenge.RW_seamwright_k43_whole_rows_of_pushes
import KE.KDictLaws
import PyProof.DictWalks
import PyProof.DictItems
import PyProof.MinMaxWalk
import PyProof.SumAny
import PyProof.NeKinds
set_option linter.all false
set_option Elab.async false
set_option maxRecDepth 100000
set_option maxHeartbeats 4000000
section
namespace L2
open PySem PySem.Spec PyProof.Rows
abbrev Key:=Sum Int Str
def zfQ:Key->Value->Bool
 | .inl k,v=>Value.isInt k v
 | .inr x,v=>Value.isStrOf x v
def keyH (w:World):Key->Int
 | .inl k=>hashInt k
 | .inr x=>hashStr w x
theorem keyIs_shape:∀{k:Key}{v:Value},zfQ k v=true->(∃i t,k=Sum.inl i/\v=Value.int i t) \/ (∃x t,k=Sum.inr x/\v=Value.str x t)
 | .inl i,v,h=>by
  obtain⟨t,e⟩:=Value.isInt_shape (k:=i) (v:=v) h;exact .inl ⟨i,t,rfl,e⟩
 | .inr x,v,h=>by
  obtain⟨t,e⟩:=Value.isStrOf_shape (x:=x) (v:=v) h;exact .inr ⟨x,t,rfl,e⟩
theorem zg1 (i:Int) (t:Tok):zfQ (.inl i) (.int i t)=true:=by simp[zfQ,Value.isInt]
theorem zgU (x:Str) (t:Tok):zfQ (.inr x) (.str x t)=true:=by simp[zfQ,Value.isStrOf]
theorem zli (a b:Int):decide ((Sum.inl a:Key)=Sum.inl b)=(a == b):=by
 by_cases e:a=b
 ·subst e; simp
 ·have h:¬ (Sum.inl a:Key)=Sum.inl b:=fun q=>e (Sum.inl.inj q)
  rw[decide_eq_false h];exact (beq_eq_false_iff_ne.mpr e).symm
theorem zkY (a b:Str):decide ((Sum.inr a:Key)=Sum.inr b)=decide (a=b):=by
 by_cases e:a=b
 ·subst e; simp
 ·have h:¬ (Sum.inr a:Key)=Sum.inr b:=fun q=>e (Sum.inr.inj q)
  rw[decide_eq_false h,decide_eq_false e]
theorem zlq (a:Int) (b:Str):decide ((Sum.inl a:Key)=Sum.inr b)=false:=decide_eq_false (fun q=>nomatch q)
theorem zlj (a:Str) (b:Int):decide ((Sum.inr a:Key)=Sum.inl b)=false:=decide_eq_false (fun q=>nomatch q)
def zv (prog:Program) (w:World):PySem.KeyKind prog w Key where
 is:=zfQ
 hash:=keyH w
 inj:=fun v a b ha hb=>by
  rcases keyIs_shape ha with ⟨i,t,rfl,rfl⟩ | ⟨x,t,rfl,rfl⟩
  ·rcases keyIs_shape hb with ⟨j,u,rfl,e⟩ | ⟨y,u,rfl,e⟩
   ·injection e with e1 _; rw[e1]
   ·exact nomatch e
  ·rcases keyIs_shape hb with ⟨j,u,rfl,e⟩ | ⟨y,u,rfl,e⟩
   ·exact nomatch e
   ·injection e with e1 _; rw[e1]
 byValue:=fun k v h=>by
  rcases keyIs_shape h with ⟨i,t,rfl,rfl⟩ | ⟨x,t,rfl,rfl⟩ <;> rfl
 pyHash:=fun hv h=>by
  rcases keyIs_shape hv with ⟨i,t,rfl,rfl⟩ | ⟨x,t,rfl,rfl⟩
  ·exact wpAny_pyHash_int h
  ·exact wpAny_pyHash_str h
 eqBool:=fun hu hv h=>by
  rcases keyIs_shape hu with ⟨i,t,rfl,rfl⟩ | ⟨x,t,rfl,rfl⟩
  ·rcases keyIs_shape hv with ⟨j,u,rfl,rfl⟩ | ⟨y,u,rfl,rfl⟩
   ·rw[zli] at h; exact wpAny_eqBool_int h
   ·rw[zlq] at h; exact SeqAt.EqAt.int_str i t y u _ _ _ _ h
  ·rcases keyIs_shape hv with ⟨j,u,rfl,rfl⟩ | ⟨y,u,rfl,rfl⟩
   ·rw[zlj] at h; exact SeqAt.EqAt.str_int x t j u _ _ _ _ h
   ·rw[zkY] at h; exact wpAny_eqBool_str h
 «strs»:=fun k x t v h=>by
  rcases keyIs_shape h with ⟨i,u,rfl,e⟩ | ⟨y,u,rfl,e⟩
  ·exact nomatch e
  ·injection e with e1 _
   subst e1;cases v <;> rfl
theorem zbh (prog:Program) (w:World) (i:Int) (t:Tok):(zv prog w).is (.inl i) (.int i t)=true:=zg1 i t
theorem zeQ (prog:Program) (w:World) (x:Str) (t:Tok):(zv prog w).is (.inr x) (.str x t)=true:=zgU x t
end L2
namespace L2
open PySem PySem.Spec PyProof.Rows
inductive V where
 | non | bl (b:Bool) | int (i:Int) | str (x:Str) | byt (b:Array UInt8) | flt (b:UInt64) | ref (a:Addr) | ty (n:String)
 deriving DecidableEq
def RelV:V->Value->Prop
 | .non,u=>u=Value.none
 | .bl b,u=>u=Value.bool b
 | .int i,u=>∃t,u=Value.int i t
 | .str x,u=>∃t,u=Value.str x t
 | .byt b,u=>∃t,u=Value.bytes b t
 | .flt b,u=>∃t,u=Value.float b t
 | .ref a,u=>u=Value.ref a
 | .ty n,u=>u=Value.type n
abbrev Vals:List V->List Value->Prop:=Paired RelV
theorem Vals.length {xs:List V}{us:List Value} (r:Vals xs us):xs.length=us.length:=Paired.length r
theorem Vals.get:∀{xs:List V}{us:List Value}{i:Nat}{x:V},Vals xs us->xs[i]?=some x->∃u,us[i]?=some u/\RelV x u
 | _,_,_,_,.nil,e=>by simp at e
 | _,_,0,_,.cons r _,e=>by simp at e; subst e; exact⟨_,rfl,r⟩
 | _,_,i+1,x,.cons _ t,e=>by
  obtain⟨u,h1,h2⟩:=Vals.get (i:=i) (x:=x) t (by simpa using e);exact⟨u,by simpa using h1,h2⟩
theorem Vals.set {x:V}{u:Value} (r:RelV x u):∀{xs:List V}{us:List Value} (i:Nat),Vals xs us->Vals (xs.set i x) (us.set i u)
 | _,_,_,.nil=>.nil
 | _,_,0,.cons _ t=>.cons r t
 | _,_,i+1,.cons q t=>.cons q (Vals.set r i t)
theorem Vals.append {xs ys:List V}{us ws:List Value} (h:Vals xs us) (g:Vals ys ws):Vals (xs++ys) (us++ws):=by
 induction h with
 | nil=>exact g
 | cons r _ ih=>exact .cons r ih
theorem Vals.take:∀{xs:List V}{us:List Value} (n:Nat),Vals xs us->Vals (xs.take n) (us.take n)
 | _,_,0,_=>.nil
 | _,_,_+1,.nil=>.nil
 | _,_,n+1,.cons r t=>.cons r (Vals.take n t)
theorem Vals.drop:∀{xs:List V}{us:List Value} (n:Nat),Vals xs us->Vals (xs.drop n) (us.drop n)
 | _,_,0,r=>r
 | _,_,_+1,.nil=>.nil
 | _,_,n+1,.cons _ t=>Vals.drop n t
theorem Vals.none_of:∀{xs:List V}{us:List Value}{i:Nat},Vals xs us->xs[i]?=none->us[i]?=none:=fun {xs us i} r e=>by
 have h1:=r.length;have h2:xs.length<=i:=List.getElem?_eq_none_iff.mp e;exact List.getElem?_eq_none_iff.mpr (by omega)
def RelO:Option V->Option Value->Prop
 | some v,some u=>RelV v u
 | none,none=>True
 | _,_=>False
def KV {κ:Type}:List (κ×V)->List (κ×Value)->Prop:=Paired fun (p:κ×V) (q:κ×Value)=>p.1=q.1/\RelV p.2 q.2
def kV:Key->V
 | .inl i=>.int i
 | .inr x=>.str x
inductive HO where
 | lst (xs:List V)
 | tup (xs:List V)
 | dK (kvs:List (Key×V)) | dT (kvs:List (List Key×V))
 | set (S:Int->Bool) (n:Nat)
 | ins (C dx:Addr) (fs:List (Str×V))
 | own (x:Addr)
 | xd (fs:List (Str×V))
 | met (f x:Addr)
 | rng (lo hi:Int)
 | frz (o:Obj) (u:HO)
 | tbl (ps:Array Value)
 | ext (φ:Heap->Prop)
abbrev Hp:=Addr->Option HO
def upd (H:Hp) (a:Addr) (o:HO):Hp:=fun b=>if b=a then some o else H b
theorem zd {H:Hp}{a:Addr}{o:HO}:upd H a o a=some o:=by unfold upd; rw[if_pos rfl]
theorem upd_ne {H:Hp}{a b:Addr}{o:HO} (h:b≠a):upd H a o b=H b:=by unfold upd; rw[if_neg h]
theorem zaA {H:Hp}{a b:Addr}{o u:HO} (h:H a=some o) (h':H b=some u) (d:o≠u):a≠b:=by
 intro e; subst e; rw[h] at h'; exact d (Option.some.inj h')
theorem ne_of_none {H:Hp}{a b:Addr}{o:HO} (h:H a=some o) (h':H b=none):a≠b:=by
 intro e; subst e; rw[h] at h'; cases h'
section
variable (P:Program) (w:World)
def zO (H:Hp) (h:Heap) (a:Addr):HO->Prop
 | .lst xs=>xs.length<=sizeLine/\∃(its:List Value) (n:Nat),Vals xs its/\h.get? a=some { cls:=.type "list",data:=.seq its.toArray n }
 | .tup xs=>xs.length<=sizeLine/\∃its:List Value,Vals xs its/\IsTup h a its.toArray
 | .dK kvs=>kvs.length<=sizeLine/\(a == sysModules)=false/\∃vs,KV kvs vs/\h.DictOf (zv P w) a vs
 | .dT kvs=>kvs.length<=sizeLine/\(a == sysModules)=false/\∃xs:List (List Key×Addr×Value),
   Paired (fun (p:List Key×V) (q:List Key×Addr×Value)=>p.1=q.1/\H q.2.1=some (.tup (p.1.map kV))/\RelV p.2 q.2.2) kvs xs/\
   ∃o es ep,h.get? a=some o/\o.ExactDict/\o.data=.dict es ep/\es.toList=xs.map (entryOfKey (tupleKind (zv P w)))/\(xs.map (·.1)).Nodup
 | .set S n=>h.SetOf (intKind P w) a S n
 | .ins C dx fs=>H dx=some (.own a)/\fs.length<=1000/\dx≠a/\h.get? a=some (PySem.W.instObj C dx)/\
   ∃mA,h.Ns1 dx mA/\(∀f,RelO (fs.lookup f) (mA f))/\PySem.Within mA (fs.map (·.1))
 | .own _=>∃o,h.get? a=some o
 | .xd fs=>∃mA,h.Ns1 a mA/\∀f,RelO (fs.lookup f) (mA f)
 | .rng lo hi=>∃t u v,h.get? a=some { cls:=.type "range",data:=.fields #[.int lo t,.int hi u,.int 1 v] }
 | .frz o u=>h.get? a=some o/\zO H h a u
 | .tbl ps=>h.get? a=some { cls:=.none,data:=.fields ps }
 | .met f x=>h.get? a=some (PySem.W.methodObj (.ref f) (.ref x))
 | .ext φ=>φ h/\(∃o,h.get? a=some o)/\∀h1 h2:Heap,φ h1->(∀o,h1.get? a=some o->h2.get? a=some o)->φ h2
def HOk (H:Hp) (h:Heap):Prop:=∀a o,H a=some o->zO P w H h a o
end
section
variable {P:Program}{w:World}{H H':Hp}{h h':Heap}{a:Addr}{o:HO}
theorem zO.lt (x:zO P w H h a o):a<h.objs.size:=by
 cases o with
 | lst xs=>obtain⟨_,_,_,_,e⟩:=x; exact Heap.lt_size e
 | tup xs=>obtain⟨_,_,_,p⟩:=x; exact p.lt
 | dK kvs=>obtain⟨_,_,_,_,o,_,_,e,_⟩:=x; exact Heap.lt_size e
 | dT kvs=>obtain⟨_,_,_,_,o,_,_,e,_⟩:=x; exact Heap.lt_size e
 | set S n=>obtain⟨o,_,_,_,e,_⟩:=x; exact Heap.lt_size e
 | ins C dx fs=>obtain⟨_,_,_,e,_⟩:=x; exact Heap.lt_size e
 | own y=>obtain⟨_,e⟩:=x; exact Heap.lt_size e
 | xd fs=>obtain⟨_,⟨_,_,_,e,_⟩,_⟩:=x; exact Heap.lt_size e
 | rng lo hi=>obtain⟨_,_,_,e⟩:=x; exact Heap.lt_size e
 | frz ob u=>obtain⟨e,_⟩:=x; exact Heap.lt_size e
 | tbl ps=>exact Heap.lt_size (show h.get? a=some _ from x)
 | met f y=>exact Heap.lt_size (show h.get? a=some _ from x)
 | ext φ=>obtain⟨_,⟨_,e⟩,_⟩:=x; exact Heap.lt_size e
theorem Paired.mapP {α β:Type}{F G:α->β->Prop}{l₁:List α}{l₂:List β} (h:Paired F l₁ l₂) (f:∀a b,F a b->G a b):Paired G l₁ l₂:=by
 induction h with
 | nil=>exact .nil
 | cons r _ ih=>exact .cons (f _ _ r) ih
theorem zO.stay (x:zO P w H h a o) (k:∀b u,(b=a \/ H b=some (.own a))->h.get? b=some u->h'.get? b=some u)
  (ho:∀b,H b=some (.own a)->H' b=some (.own a)) (ht:∀b xs,H b=some (.tup xs)->H' b=some (.tup xs)):zO P w H' h' a o:=by
 induction o with
 | lst xs=>obtain⟨z,its,n,r,e⟩:=x; exact⟨z,its,n,r,k _ _ (.inl rfl) e⟩
 | tup xs=>obtain⟨z,its,r,ob,e,c⟩:=x; exact⟨z,its,r,ob,k _ _ (.inl rfl) e,c⟩
 | dK kvs=>obtain⟨z,y,vs,r,ob,es,ep,e,c⟩:=x; exact⟨z,y,vs,r,ob,es,ep,k _ _ (.inl rfl) e,c⟩
 | dT kvs=>
  obtain⟨z,y,xs,r,ob,es,ep,e,c⟩:=x;exact⟨z,y,xs,Paired.mapP r fun p q z=>⟨z.1,ht _ _ z.2.1,z.2.2⟩,ob,es,ep,k _ _ (.inl rfl) e,c⟩
 | set S n=>obtain⟨ob,es,ep,t,e,c⟩:=x; exact⟨ob,es,ep,t,k _ _ (.inl rfl) e,c⟩
 | ins C dx fs=>
  obtain⟨d,z,ne,e,mA,⟨od,es,ep,e2,c⟩,r⟩:=x;exact⟨ho _ d,z,ne,k _ _ (.inl rfl) e,mA,⟨od,es,ep,k _ _ (.inr d) e2,c⟩,r⟩
 | own y=>obtain⟨ob,e⟩:=x; exact⟨ob,k _ _ (.inl rfl) e⟩
 | xd fs=>obtain⟨mA,⟨od,es,ep,e,c⟩,r⟩:=x; exact⟨mA,⟨od,es,ep,k _ _ (.inl rfl) e,c⟩,r⟩
 | rng lo hi=>obtain⟨t,u,v,e⟩:=x; exact⟨t,u,v,k _ _ (.inl rfl) e⟩
 | frz ob u ih=>obtain⟨e,q⟩:=x; exact⟨k _ _ (.inl rfl) e,ih q⟩
 | tbl ps=>
  have e:h.get? a=some { cls:=.none,data:=.fields ps }:=x;show h'.get? a=some { cls:=.none,data:=.fields ps };exact k a _ (.inl rfl) e
 | met f y=>
  have e:h.get? a=some (PySem.W.methodObj (.ref f) (.ref y)):=x;show h'.get? a=some (PySem.W.methodObj (.ref f) (.ref y));exact k a _ (.inl rfl) e
 | ext φ=>obtain⟨p,⟨o,e⟩,st⟩:=x; exact⟨st _ _ p fun o q=>k _ _ (.inl rfl) q,⟨o,k _ _ (.inl rfl) e⟩,st⟩
theorem HOk.lt (x:HOk P w H h) (e:H a=some o):a<h.objs.size:=(x a o e).lt
theorem HOk.fresh (x:HOk P w H h) (e:h.objs.size<=a):H a=none:=by
 cases q:H a with
 | none=>rfl
 | some u=>exact absurd (Nat.lt_of_lt_of_le (x.lt q) e) (Nat.lt_irrefl _)
theorem HOk.kept (x:HOk P w H h) (k:∀b u,h.get? b=some u->h'.get? b=some u):HOk P w H h':=fun a o e=>
 (x a o e).stay (fun b u _ q=>k b u q) (fun _ q=>q) fun _ _ q=>q
theorem HOk.laid (x:HOk P w H h) (k:∀b u,h.get? b=some u->h'.get? b=some u) (hp:h.objs.size<=a) (new:zO P w (upd H a o) h' a o):HOk P w (upd H a o) h':=fun b u e=>by
 have hn:=x.fresh hp
 by_cases hb:b=a
 ·subst hb; rw[zd] at e; cases e; exact new
 ·rw[upd_ne hb] at e
  exact (x b u e).stay (fun c v _ q=>k c v q) (fun c q=>by rw[upd_ne (ne_of_none q hn)]; exact q) fun c xs q=>by rw[upd_ne (ne_of_none q hn)]; exact q
end
def Rd (H:Hp) (a:Addr) (u:HO):Prop:=H a=some u \/ ∃o,H a=some (.frz o u)
theorem Rd.of {H:Hp}{a:Addr}{u:HO} (h:H a=some u):Rd H a u:=.inl h
theorem Rd.ok {P:Program}{w:World}{H:Hp}{h:Heap}{a:Addr}{u:HO} (r:Rd H a u) (x:HOk P w H h):zO P w H h a u:=by
 rcases r with r | ⟨o,r⟩
 ·exact x a u r
 ·obtain⟨_,q⟩:=x a _ r
  exact q
def Mut:Option HO->Prop
 | some (.lst _)=>True
 | some (.dK _)=>True
 | some (.dT _)=>True
 | some (.set _ _)=>True
 | some (.ins _ _ _)=>True
 | some (.ext _)=>True
 | _=>False
section
variable {P:Program}{w:World}{H:Hp}{h h':Heap}{x e:Addr}{o':HO}
theorem HOk.write (ok:HOk P w H h) (mu:Mut (H x)) (he:e=x \/ H e=some (.own x)) (k:∀b u,b≠e->h.get? b=some u->h'.get? b=some u) (heo:∃u,h'.get? e=some u)
  (new:zO P w (upd H x o') h' x o'):HOk P w (upd H x o') h':=fun b u q=>by
 have nown:∀c y,H c=some (.own y)->c≠x:=fun c y r z=>by subst z; rw[r] at mu; exact mu
 have ntup:∀c xs,H c=some (.tup xs)->c≠x:=fun c xs r z=>by subst z; rw[r] at mu; exact mu
 by_cases hb:b=x
 ·subst hb; rw[zd] at q; cases q; exact new
 ·rw[upd_ne hb] at q
  by_cases hbe:b=e
  ·have q':H b=some (.own x):=by
    rcases he with z | z
    ·exact absurd (hbe.trans z) hb
    ·rw[hbe]; exact z
   rw[q] at q'; cases q';obtain⟨v,hv⟩:=heo;exact⟨v,by rw[hbe]; exact hv⟩
  ·refine (ok b u q).stay (fun c v hc r=>k c v ?_ r) (fun c r=>by rw[upd_ne (nown c b r)]; exact r) fun c xs r=>by rw[upd_ne (ntup c xs r)]; exact r
   rcases hc with rfl | hc
   ·exact hbe
   ·rintro rfl
    rcases he with z | z
    ·exact nown c b hc z
    ·rw[hc] at z; cases z; exact hb rfl
end
structure Un (fs ex:List Addr) (H H':Hp) (h h':Heap):Prop where
 keep:∀b o,h.get? b=some o->H b=none->b∉fs->b∉ex->h'.get? b=some o
 slot:∀b o,h.get? b=some o->H b=none->b∈fs->b∉ex->∃sl,h'.get? b=some { o with slots:=sl }
 free:∀b o,h.get? b=some o->H b=none->b∉ex->H' b=none
 there:∀b o,h.get? b=some o->b∉ex->∃o',h'.get? b=some o'
 tups:∀b xs,H b=some (.tup xs)->H' b=some (.tup xs)
 frzs:∀b o u,H b=some (.frz o u)->H' b=some (.frz o u)
 tbls:∀b ps,H b=some (.tbl ps)->∃more,H' b=some (.tbl (ps++more))
section
variable {fs fs' ex ex':List Addr}{H H1 H2:Hp}{h h1 h2 h':Heap}{a x e:Addr}{o:HO}
theorem Un.any (u:Un fs ex H H1 h h1) {b:Addr}{ob:Obj} (q:h.get? b=some ob) (n:H b=none) (hx:b∉ex):∃sl,h1.get? b=some { ob with slots:=sl }:=by
 by_cases hb:b∈fs
 ·exact u.slot b ob q n hb hx
 ·exact⟨ob.slots,u.keep b ob q n hb hx⟩
theorem Un.kept (k:∀b u,h.get? b=some u->h'.get? b=some u):Un fs ex H H h h':=
 ⟨fun b ob q _ _ _=>k b ob q,fun b ob q _ _ _=>⟨ob.slots,k b ob q⟩,fun _ _ _ n _=>n,fun b ob q _=>⟨ob,k b ob q⟩,fun _ _ q=>q,fun _ _ _ q=>q,fun _ ps q=>⟨#[],by rw[q]; simp⟩⟩
theorem Un.refl:Un fs ex H H h h:=Un.kept fun _ _ q=>q
theorem Un.laid (k:∀b u,h.get? b=some u->h'.get? b=some u) (hp:h.objs.size<=a) (hn:H a=none):Un fs ex H (upd H a o) h h' where
 keep:=fun b u q _ _ _=>k b u q
 slot:=fun b u q _ _ _=>⟨u.slots,k b u q⟩
 free:=fun b u q n _=>by rw[upd_ne (Nat.ne_of_lt (Nat.lt_of_lt_of_le (Heap.lt_size q) hp))]; exact n
 there:=fun b u q _=>⟨u,k b u q⟩
 tups:=fun b xs q=>by rw[upd_ne (ne_of_none q hn)]; exact q
 frzs:=fun b u xs q=>by rw[upd_ne (ne_of_none q hn)]; exact q
 tbls:=fun b ps q=>⟨#[],by rw[upd_ne (ne_of_none q hn),q]; simp⟩
theorem Un.write (mu:Mut (H x)) (he:e=x \/ H e=some (.own x)) (k:∀b u,b≠e->h.get? b=some u->h'.get? b=some u) (heo:∃u,h'.get? e=some u):Un fs ex H (upd H x o) h h':=by
 have hx:∀b,H b=none->b≠x:=fun b n z=>by subst z; rw[n] at mu; exact mu
 have hb:∀b,H b=none->b≠e:=fun b n z=>by
  subst z;rcases he with r | r
  ·exact hx b n r
  ·rw[n] at r; cases r
 have hm:∀b u,H b=some u->¬ Mut (some u)->b≠x:=fun b u q nm z=>by subst z; rw[q] at mu; exact nm mu
 refine⟨fun b u q n _ _=>k b u (hb b n) q,fun b u q n _ _=>⟨u.slots,k b u (hb b n) q⟩,fun b u q n _=>by rw[upd_ne (hx b n)]; exact n,fun b u q _=>?_,
  fun b xs q=>by rw[upd_ne (hm b _ q fun z=>z)]; exact q,fun b u xs q=>by rw[upd_ne (hm b _ q fun z=>z)]; exact q,fun b ps q=>⟨#[],by rw[upd_ne (hm b _ q fun z=>z),q]; simp⟩⟩
 by_cases hbe:b=e
 ·subst hbe; exact heo
 ·exact⟨u,k b u hbe q⟩
end
def trk (h:Heap) (H:Hp):List Addr:=(List.range h.objs.size).filter fun a=>(H a).isSome
def hidT (h:Heap) (H:Hp):Heap:=PySem.W.hideAll h (trk h H)
theorem zg3 (h:Heap) (H:Hp):(hidT h H).objs.size=h.objs.size:=PySem.W.hideAll_size _ _
theorem zh2 {h:Heap}{H:Hp}{b:Addr}{o:Obj} (e:h.get? b=some o) (n:H b=none):(hidT h H).get? b=some o:=
 PySem.W.hideAll_get _ e fun hm=>by
  have q:(H b).isSome=true:=(List.mem_filter.mp hm).2;rw[n] at q; simp at q
theorem zkd {h:Heap}{H:Hp}{b:Addr}{o:Obj} (e:(hidT h H).get? b=some o):h.get? b=some o/\H b=none:=by
 have e':h.get? b=some o:=PySem.W.of_hideAll (trk h H) e;refine⟨e',?_⟩;cases q:H b with
 | none=>rfl
 | some x=>
  have hm:b∈trk h H:=List.mem_filter.mpr ⟨List.mem_range.mpr (Heap.lt_size e'),by simp[q]⟩;have z:(hidT h H).get? b=none:=PySem.W.hideAll_none (trk h H) hm;rw[z] at e; cases e
def zjX (g h:Heap) (L:Addr):List (Addr×Obj):=(List.range h.objs.size).filterMap fun a=>if a=L \/ (g.get? a).isSome=true then none else (h.get? a).map fun o=>(a,o)
def rest (g h:Heap) (L d:Addr):List (Addr×Obj):=(zjX g h L).filter fun p=>decide (p.1≠d)
end L2
namespace L2
open PySem PySem.Spec PyProof.Rows
structure Mod (K:PySem.W.Frag) (mg:Str->Option Value) (base:Heap):Prop where
 kin:K.In base
 glob:base.Ns mainGlobals mg
 blt:∃mb,base.Ns builtinsNs mb/\∀x:Str,x≠"__name__"->mb x=bootBuiltins x
 nolimit:base.NoLimit
structure Cx where
 prog:Program
 w:World
 K:PySem.W.Frag
 mg:Str->Option Value
 base:Heap
 A:Around
 N:List Str
 s₀:Shared
 H₀:Hp
 env:Env
 outer:List Env
 stack:List Env
 ex:List Addr
 fn:Str->Bool
 calm:Bool
 pn:List (Addr×Obj)
 xe:Value->Shared->Prop
def frs (l:List Env):List Addr:=l.filterMap (·.frame)
abbrev Cx.fs (X:Cx):List Addr:=frs X.outer
def Vis (sc:Scope) (x:Str):Prop:=sc.names.lookup x=some .local \/ sc.names.lookup x=some .cell \/ sc.names.lookup x=some .free
def Loc (sc:Scope) (x:Str):Prop:=sc.names.lookup x=some .local \/ sc.names.lookup x=some .cell
def Look (env:Env) (h:Heap) (m:Str->Option Value) (x:Str) (u:Value):Prop:=
 (env.kindOf x=some .local/\m x=some u) \/ ((env.kindOf x=some .cell \/ env.kindOf x=some .free)/\∃c,env.cells.lookup x=some c/\h.IsCell c (some u))
structure Cx.Ok (X:Cx):Prop where
 mod:Mod X.K X.mg X.base
 kind:X.env.scope.kind=.function
 glob:X.env.globals=mainGlobals
 blt:X.env.builtins=builtinsNs
 above:X.s₀.heap.objs.size<=X.env.locals
 inj:∀x y c,X.env.cells.lookup x=some c->X.env.cells.lookup y=some c->x=y
 has:∀x,(X.env.kindOf x=some .cell \/ X.env.kindOf x=some .free)->∃c,X.env.cells.lookup x=some c
 cab:∀x c,X.fn x=true->X.env.cells.lookup x=some c->X.s₀.heap.objs.size<=c
 hd:X.calm=true->X.A.handled=none
 frames:X.A.frames=some X.stack
 stk:X.stack=X.outer \/ (X.stack=X.env::X.outer/\X.env.frame=some X.env.locals)
 exf:∀b∈X.ex,b≠X.env.locals/\∀x c,X.env.cells.lookup x=some c->c≠b
 bs:∀b o,X.base.get? b=some o->X.s₀.heap.get? b=some o/\X.H₀ b=none
 bsz:X.base.objs.size<=X.s₀.heap.objs.size
 noex:∀b o,X.base.get? b=some o->b∉X.ex
 exfs:∀b∈X.ex,b∉X.fs
 funs:X.s₀.heap.FunFrames X.base X.outer
 frf:∀b∈X.fs,X.H₀ b=none
structure Inv (X:Cx) (pins:List (Addr×Obj)) (σ:List (Option V)) (H:Hp) (s:Shared):Prop where
 ok:X.Ok
 os:s.os=X.s₀.os
 bare:AllBare s.gens
 base:Un X.fs X.ex X.H₀ H X.s₀.heap s.heap
 loc:∃m,s.heap.Ns X.env.locals m/\∀(i:Nat) (x:Str) (v:V),X.N[i]?=some x->σ[i]?=some (some v)->Vis X.env.scope x->∃u,RelV v u/\Look X.env s.heap m x u
 cell:∀x c,X.env.cells.lookup x=some c->∃v,s.heap.IsCell c v
 free:H X.env.locals=none
 freeC:∀x c,X.env.cells.lookup x=some c->H c=none
 pin:∀p∈X.pn++pins,s.heap.get? p.1=some p.2/\H p.1=none/\p.1≠X.env.locals/\p.1∉X.fs/\∀v,p.2.data≠.cell v
 hok:HOk X.prog X.w H s.heap
 len:σ.length=X.N.length
section
variable {X:Cx}{pins:List (Addr×Obj)}{σ:List (Option V)}{H H':Hp}{s:Shared}{h':Heap}
theorem Cx.Ok.nofr (ok:X.Ok) {b:Addr}{o:Obj} (e:X.base.get? b=some o):b∉X.fs:=fun hb=>by
 have:=(ok.funs.mem hb).1;rw[e] at this; cases this
theorem Inv.bs (I:Inv X pins σ H s):∀b o,X.base.get? b=some o->s.heap.get? b=some o/\H b=none:=fun b o e=>
 ⟨I.base.keep b o (I.ok.bs b o e).1 (I.ok.bs b o e).2 (I.ok.nofr e) (I.ok.noex b o e),I.base.free b o (I.ok.bs b o e).1 (I.ok.bs b o e).2 (I.ok.noex b o e)⟩
theorem Inv.bk (I:Inv X pins σ H s):∀b o,X.base.get? b=some o->s.heap.get? b=some o:=fun b o e=>(I.bs b o e).1
theorem Inv.mod (I:Inv X pins σ H s):Mod X.K X.mg X.base:=I.ok.mod
theorem Inv.kIn (I:Inv X pins σ H s):X.K.In s.heap:=I.ok.mod.kin.keeps I.bk
theorem Inv.nolimit (I:Inv X pins σ H s):s.heap.NoLimit:=I.ok.mod.nolimit.keeps I.bk
theorem Inv.fr (I:Inv X pins σ H s):∃m,Fr X.base X.env.locals s.heap m:=
 let ⟨m,hn,_⟩:=I.loc
 ⟨m,hn,I.bk,Nat.le_trans I.ok.bsz I.ok.above⟩
theorem Inv.lt (I:Inv X pins σ H s):X.env.locals<s.heap.objs.size:=let ⟨_,hn,_⟩:=I.loc; hn.lt
theorem Inv.sz (I:Inv X pins σ H s):X.s₀.heap.objs.size<=s.heap.objs.size:=Nat.le_trans I.ok.above (Nat.le_of_lt I.lt)
theorem Inv.nofs (I:Inv X pins σ H s) {a:Addr} (h:s.heap.objs.size<=a):a∉X.fs:=fun hb=>by
 obtain⟨_,o,ho,_⟩:=I.ok.funs.mem hb;exact absurd (Nat.lt_of_lt_of_le (Heap.lt_size ho) (Nat.le_trans I.sz h)) (Nat.lt_irrefl _)
theorem Inv.cne (I:Inv X pins σ H s):∀x c,X.env.cells.lookup x=some c->c≠X.env.locals:=fun x c e z=>by
 obtain⟨v,o,ho,hd⟩:=I.cell x c e;obtain⟨m,⟨o',es,ep,ho',hd',_⟩,_⟩:=I.loc;rw[z,ho'] at ho; cases ho; rw[hd'] at hd; cases hd
theorem Inv.funs (I:Inv X pins σ H s):s.heap.FunFrames X.base X.outer:=by
 have all:∀(l:List Env),(∀b∈frs l,b∈X.fs)->X.s₀.heap.FunFrames X.base l->s.heap.FunFrames X.base l:=by
  intro l
  induction l with
  | nil=>intro _ _; trivial
  | cons env r ih=>
   intro hs hl;obtain⟨hk,⟨L,o,hf,hn,ho,hd⟩,hr⟩:=hl;have hL:L∈X.fs:=hs L (by unfold frs; rw[List.filterMap_cons,hf]; exact List.mem_cons_self);obtain⟨sl,e⟩:=I.base.slot L o ho (I.ok.frf L hL) hL fun z=>I.ok.exfs L z hL;exact⟨hk,⟨L,_,hf,hn,e,hd⟩,ih (fun b hb=>hs b (by unfold frs; rw[List.filterMap_cons,hf]; exact List.mem_cons_of_mem _ hb)) hr⟩
 exact all X.outer (fun _ hb=>hb) I.ok.funs
theorem Inv.stack (I:Inv X pins σ H s):s.heap.FunFrames X.base X.stack:=by
 rcases I.ok.stk with e | ⟨e,hf⟩
 ·rw[e]; exact I.funs
 ·rw[e]
  obtain⟨m,hn,_⟩:=I.loc;refine .cons (by rw[I.ok.kind]; decide) hf hn ?_ I.funs;exact Heap.get?_none_of_le (Nat.le_trans I.ok.bsz I.ok.above)
theorem Inv.stkSub (I:Inv X pins σ H s):∀b∈frs X.stack,b∈X.env.locals::X.fs:=fun b hb=>by
 rcases I.ok.stk with e | ⟨e,hf⟩
 ·rw[e] at hb; exact List.mem_cons_of_mem _ hb
 ·rw[e] at hb
  unfold frs at hb;rw[List.filterMap_cons,hf] at hb;exact hb
theorem Inv.stkFree (I:Inv X pins σ H s):∀b∈frs X.stack,H b=none:=fun b hb=>by
 rcases List.mem_cons.mp (I.stkSub b hb) with e | hb
 ·rw[e]; exact I.free
 ·obtain⟨_,o,ho,_⟩:=I.ok.funs.mem hb
  exact I.base.free b o ho (I.ok.frf b hb) fun z=>I.ok.exfs b z hb
theorem Inv.step {g':Array GenState}{t':Nat}{d':Drawn}{ch:List Addr} (I:Inv X pins σ H s)
  (hch:∀b∈ch,(b∈X.ex \/ X.s₀.heap.objs.size<=b)/\b≠X.env.locals/\(∀x c,X.env.cells.lookup x=some c->c≠b)/\∀p∈X.pn++pins,p.1≠b)
  (keep:∀b o,b≠X.env.locals->b∉X.fs->b∉ch->s.heap.get? b=some o->H b=none->h'.get? b=some o)
  (slot:∀b o,b≠X.env.locals->b∈X.fs->b∉ch->s.heap.get? b=some o->H b=none->∃sl,h'.get? b=some { o with slots:=sl }) (free:∀b o,b∉ch->s.heap.get? b=some o->H b=none->H' b=none)
  (there:∀b o,b∉ch->s.heap.get? b=some o->∃o',h'.get? b=some o')
  (tups:∀b xs,H b=some (.tup xs)->H' b=some (.tup xs)) (frzs:∀b o u,H b=some (.frz o u)->H' b=some (.frz o u)) (tbls:∀b ps,H b=some (.tbl ps)->∃more,H' b=some (.tbl (ps++more)))
  (ns:∀m,s.heap.Ns X.env.locals m->h'.Ns X.env.locals m) (hok:HOk X.prog X.w H' h') (hg:AllBare g') :
  Inv X pins σ H' { s with heap:=h',gens:=g',drawn:=d',toks:=t' }:=by
 have neL:∀b o,X.s₀.heap.get? b=some o->b≠X.env.locals:=fun b o e=>Nat.ne_of_lt (Nat.lt_of_lt_of_le (Heap.lt_size e) I.ok.above);have neC:∀b o,X.s₀.heap.get? b=some o->b∉X.ex->b∉ch:=fun b o e hx hb=>by
  rcases (hch b hb).1 with z | z
  ·exact hx z
  ·exact absurd (Nat.lt_of_lt_of_le (Heap.lt_size e) z) (Nat.lt_irrefl _)
 have cellK:∀x c,X.env.cells.lookup x=some c->∀v,s.heap.IsCell c v->h'.IsCell c v:=fun x c e v ⟨o,ho,hd⟩=>by
  have nch:c∉ch:=fun z=>(hch c z).2.2.1 x c e rfl
  by_cases hc:c∈X.fs
  ·obtain⟨sl,q⟩:=slot c o (I.cne x c e) hc nch ho (I.freeC x c e)
   exact⟨_,q,hd⟩
  ·exact⟨o,keep c o (I.cne x c e) hc nch ho (I.freeC x c e),hd⟩
 refine⟨I.ok,I.os,hg,⟨fun b o e n hb hx=>?_,fun b o e n hb hx=>?_,fun b o e n hx=>?_,fun b o e hx=>?_,fun b xs e=>tups b xs (I.base.tups b xs e),fun b o xs e=>frzs b o xs (I.base.frzs b o xs e),fun b ps e=>?_⟩,?_,fun x c e=>?_,?_,fun x c e=>?_,fun p hp=>?_,hok,I.len⟩
 ·exact keep b o (neL b o e) hb (neC b o e hx) (I.base.keep b o e n hb hx) (I.base.free b o e n hx)
 ·obtain⟨sl,e1⟩:=I.base.slot b o e n hb hx
  obtain⟨sl',e2⟩:=slot b _ (neL b o e) hb (neC b o e hx) e1 (I.base.free b o e n hx);exact⟨sl',e2⟩
 ·obtain⟨o',e1⟩:=I.base.there b o e hx
  exact free b o' (neC b o e hx) e1 (I.base.free b o e n hx)
 ·obtain⟨o',e1⟩:=I.base.there b o e hx
  exact there b o' (neC b o e hx) e1
 ·obtain⟨m1,e1⟩:=I.base.tbls b ps e
  obtain⟨m2,e2⟩:=tbls b _ e1;exact⟨m1++m2,by rw[e2,Array.append_assoc]⟩
 ·obtain⟨m,hn,hl⟩:=I.loc
  refine⟨m,ns m hn,fun i x v e1 e2 e3=>?_⟩;obtain⟨u,r,l⟩:=hl i x v e1 e2 e3;refine⟨u,r,?_⟩;rcases l with l | ⟨k,c,e,z⟩
  ·exact .inl l
  ·exact .inr ⟨k,c,e,cellK x c e _ z⟩
 ·obtain⟨v,z⟩:=I.cell x c e
  exact⟨v,cellK x c e v z⟩
 ·obtain⟨m,⟨o,_,_,ho,_⟩,_⟩:=I.loc
  exact free _ o (fun z=>(hch _ z).2.1 rfl) ho I.free
 ·obtain⟨v,o,ho,hd⟩:=I.cell x c e
  exact free c o (fun z=>(hch c z).2.2.1 x c e rfl) ho (I.freeC x c e)
 ·obtain⟨e,n,ne,nf,d⟩:=I.pin p hp
  have nch:p.1∉ch:=fun z=>(hch p.1 z).2.2.2 p hp rfl;exact⟨keep p.1 p.2 ne nf nch e n,free p.1 p.2 nch e n,ne,nf,d⟩
theorem Inv.un {t':Nat} (I:Inv X pins σ H s) (u:Un X.fs [] H H' s.heap h') (hok:HOk X.prog X.w H' h'):Inv X pins σ H' { s with heap:=h',toks:=t' }:=by
 obtain⟨m,⟨o,es,ep,ho,r⟩,_⟩:=id I.loc;obtain⟨sl,hL⟩:=u.any ho I.free (by simp);exact I.step (g':=s.gens) (d':=s.drawn) (ch:=[]) (fun _ z=>nomatch z) (fun b o _ hb _ e n=>u.keep b o e n hb (by simp)) (fun b o _ hb _ e n=>u.slot b o e n hb (by simp)) (fun b o _ e n=>u.free b o e n (by simp)) (fun b o _ e=>u.there b o e (by simp)) u.tups u.frzs u.tbls (fun m' hm=>by
  obtain⟨o',es',ep',ho',r'⟩:=hm;rw[ho] at ho'; cases ho';exact⟨_,es',ep',hL,r'⟩) hok I.bare
theorem Inv.call {g':Array GenState}{t':Nat}{d':Drawn}{ch:List Addr} (I:Inv X pins σ H s) (u:Un (frs X.stack) ch H H' s.heap h') (hok:HOk X.prog X.w H' h') (hg:AllBare g')
  (hch:∀b∈ch,(b∈X.ex \/ X.s₀.heap.objs.size<=b)/\b≠X.env.locals/\(∀x c,X.env.cells.lookup x=some c->c≠b)/\∀p∈X.pn++pins,p.1≠b) :
  Inv X pins σ H' { s with heap:=h',gens:=g',drawn:=d',toks:=t' }:=by
 obtain⟨m,⟨o,es,ep,ho,r⟩,_⟩:=id I.loc;obtain⟨sl,hL⟩:=u.any ho I.free fun z=>(hch _ z).2.1 rfl;exact I.step (ch:=ch) hch (fun b o hL hb hc e n=>u.keep b o e n (fun z=>(List.mem_cons.mp (I.stkSub b z)).elim hL hb) hc) (fun b o _ _ hc e n=>u.any e n hc) (fun b o hc e n=>u.free b o e n hc) (fun b o hc e=>u.there b o e hc) u.tups u.frzs u.tbls (fun m' hm=>by
  obtain⟨o',es',ep',ho',r'⟩:=hm;rw[ho] at ho'; cases ho';exact⟨_,es',ep',hL,r'⟩) hok hg
theorem Inv.turned {t':Nat}{it:Addr} (I:Inv X pins σ H s) (k:∀b o,b≠it->s.heap.get? b=some o->h'.get? b=some o) (hn:H it=none) (hL:it≠X.env.locals)
  (h1:it∈X.ex \/ X.s₀.heap.objs.size<=it) (h2:∀x c,X.env.cells.lookup x=some c->c≠it) (h3:∀p∈X.pn++pins,p.1≠it):Inv X pins σ H { s with heap:=h',toks:=t' }:=by
 have nit:∀b u,H b=some u->b≠it:=fun b u e z=>by rw[z,hn] at e; cases e
 refine I.step (g':=s.gens) (d':=s.drawn) (ch:=[it]) (fun b hb=>?_) (fun b o _ _ hc e _=>k b o (fun z=>hc (by simp[z])) e) (fun b o _ _ hc e _=>⟨o.slots,k b o (fun z=>hc (by simp[z])) e⟩) (fun _ _ _ _ n=>n)
  (fun b o hc e=>⟨o,k b o (fun z=>hc (by simp[z])) e⟩) (fun _ _ e=>e) (fun _ _ _ e=>e) (fun b ps e=>⟨#[],by rw[e]; simp⟩) (fun m hm=>?_) (fun b u e=>?_) I.bare
 ·have e:b=it:=by simpa using hb
  subst e;exact⟨h1,hL,h2,h3⟩
 ·obtain⟨o,es,ep,ho,r⟩:=hm
  exact⟨o,es,ep,k _ o (Ne.symm hL) ho,r⟩
 ·refine (I.hok b u e).stay (fun c v hc q=>k c v ?_ q) (fun _ q=>q) fun _ _ q=>q
  rcases hc with z | z
  ·rw[z]; exact nit b u e
  ·exact nit c _ z
theorem Inv.tok (I:Inv X pins σ H s) (t:Nat):Inv X pins σ H { s with toks:=t }:=I.un (h':=s.heap) (t':=t) Un.refl I.hok
theorem Inv.kept {t':Nat} (I:Inv X pins σ H s) (k:∀b u,s.heap.get? b=some u->h'.get? b=some u):Inv X pins σ H { s with heap:=h',toks:=t' }:=I.un (Un.kept k) (I.hok.kept k)
theorem Inv.laid {a:Addr}{o:HO}{t':Nat} (I:Inv X pins σ H s) (k:∀b u,s.heap.get? b=some u->h'.get? b=some u) (hp:s.heap.objs.size<=a) (new:zO X.prog X.w (upd H a o) h' a o) :
  Inv X pins σ (upd H a o) { s with heap:=h',toks:=t' }:=I.un (Un.laid k hp (I.hok.fresh hp)) (I.hok.laid k hp new)
theorem Inv.write {x e:Addr}{o:HO}{t':Nat} (I:Inv X pins σ H s) (mu:Mut (H x)) (he:e=x \/ H e=some (.own x)) (k:∀b u,b≠e->s.heap.get? b=some u->h'.get? b=some u) (heo:∃u,h'.get? e=some u)
  (new:zO X.prog X.w (upd H x o) h' x o):Inv X pins σ (upd H x o) { s with heap:=h',toks:=t' }:=I.un (Un.write mu he k heo) (I.hok.write mu he k heo new)
theorem Inv.pins_of {pins':List (Addr×Obj)} (I:Inv X pins σ H s) (h:∀p∈pins',s.heap.get? p.1=some p.2/\H p.1=none/\p.1≠X.env.locals/\p.1∉X.fs/\∀v,p.2.data≠.cell v):Inv X pins' σ H s:=
 ⟨I.ok,I.os,I.bare,I.base,I.loc,I.cell,I.free,I.freeC,fun p hp=>(List.mem_append.mp hp).elim (fun z=>I.pin p (List.mem_append_left _ z)) (h p),I.hok,I.len⟩
theorem zeX {N:List Str} (hN:N.Nodup) {i j:Nat}{x:Str} (a:N[i]?=some x) (b:N[j]?=some x):i=j:=by
 obtain⟨h1,e1⟩:=List.getElem?_eq_some_iff.mp a;obtain⟨h2,e2⟩:=List.getElem?_eq_some_iff.mp b;exact (List.getElem_inj hN).mp (e1.trans e2.symm)
theorem zcc {M:Model}{A:Around}{E:Value->Shared->Prop}{i:Nat}{x:Str}{v:V}{u:Value}{Q:Unit->Shared->Prop} (I:Inv X pins σ H s) (hN:X.N.Nodup) (hi:X.N[i]?=some x) (hx:Loc X.env.scope x) (r:RelV v u)
  (h:∀s',Inv X pins (σ.set i (some v)) H s'->(∃a,Heap.SameBut a s.heap s'.heap/\(a=X.env.locals \/ X.env.cells.lookup x=some a))->Q () s') (hf:X.fn x=true \/ X.env.scope.names.lookup x=some .local:=by first | exact .inl rfl | exact .inr rfl | assumption):wpAny M A (storeName X.env x u) Q E s:=by
 obtain⟨m,hn,hl⟩:=id I.loc;have hcls:(X.env.scope.kind == .class || (X.env.scope.kind == .module && X.env.locals != X.env.globals))=false:=by rw[I.ok.kind]; rfl
 have hiσ:i<σ.length:=by rw[I.len]; exact (List.getElem?_eq_some_iff.mp hi).1
 have cne:=I.cne;have tracked:∀{a:Addr} {h':Heap},(∃o,s.heap.get? a=some o/\H a=none)->Heap.SameBut a s.heap h'->HOk X.prog X.w H h':=fun {a h'} ha hs b ob e=>by
  obtain⟨_,_,hfree⟩:=ha;refine (I.hok b ob e).stay (fun c w' hc q=>(hs.2 c ?_).trans q) (fun _ q=>q) fun _ _ q=>q;rintro rfl;rcases hc with rfl | hc
  ·rw[hfree] at e; cases e
  ·rw[hfree] at hc; cases hc
 rcases hx with hk | hk
 ·refine wpAny_storeName_local hk hn (fun h' hn' hs=>?_) hcls
  obtain⟨oL,_,_,hoL,_⟩:=id hn;refine h _ ⟨I.ok,I.os,I.bare,⟨fun b o e n hb hx=>?_,fun b o e n hb hx=>?_,I.base.free,fun b o e hx=>?_,I.base.tups,I.base.frzs,I.base.tbls⟩,⟨_,hn',fun j y v' e1 e2 e3=>?_⟩,fun y c e=>?_,I.free,I.freeC,fun p hp=>?_,tracked ⟨oL,hoL,I.free⟩ hs,by simpa using I.len⟩ ⟨_,hs,.inl rfl⟩
  ·exact (hs.2 b (Nat.ne_of_lt (Nat.lt_of_lt_of_le (Heap.lt_size e) I.ok.above))).trans (I.base.keep b o e n hb hx)
  ·obtain⟨sl,e1⟩:=I.base.slot b o e n hb hx
   exact⟨sl,(hs.2 b (Nat.ne_of_lt (Nat.lt_of_lt_of_le (Heap.lt_size e) I.ok.above))).trans e1⟩
  ·obtain⟨o',e1⟩:=I.base.there b o e hx
   exact⟨o',(hs.2 b (Nat.ne_of_lt (Nat.lt_of_lt_of_le (Heap.lt_size e) I.ok.above))).trans e1⟩
  ·by_cases hj:j=i
   ·subst hj
    rw[hi] at e1; cases e1;rw[List.getElem?_set_self hiσ] at e2;cases e2;exact⟨u,r,.inl ⟨hk,by simp⟩⟩
   ·rw[List.getElem?_set_ne (Ne.symm hj)] at e2
    obtain⟨u',r',q⟩:=hl j y v' e1 e2 e3;refine⟨u',r',?_⟩;rcases q with ⟨k,e⟩ | ⟨k,c,e,z⟩
    ·refine .inl ⟨k,?_⟩
     have:y≠x:=fun e=>hj (zeX hN e1 (e ▸ hi));simp[this,e]
    ·exact .inr ⟨k,c,e,z.sameBut hs (cne y c e)⟩
  ·obtain⟨w',z⟩:=I.cell y c e
   exact⟨w',z.sameBut hs (cne y c e)⟩
  ·obtain⟨e,n,ne,nf,d⟩:=I.pin p hp
   exact⟨(hs.2 p.1 ne).trans e,n,ne,nf,d⟩
 ·have hfn:X.fn x=true:=by
   rcases hf with z | z
   ·exact z
   ·rw[z] at hk; cases hk
  obtain⟨c,hc⟩:=I.ok.has x (.inl hk);obtain⟨w',z⟩:=I.cell x c hc;refine wpAny_storeName_cell I.ok.kind hk hc z (fun h' hc' hs=>?_);obtain⟨oc,hoc,hocd⟩:=id z;refine h { s with heap:=h' } ⟨I.ok,I.os,I.bare,⟨fun b o e n hb hx=>?_,fun b o e n hb hx=>?_,I.base.free,fun b o e hx=>?_,I.base.tups,I.base.frzs,I.base.tbls⟩,⟨m,hn.sameBut hs (Ne.symm (cne x c hc)),fun j y v' e1 e2 e3=>?_⟩,fun y c' e=>?_,I.free,I.freeC,fun p hp=>?_,tracked ⟨oc,hoc,I.freeC x c hc⟩ hs,by simpa using I.len⟩ ⟨c,hs,.inr hc⟩
  ·exact (hs.2 b (Nat.ne_of_lt (Nat.lt_of_lt_of_le (Heap.lt_size e) (I.ok.cab x c hfn hc)))).trans (I.base.keep b o e n hb hx)
  ·obtain⟨sl,e1⟩:=I.base.slot b o e n hb hx
   exact⟨sl,(hs.2 b (Nat.ne_of_lt (Nat.lt_of_lt_of_le (Heap.lt_size e) (I.ok.cab x c hfn hc)))).trans e1⟩
  ·obtain⟨o',e1⟩:=I.base.there b o e hx
   exact⟨o',(hs.2 b (Nat.ne_of_lt (Nat.lt_of_lt_of_le (Heap.lt_size e) (I.ok.cab x c hfn hc)))).trans e1⟩
  ·by_cases hj:j=i
   ·subst hj
    rw[hi] at e1; cases e1;rw[List.getElem?_set_self hiσ] at e2;cases e2;exact⟨u,r,.inr ⟨.inl hk,c,hc,hc'⟩⟩
   ·rw[List.getElem?_set_ne (Ne.symm hj)] at e2
    obtain⟨u',r',q⟩:=hl j y v' e1 e2 e3;refine⟨u',r',?_⟩;rcases q with q | ⟨k,c',e,z'⟩
    ·exact .inl q
    ·refine .inr ⟨k,c',e,z'.sameBut hs ?_⟩
     rintro rfl;exact hj (zeX hN e1 (I.ok.inj _ _ _ e hc ▸ hi))
  ·by_cases hcc:c'=c
   ·subst hcc; exact⟨_,hc'⟩
   ·obtain⟨w2,z2⟩:=I.cell y c' e
    exact⟨w2,z2.sameBut hs hcc⟩
  ·obtain⟨e,n,ne,nf,d⟩:=I.pin p hp
   refine⟨(hs.2 p.1 ?_).trans e,n,ne,nf,d⟩;intro q;rw[q,hoc] at e;have q':oc=p.2:=Option.some.inj e;exact d w' (by rw[<- q']; exact hocd)
theorem ze7 {M:Model}{A:Around}{E:Value->Shared->Prop}{i:Nat}{x:Str}{v:V}{u:Value}{Q:Unit->Shared->Prop} (I:Inv X pins σ H s) (hN:X.N.Nodup) (hi:X.N[i]?=some x) (hx:Loc X.env.scope x) (r:RelV v u)
  (h:∀s',Inv X pins (σ.set i (some v)) H s'->Q () s') (hf:X.fn x=true \/ X.env.scope.names.lookup x=some .local:=by first | exact .inl rfl | exact .inr rfl | assumption):wpAny M A (storeName X.env x u) Q E s:=
 zcc I hN hi hx r (fun s' I' _=>h s' I') hf
theorem Inv.call' {s':Shared}{ch:List Addr} (I:Inv X pins σ H s) (ho:s'.os=s.os) (u:Un (frs X.stack) ch H H' s.heap s'.heap) (hok:HOk X.prog X.w H' s'.heap) (hg:AllBare s'.gens)
  (hch:∀b∈ch,(b∈X.ex \/ X.s₀.heap.objs.size<=b)/\b≠X.env.locals/\(∀x c,X.env.cells.lookup x=some c->c≠b)/\∀p∈X.pn++pins,p.1≠b):Inv X pins σ H' s':=by
 obtain⟨h',g',d',t',o'⟩:=s';have e:o'=s.os:=ho;subst e;exact I.call (g':=g') (t':=t') (d':=d') u hok hg hch
end
abbrev XK:=Value->Option Addr->Hp->Prop
abbrev St:=List (Option V)
abbrev VK:=V->Hp->Prop
abbrev TE:=St->Hp->VK->Prop
abbrev TT:=St->Hp->(Bool->Hp->Prop)->Prop
abbrev TA:=St->Hp->(List V->Hp->Prop)->Prop
structure Ends where
 nx:St->Hp->Prop
 rt:VK
 bk:St->Hp->Prop:=fun _ _=>False
 ct:St->Hp->Prop:=fun _ _=>False
abbrev TS:=Ends->St->Hp->Prop
def EP (X:Cx) (pins:List (Addr×Obj)) (σ:St) (Q:VK) (u:Value) (s':Shared):Prop:=∃v H',Inv X pins σ H' s'/\RelV v u/\Q v H'
def TP (X:Cx) (pins:List (Addr×Obj)) (σ:St) (Q:Bool->Hp->Prop) (b:Bool) (s':Shared):Prop:=∃H',Inv X pins σ H' s'/\Q b H'
def AP (X:Cx) (pins:List (Addr×Obj)) (σ:St) (Q:List V->Hp->Prop) (us:List Value) (s':Shared):Prop:=∃vs H',Inv X pins σ H' s'/\Vals vs us/\Q vs H'
def SP (X:Cx) (pins:List (Addr×Obj)) (D:Ends) (f:Flow) (s':Shared):Prop:=
 match f with
 | .next=>∃σ' H',Inv X pins σ' H' s'/\D.nx σ' H'
 | .brk=>∃σ' H',Inv X pins σ' H' s'/\D.bk σ' H'
 | .cont=>∃σ' H',Inv X pins σ' H' s'/\D.ct σ' H'
 | .ret u=>∃v σ' H',Inv X pins σ' H' s'/\RelV v u/\D.rt v H'
def PE (X:Cx) (e:Expr) (t:TE):Prop:=
 ∀(pins:List (Addr×Obj)) (s:Shared) (σ:St) (H:Hp) (Q:VK),Inv X pins σ H s->t σ H Q->wpAny (model X.prog X.w) X.A (eval e X.env) (EP X pins σ Q) X.xe s
def PT (X:Cx) (e:Expr) (t:TT):Prop:=
 ∀(pins:List (Addr×Obj)) (s:Shared) (σ:St) (H:Hp) (Q:Bool->Hp->Prop),Inv X pins σ H s->t σ H Q->wpAny (model X.prog X.w) X.A (isTrue e X.env (eval e X.env)) (TP X pins σ Q) X.xe s
def PW (X:Cx) (e:Expr) (t:TT):Prop:=
 ∀(whole:Sem Value) (pins:List (Addr×Obj)) (s:Shared) (σ:St) (H:Hp) (Q:Bool->Hp->Prop),Inv X pins σ H s->t σ H Q->wpAny (model X.prog X.w) X.A (isTrue e X.env whole) (TP X pins σ Q) X.xe s
theorem PW.pt {X:Cx}{e:Expr}{t:TT} (h:PW X e t):PT X e t:=h _
def PA (X:Cx) (es:List Expr) (t:TA):Prop:=
 ∀(pos:Pos) (pins:List (Addr×Obj)) (s:Shared) (σ:St) (H:Hp) (Q:List V->Hp->Prop),Inv X pins σ H s->t σ H Q->wpAny (model X.prog X.w) X.A (spliced (backTo pos (starEach es X.env))) (AP X pins σ Q) X.xe s
def PS (X:Cx) (st:Stmt) (t:TS):Prop:=
 ∀(pins:List (Addr×Obj)) (s:Shared) (σ:St) (H:Hp) (D:Ends),Inv X pins σ H s->t D σ H->wpAny (model X.prog X.w) X.A (exec st X.env) (SP X pins D) X.xe s
def PSs (X:Cx) (st:List Stmt) (t:TS):Prop:=
 ∀(pins:List (Addr×Obj)) (s:Shared) (σ:St) (H:Hp) (D:Ends),Inv X pins σ H s->t D σ H->wpAny (model X.prog X.w) X.A (execs st X.env) (SP X pins D) X.xe s
theorem thn {α:Type}{t:Sem α}{Q Q':α->Shared->Prop}{M:Model}{A:Around}{E:Value->Shared->Prop}{s:Shared} (h:wpAny M A t Q E s) (hQ:∀a s,Q a s->Q' a s):wpAny M A t Q' E s:=wpAny_mono h hQ fun _ _ x=>x
end L2
namespace L2
open PySem PySem.Spec PyProof.Rows
section
variable {X:Cx}
def tVar (i:Nat):TE:=fun σ H Q=>∃v,σ[i]?=some (some v)/\Q v H
def tC (v:V):TE:=fun _ H Q=>Q v H
theorem zlb {i:Nat}{x:Str}{pos:Pos} (hN:X.N[i]?=some x) (hv:Vis X.env.scope x) (hd:(x == ("__debug__":Str))=false:=by decide) (hcd:(x == ("__classdict__":Str))=false:=by decide):PE X (.Name x pos) (tVar i):=by
 intro pins s σ H Q I h;obtain⟨v,e,h⟩:=h;obtain⟨m,hn,hl⟩:=I.loc;obtain⟨u,r,l⟩:=hl i x v hN e hv;have fin:EP X pins σ Q u s:=⟨v,H,I,r,h⟩;rcases l with ⟨hk,hm⟩ | ⟨hk,c,hc,hcell⟩
 ·exact wpAny_Name (wpAny_loadName_local I.ok.kind hk hn hm fin) hd
 ·rcases hk with hk | hk
  ·exact wpAny_Name (wpAny_loadName_cell I.ok.kind hk hc hcell fin) hd
  ·exact wpAny_Name (wpAny_loadName_free I.ok.kind hk hc hcell fin hcd) hd
theorem zj {i j pos}:PE X (.Constant (.int i) j pos) (tC (.int i)):=fun _ _ _ H _ I h=>wpAny_Constant_int ⟨.int i,H,I.tok _,⟨_,rfl⟩,h⟩
theorem zaY {b j pos}:PE X (.Constant (.bool b) j pos) (tC (.bl b)):=fun _ _ _ H _ I h=>Constant_bool ⟨.bl b,H,I,rfl,h⟩
theorem zU {x j pos}:PE X (.Constant (.str x) j pos) (tC (.str x)):=fun _ _ _ H _ I h=>Calls.Constant_str ⟨.str x,H,I.tok _,⟨_,rfl⟩,h⟩
def Gl (X:Cx) (x:Str):Prop:=X.env.kindOf x=some .globalImplicit
theorem zep {E:Value->Shared->Prop}{pins:List (Addr×Obj)}{s:Shared}{σ:St}{H:Hp}{x:Str}{u:Value}{pos:Pos}{Q:Value->Shared->Prop} (I:Inv X pins σ H s) (hg:Gl X x) (hm:X.mg x=some u) (h:Q u s)
  (hd:(x == ("__debug__":Str))=false:=by decide):wpAny (model X.prog X.w) X.A (eval (.Name x pos) X.env) Q E s:=
 Calls.Name_function_global I.ok.kind hg (Calls.loadGlobal_global (by rw[I.ok.glob]; exact I.mod.glob.keeps I.bk) hm h) hd
theorem zcD {E:Value->Shared->Prop}{pins:List (Addr×Obj)}{s:Shared}{σ:St}{H:Hp}{x:Str}{u:Value}{pos:Pos}{Q:Value->Shared->Prop} (I:Inv X pins σ H s) (hg:Gl X x) (hm:X.mg x=none) (hv:bootBuiltins x=some u) (h:Q u s)
  (hn:x≠"__name__":=by decide) (hd:(x == ("__debug__":Str))=false:=by decide):wpAny (model X.prog X.w) X.A (eval (.Name x pos) X.env) Q E s:=by
 obtain⟨mb,h1,h2⟩:=I.mod.blt;exact Calls.Name_function_global I.ok.kind hg (Calls.loadGlobal_builtin (by rw[I.ok.glob]; exact I.mod.glob.keeps I.bk) hm (by rw[I.ok.blt]; exact h1.keeps I.bk) ((h2 x hn).trans hv) h) hd
theorem zdh {x:Str}{v:V}{u:Value}{pos:Pos} (hg:Gl X x) (hm:X.mg x=some u) (r:RelV v u) (hd:(x == ("__debug__":Str))=false:=by decide):PE X (.Name x pos) (tC v):=
 fun _ _ _ H _ I h=>zep I hg hm ⟨v,H,I,r,h⟩ hd
theorem zeF {x:Str}{v:V}{u:Value}{pos:Pos} (hg:Gl X x) (hm:X.mg x=none) (hv:bootBuiltins x=some u) (r:RelV v u) (hn:x≠"__name__":=by decide) (hd:(x == ("__debug__":Str))=false:=by decide):PE X (.Name x pos) (tC v):=
 fun _ _ _ H _ I h=>zcD I hg hm hv ⟨v,H,I,r,h⟩ hn hd
variable {a b:Expr}{ta tb:TE}{pos:Pos}
def PC (X:Cx) (op:CmpOp) (a b:Expr) (t:TE):Prop:=
 ∀(pins:List (Addr×Obj)) (s:Shared) (σ:St) (H:Hp) (Q:VK),Inv X pins σ H s->t σ H Q->
  wpAny (model X.prog X.w) X.A (eval a X.env) (fun v s₁=>wpAny (model X.prog X.w) X.A (eval b X.env) (fun u s₂=>wpAny (model X.prog X.w) X.A (compareOp op v u) (EP X pins σ Q) X.xe s₂) X.xe s₁) X.xe s
theorem nobehind (b:Expr) {op:CmpOp} (h:op≠.In) (h2:op≠.NotIn):behindInMarks op b=false:=by
 have e1:(op == CmpOp.In)=false:=by cases op <;> first | rfl | exact absurd rfl h
 have e2:(op == CmpOp.NotIn)=false:=by cases op <;> first | rfl | exact absurd rfl h2
 cases b <;> simp[behindInMarks,e1,e2]
def tB (t:TE):TT:=fun σ H Q=>t σ H fun x H1=>∃c,x=.bl c/\Q c H1
theorem zf1 {op:CmpOp}{t:TE} (h:PC X op a b t) (h1:behindInMarks op b=false:=by first | exact nobehind _ (by decide) (by decide) | rfl):PT X (.Compare a [op] [b] pos) (tB t):=by
 intro pins s σ H Q I hw;refine wpAny_isTrue_Compare1 (thn (h pins s σ H _ I hw) fun v s1 h1=>thn h1 fun u s2 h2=>thn h2 fun c s3 ⟨x,H1,I1,r1,q1⟩=>?_) h1;obtain⟨d,rfl,q⟩:=q1;cases r1;exact wpAny_truthy_bool ⟨H1,I1,q⟩
theorem zd8 {e:Expr}{t:TE} (h:PE X e t) (he:∀whole,isTrue e X.env whole=(do let v <- whole; standAt e.pos; holding [v] (truthy v)):=by intro _; rfl):PT X e (tB t):=by
 intro pins s σ H Q I hw;refine isTrue_plain (thn (h pins s σ H _ I hw) fun v s1 ⟨x,H1,I1,r1,q1⟩=>?_) (he _);obtain⟨d,rfl,q⟩:=q1;cases r1;exact wpAny_truthy_bool ⟨H1,I1,q⟩
variable {tA tB':TT}{rest:List Expr}
def tAnd (t u:TT):TT:=fun σ H Q=>t σ H fun c H1=>if c=true then u σ H1 Q else Q false H1
def tOr (t u:TT):TT:=fun σ H Q=>t σ H fun c H1=>if c=true then Q true H1 else u σ H1 Q
def tNot (t:TT):TT:=fun σ H Q=>t σ H fun c H1=>Q (!c) H1
theorem zjZ (ha:PT X a tA):PW X (.BoolOp .And [a] pos) tA:=by
 intro wh pins s σ H Q I h;refine isTrue_and (thn (ha pins s σ H Q I h) fun c s1 e=>?_);cases c with
 | true=>exact isTrue_and_nil e
 | false=>exact e
theorem zfs (ha:PT X a tA):PW X (.BoolOp .Or [a] pos) tA:=by
 intro wh pins s σ H Q I h;refine isTrue_or (thn (ha pins s σ H Q I h) fun c s1 e=>?_);cases c with
 | false=>exact isTrue_or_nil e
 | true=>exact e
theorem zkB (ha:PT X a tA) (hb:PW X (.BoolOp .And (b::rest) pos) tB'):PW X (.BoolOp .And (a::b::rest) pos) (tAnd tA tB'):=by
 intro wh pins s σ H Q I h;refine isTrue_and (thn (ha pins s σ H _ I h) fun c s1 ⟨H1,I1,q1⟩=>?_);cases c with
 | true=>exact hb wh pins s1 σ H1 Q I1 q1
 | false=>exact⟨H1,I1,q1⟩
theorem zgh (ha:PT X a tA) (hb:PW X (.BoolOp .Or (b::rest) pos) tB'):PW X (.BoolOp .Or (a::b::rest) pos) (tOr tA tB'):=by
 intro wh pins s σ H Q I h;refine isTrue_or (thn (ha pins s σ H _ I h) fun c s1 ⟨H1,I1,q1⟩=>?_);cases c with
 | true=>exact⟨H1,I1,q1⟩
 | false=>exact hb wh pins s1 σ H1 Q I1 q1
theorem zcA (ha:PT X a tA):PT X (.UnaryOp .Not a pos) (tNot tA):=by
 intro pins s σ H Q I h;exact isTrue_not (ha pins s σ H (fun c H1=>Q (!c) H1) I h)
end
end L2
namespace L2
open PySem PySem.Spec PyProof.Rows
def SqL (K:PySem.W.Frag) (H:Hp) (a:Addr) (xs:List V):Prop:=
 Rd H a (.lst xs) \/
  ∃(o:Obj) (its:Array Value) (n:Nat),K.lookup a=some o/\o.cls=.type "list"/\o.dict=none/\o.data=.seq its n/\its.size<=sizeLine/\Vals xs its.toList
def SqT (K:PySem.W.Frag) (H:Hp) (a:Addr) (xs:List V):Prop:=
 Rd H a (.tup xs) \/
  ∃(o:Obj) (its:Array Value) (n:Nat),K.lookup a=some o/\o.cls=.type "tuple"/\o.data=.seq its n/\its.size<=sizeLine/\Vals xs its.toList
def absV:Value->Option V
 | .none=>some .non
 | .bool b=>some (.bl b)
 | .int i _=>some (.int i)
 | .str x _=>some (.str x)
 | .bytes b _=>some (.byt b)
 | .float b _=>some (.flt b)
 | .ref a=>some (.ref a)
 | .type n=>some (.ty n)
 | _=>none
theorem RelV.abs {x:V}{u:Value} (r:RelV x u):absV u=some x:=by
 cases x with
 | non=>cases r; rfl
 | bl _=>cases r; rfl
 | int _=>obtain⟨t,rfl⟩:=r; rfl
 | str _=>obtain⟨t,rfl⟩:=r; rfl
 | byt _=>obtain⟨t,rfl⟩:=r; rfl
 | flt _=>obtain⟨t,rfl⟩:=r; rfl
 | ref _=>cases r; rfl
 | ty _=>cases r; rfl
theorem RelV.inj {x y:V}{u:Value} (r:RelV x u) (q:RelV y u):x=y:=Option.some.inj (r.abs.symm.trans q.abs)
theorem Vals.inj {xs ys:List V}{us:List Value} (h:Vals xs us) (g:Vals ys us):xs=ys:=by
 induction h generalizing ys with
 | nil=>cases g; rfl
 | cons r t ih=>cases g with | cons r' t'=>rw[r.inj r',ih t']
section
variable {X:Cx}{pins:List (Addr×Obj)}{σ:St}{H:Hp}{s:Shared}{a:Addr}{xs ys:List V}
theorem SqL.of {K:PySem.W.Frag} (h:H a=some (.lst xs)):SqL K H a xs:=.inl (.inl h)
theorem SqT.of {K:PySem.W.Frag} (h:H a=some (.tup xs)):SqT K H a xs:=.inl (.inl h)
theorem Inv.list (I:Inv X pins σ H s) (h:SqL X.K H a xs):∃its:List Value,Vals xs its/\PlainL s.heap a its.toArray/\xs.length<=sizeLine:=by
 rcases h with h | ⟨o,its,n,hk,hc,hd,hs,hz,r⟩
 ·obtain⟨z,its,n,r,e⟩:=h.ok I.hok
  exact⟨its,r,⟨_,n,e,rfl,rfl,rfl⟩,z⟩
 ·refine⟨its.toList,r,⟨o,n,I.kIn a o hk,hc,hd,by simpa using hs⟩,?_⟩
  have e:=r.length;simp only[Array.length_toList] at e;omega
theorem Inv.tuple (I:Inv X pins σ H s) (h:SqT X.K H a xs):∃its:List Value,Vals xs its/\IsTup s.heap a its.toArray/\xs.length<=sizeLine:=by
 rcases h with h | ⟨o,its,n,hk,hc,hs,hz,r⟩
 ·obtain⟨z,its,r,p⟩:=h.ok I.hok
  exact⟨its,r,p,z⟩
 ·refine⟨its.toList,r,⟨o,I.kIn a o hk,hc,n,by simpa using hs⟩,?_⟩
  have e:=r.length;simp only[Array.length_toList] at e;omega
theorem Inv.list_inj (I:Inv X pins σ H s) (h:SqL X.K H a xs) (h':SqL X.K H a ys):xs=ys:=by
 obtain⟨its,r,⟨o,n,e,_,_,d⟩,_⟩:=I.list h;obtain⟨its',r',⟨o',n',e',_,_,d'⟩,_⟩:=I.list h';rw[e] at e'; cases e';rw[d] at d';injection d' with d1 _
 have:its=its':=by simpa using congrArg Array.toList d1
 subst this;exact r.inj r'
theorem Inv.tuple_inj (I:Inv X pins σ H s) (h:SqT X.K H a xs) (h':SqT X.K H a ys):xs=ys:=by
 obtain⟨its,r,⟨o,e,_,n,d⟩,_⟩:=I.tuple h;obtain⟨its',r',⟨o',e',_,n',d'⟩,_⟩:=I.tuple h';rw[e] at e'; cases e';rw[d] at d';injection d' with d1 _
 have:its=its':=by simpa using congrArg Array.toList d1
 subst this;exact r.inj r'
end
abbrev Cx.wish (X:Cx) (E:Value->Shared->Prop):Cx:={ X with xe:=E }
abbrev Cx.nox (X:Cx):Cx:=X.wish fun _ _=>False
theorem Cx.Ok.wish {X:Cx} (ok:X.Ok) (E:Value->Shared->Prop):(X.wish E).Ok:=
 ⟨ok.mod,ok.kind,ok.glob,ok.blt,ok.above,ok.inj,ok.has,ok.cab,ok.hd,ok.frames,ok.stk,ok.exf,ok.bs,ok.bsz,ok.noex,ok.exfs,ok.funs,ok.frf⟩
theorem Cx.Ok.unwish {X:Cx}{E:Value->Shared->Prop} (ok:(X.wish E).Ok):X.Ok:=
 ⟨ok.mod,ok.kind,ok.glob,ok.blt,ok.above,ok.inj,ok.has,ok.cab,ok.hd,ok.frames,ok.stk,ok.exf,ok.bs,ok.bsz,ok.noex,ok.exfs,ok.funs,ok.frf⟩
section
variable {X:Cx}{pins:List (Addr×Obj)}{σ:St}{H:Hp}{s:Shared}{E:Value->Shared->Prop}
theorem Inv.wish (I:Inv X pins σ H s) (E:Value->Shared->Prop):Inv (X.wish E) pins σ H s:=⟨I.ok.wish E,I.os,I.bare,I.base,I.loc,I.cell,I.free,I.freeC,I.pin,I.hok,I.len⟩
theorem Inv.unwish (I:Inv (X.wish E) pins σ H s):Inv X pins σ H s:=⟨I.ok.unwish,I.os,I.bare,I.base,I.loc,I.cell,I.free,I.freeC,I.pin,I.hok,I.len⟩
theorem SP.unwish {D:Ends}{f:Flow}{s':Shared} (h:SP (X.wish E) pins D f s'):SP X pins D f s':=by
 cases f with
 | next=>obtain⟨σ',H',I,q⟩:=h; exact⟨σ',H',I.unwish,q⟩
 | brk=>obtain⟨σ',H',I,q⟩:=h; exact⟨σ',H',I.unwish,q⟩
 | cont=>obtain⟨σ',H',I,q⟩:=h; exact⟨σ',H',I.unwish,q⟩
 | ret u=>obtain⟨v,σ',H',I,r,q⟩:=h; exact⟨v,σ',H',I.unwish,r,q⟩
theorem PSs.nox {st:List Stmt}{t:TS} (h:PSs X.nox st t):PSs X st t:=fun pins s σ H D I hw=>
 wpAny_mono (h pins s σ H D (I.wish _) hw) (fun _ _ q=>q.unwish) fun _ _ z=>False.elim z
end
section
variable {X:Cx}{st:Stmt}{rest:List Stmt}{t u:TS}{e:Expr}{te:TE}{pos:Pos}
def zlA:TS:=fun D σ H=>D.nx σ H
def tSeq (t u:TS):TS:=fun D σ H=>t { D with nx:=u D } σ H
theorem zD:PSs X [] zlA:=fun _ _ σ H _ I h=>wpAny_execs_nil ⟨σ,H,I,h⟩
theorem zf (h1:PS X st t) (h2:PSs X rest u):PSs X (st::rest) (tSeq t u):=by
 intro pins s σ H D I h;refine wpAny_execs_cons (thn (h1 pins s σ H { D with nx:=u D } I h) fun f s1 q=>?_);cases f with
 | next=>
  obtain⟨σ',H',I',q⟩:=q;exact h2 pins s1 σ' H' D I' q
 | ret v=>exact q
 | brk=>exact q
 | cont=>exact q
theorem zi (h1:PS X st t):PSs X [st] t:=by
 intro pins s σ H D I h;refine wpAny_execs_cons (thn (h1 pins s σ H D I h) fun f s1 q=>?_);cases f with
 | next=>exact wpAny_execs_nil q
 | ret v=>exact q
 | brk=>exact q
 | cont=>exact q
theorem Inv.quiet {pins:List (Addr×Obj)}{σ:St}{H:Hp}{s:Shared} (I:Inv X pins σ H s):interactive X.env=false:=by simp[interactive,I.ok.kind]
def zlC (te:TE):TS:=fun D σ H=>te σ H fun _ H1=>D.nx σ H1
theorem zaq (he:PE X e te) (hs:swapsWith e none pos.line X.env=pure false:=by rfl):PS X (.Expr e pos) (zlC te):=by
 intro pins s σ H D I h;exact wpAny_Expr_any (thn (he pins s σ H _ I h) fun v s1 ⟨x,H1,I1,r1,q1⟩=>⟨σ,H1,I1,q1⟩) I.quiet hs
def tRet (te:TE):TS:=fun D σ H=>te σ H D.rt
theorem zr (he:PE X e te):PS X (.Return (some e) pos) (tRet te):=by
 intro pins s σ H D I h;exact wpAny_Return_some (thn (he pins s σ H _ I h) fun v s1 ⟨x,H1,I1,r1,q1⟩=>⟨x,σ,H1,I1,r1,q1⟩)
def tIfS (c:TT) (t u:TS):TS:=fun D σ H=>c σ H fun b H1=>if b=true then t D σ H1 else u D σ H1
theorem zav {c:Expr}{a b:List Stmt}{tc:TT} (hc:PT X c tc) (ha:PSs X a t) (hb:PSs X b u):PS X (.If c a b pos) (tIfS tc t u):=by
 intro pins s σ H D I h;refine wpAny_If (thn (hc pins s σ H _ I h) fun d s1 ⟨H1,I1,q1⟩=>?_);cases d with
 | true=>exact ha pins s1 σ H1 D I1 q1
 | false=>exact hb pins s1 σ H1 D I1 q1
def zkF:TS:=fun _ _ _=>False
theorem zg5 {sts:List Stmt}:PSs X sts zkF:=fun _ _ _ _ _ _ h=>h.elim
end
abbrev TG:=V->St->Hp->(St->Hp->Prop)->Prop
abbrev TGs:=List V->St->Hp->(St->Hp->Prop)->Prop
def PG (X:Cx) (target:Expr) (t:TG):Prop:=
 ∀(pins:List (Addr×Obj)) (s:Shared) (σ:St) (H:Hp) (v:V) (u:Value) (Q:St->Hp->Prop),Inv X pins σ H s->RelV v u->t v σ H Q->
  wpAny (model X.prog X.w) X.A (assign target X.env u) (fun _ s'=>∃σ' H',Inv X pins σ' H' s'/\Q σ' H') X.xe s
def PGs (X:Cx) (ts:List Expr) (t:TGs):Prop:=
 ∀(pins:List (Addr×Obj)) (s:Shared) (σ:St) (H:Hp) (vs:List V) (us:List Value) (Q:St->Hp->Prop),Inv X pins σ H s->Vals vs us->t vs σ H Q->
  wpAny (model X.prog X.w) X.A (assignInOrder ((assignEach ts X.env).map (·.2)) us) (fun _ s'=>∃σ' H',Inv X pins σ' H' s'/\Q σ' H') X.xe s
abbrev TSet:=V->V->V->Hp->(Hp->Prop)->Prop
def PSet (X:Cx) (t:TSet):Prop:=
 ∀(pins:List (Addr×Obj)) (s:Shared) (σ:St) (H:Hp) (o i v:V) (ov iv u:Value) (Q:Hp->Prop),Inv X pins σ H s->RelV o ov->RelV i iv->RelV v u->t o i v H Q->
  wpAny (model X.prog X.w) X.A (setItem ov iv u) (fun _ s'=>∃H',Inv X pins σ H' s'/\Q H') X.xe s
section
variable {X:Cx}{pos:Pos}
def zap (i:Nat):TG:=fun v σ H Q=>Q (σ.set i (some v)) H
theorem zm {i:Nat}{x:Str} (hN:X.N.Nodup) (hi:X.N[i]?=some x) (hx:Loc X.env.scope x) (hf:X.fn x=true \/ X.env.scope.names.lookup x=some .local:=by first | exact .inl rfl | exact .inr rfl | assumption):PG X (.Name x pos) (zap i):=by
 intro pins s σ H v u Q I r h;exact wpAny_assign_Name (ze7 I hN hi hx r (fun s' I'=>⟨_,H,I',h⟩) hf)
def gNil:TGs:=fun vs σ H Q=>vs=[]/\Q σ H
def zjO (t:TG) (u:TGs):TGs:=fun vs σ H Q=>∃v r,vs=v::r/\t v σ H fun σ' H'=>u r σ' H' Q
theorem zjP:PGs X [] gNil:=by
 intro pins s σ H vs us Q I r h;obtain⟨e,h⟩:=h;subst e;cases r;exact assignInOrder_nil ⟨σ,H,I,h⟩
theorem zfe {e:Expr}{es:List Expr}{t:TG}{u:TGs} (h1:PG X e t) (h2:PGs X es u)
  (hs:(assignEach (e::es) X.env).map (·.2)=assign e X.env::(assignEach es X.env).map (·.2):=by rfl):PGs X (e::es) (zjO t u):=by
 intro pins s σ H vs us Q I r h;obtain⟨v,vr,e1,h⟩:=h;subst e1;cases r with
 | cons r rr=>
  rw[hs];refine assignInOrder_cons (thn (h1 pins s σ H _ _ _ I r h) fun _ s1 ⟨σ1,H1,I1,q1⟩=>?_);exact h2 pins s1 σ1 H1 _ _ Q I1 rr q1
def gTup (K:PySem.W.Frag) (n:Nat) (t:TGs):TG:=fun v σ H Q=>∃a xs,v=.ref a/\SqT K H a xs/\xs.length=n/\t xs σ H Q
theorem zk9 {es:List Expr}{k:Nat}{t:TGs}{n:Nat} (hc:X.calm=true) (h:PGs X es t)
  (hn:(assignEach es X.env).length=n:=by rfl) (hst:(assignEach es X.env).findIdx? (·.1)=none:=by rfl):PG X (.Tuple es k pos) (gTup X.K n t):=by
 intro pins s σ H v u Q I r hw;obtain⟨a,xs,e1,hq,hl,hw⟩:=hw;subst e1;cases r;obtain⟨its,rv,ht,hz⟩:=I.tuple hq;refine assign_Tuple_tuple (I.ok.hd hc) ht (by simp[hn,<- hl,rv.length]) hst fun h' hx=>?_;have I1:Inv X pins σ H { s with heap:=h' }:=I.kept (t':=s.toks) fun b o e=>hx b o (Nat.ne_of_lt (Heap.lt_size e)) e;exact h pins _ σ H xs _ Q I1 (by simpa using rv) hw
def gSub (to ti:TE) (t:TSet):TG:=fun v σ H Q=>to σ H fun o H1=>ti σ H1 fun i H2=>t o i v H2 fun H3=>Q σ H3
theorem zi0 {o i:Expr}{to ti:TE}{t:TSet} (ho:PE X o to) (hi:PE X i ti) (hs:PSet X t)
  (ha:∀v,assign (.Subscript o i pos) X.env v=(do
   let ov <- holding [v] (eval o X.env)
   let iv <- holding [v,ov] (eval i X.env)
   standAt pos
   holding [v,ov,iv] (setItem ov iv v)
   release [v,ov,iv] []):=by intro _; rfl):PG X (.Subscript o i pos) (gSub to ti t):=by
 intro pins s σ H v u Q I r h;rw[ha];refine wpAny_bind (wpAny_holding (thn (ho pins s σ H _ I h) fun ov s1 ⟨x,H1,I1,r1,q1⟩=>?_));refine wpAny_bind (wpAny_holding (thn (hi pins s1 σ H1 _ I1 q1) fun iv s2 ⟨y,H2,I2,r2,q2⟩=>?_));refine wpAny_bind (wpAny_standAt (wpAny_bind (wpAny_holding (thn (hs pins s2 σ H2 x y v ov iv u _ I2 r1 r2 r q2) fun _ s3 ⟨H3,I3,q3⟩=>?_))));exact wpAny_release ⟨σ,H3,I3,q3⟩
def tAsg (te:TE) (g:TG):TS:=fun D σ H=>te σ H fun x H1=>g x σ H1 D.nx
theorem ziU {tg e:Expr}{te:TE}{g:TG} (he:PE X e te) (hg:PG X tg g) (hs:swapsWithSole [tg] e pos.line X.env=pure false:=by rfl) (hw:swappedStores [tg] e X.env=pure none:=by rfl)
  (h1:(assignEach [tg] X.env).map (·.2)=[assign tg X.env]:=by rfl):PS X (.Assign [tg] e pos) (tAsg te g):=by
 intro pins s σ H D I h;refine wpAny_Assign_stores (thn (he pins s σ H _ I h) fun v s1 ⟨x,H1,I1,r1,q1⟩=>?_) hs hw;rw[h1];exact thn (hg pins s1 σ H1 x v _ I1 r1 q1) fun _ s2 q=>q
theorem zq {i:Nat}{x:Str}{e:Expr}{te:TE}{pos':Pos} (hN:X.N.Nodup) (hi:X.N[i]?=some x) (hx:Loc X.env.scope x) (he:PE X e te) (hs:swapsWith e (some (.Name x pos')) pos.line X.env=pure false:=by rfl) (hf:X.fn x=true \/ X.env.scope.names.lookup x=some .local:=by first | exact .inl rfl | exact .inr rfl | assumption) :
  PS X (.Assign [.Name x pos'] e pos) (tAsg te (zap i)):=by
 intro pins s σ H D I h;refine wpAny_Assign_Name (thn (he pins s σ H _ I h) fun v s1 ⟨y,H1,I1,r1,q1⟩=>?_) hs;exact ze7 I1 hN hi hx r1 (fun s2 I2=>⟨_,H1,I2,q1⟩) hf
end
section
variable {X:Cx}{pos:Pos}
def zks (c:TT) (tb:TS):TS:=fun D σ H=>∃W:Nat->St->Hp->Prop,(∃m,W m σ H)/\∀m σ H,W m σ H->
 c σ H fun b H1=>if b=true then ∃N:St->Hp->Prop,(∀σ' H',N σ' H'->∃m',m'<m/\W m' σ' H')/\tb { D with nx:=N,ct:=N,bk:=D.nx } σ H1 else D.nx σ H1
theorem zhW {c:Expr}{body:List Stmt}{tc:TT}{tb:TS} (hp:PassesOwn (model X.prog X.w) X.A X.env X.xe) (hc:PT X c tc) (hb:PSs X body tb):PS X (.While c body [] pos) (zks tc tb):=by
 intro pins s σ H D I h;obtain⟨W,⟨m0,w0⟩,turn⟩:=h;refine wpAny_While (codeAny_whileLoop (fun n s'=>∃σ' H',Inv X pins σ' H' s'/\W n σ' H') ?_ m0 ⟨σ,H,I,w0⟩);rintro n s1 ⟨σ1,H1,I1,w1⟩;refine wpAny_passesOwn hp (thn (hc pins s1 σ1 H1 _ I1 (turn n σ1 H1 w1)) fun b s2 ⟨H2,I2,q2⟩=>?_);cases b with
 | true=>
  obtain⟨N,hN,q2⟩:=q2;rw[if_pos rfl];refine wpAny_passesOwn hp (thn (hb pins s2 σ1 H2 _ I2 q2) fun f s3 q3=>?_);cases f with
  | next=>
   obtain⟨σ3,H3,I3,n3⟩:=q3;obtain⟨m',hm,w3⟩:=hN σ3 H3 n3;exact⟨m',hm,σ3,H3,I3,w3⟩
  | cont=>
   obtain⟨σ3,H3,I3,n3⟩:=q3;obtain⟨m',hm,w3⟩:=hN σ3 H3 n3;exact⟨m',hm,σ3,H3,I3,w3⟩
  | brk=>exact q3
  | ret v=>exact q3
 | false=>
  rw[if_neg Bool.false_ne_true];exact wpAny_execs_nil ⟨σ1,H2,I2,q2⟩
end
structure It where
 go:Nat->Hp->Prop
 yld:Nat->Hp->V->Hp->Prop
 stop:Nat->Hp->Prop
def FpOk (X:Cx) (pins:List (Addr×Obj)) (H:Hp) (b:Addr):Prop:=
 H b=none/\b≠X.env.locals/\b∉X.fs/\(b∈X.ex \/ X.s₀.heap.objs.size<=b)/\(∀x c,X.env.cells.lookup x=some c->c≠b)/\∀p∈X.pn++pins,p.1≠b
theorem Inv.fpOk {X:Cx}{pins:List (Addr×Obj)}{σ:St}{H H':Hp}{s:Shared}{b:Addr} (I:Inv X pins σ H s) (hb:s.heap.objs.size<=b) (hn:H' b=none):FpOk X pins H' b:=by
 refine⟨hn,Nat.ne_of_gt (Nat.lt_of_lt_of_le I.lt hb),I.nofs hb,.inr (Nat.le_trans I.sz hb),fun x c e z=>?_,fun p hp z=>?_⟩
 ·obtain⟨v,q⟩:=I.cell x c e
  exact absurd (Nat.lt_of_lt_of_le q.lt (by rw[z]; exact hb)) (Nat.lt_irrefl _)
 ·exact absurd (Nat.lt_of_lt_of_le (Heap.lt_size (I.pin p hp).1) (by rw[z]; exact hb)) (Nat.lt_irrefl _)
structure Turn (P:Program) (w:World) (K:PySem.W.Frag) (tg:Expr) (J:It) (fp:List Addr) (it:Addr) (tn:Nat->Heap->Prop):Prop where
 mem:it∈fp
 obj:∀i h,tn i h->∀b∈fp,∃o,h.get? b=some o/\∀v,o.data≠.cell v
 keep:∀i h h',tn i h->(∀b∈fp,∀o,h.get? b=some o->h'.get? b=some o)->tn i h'
 item:∀(X:Cx),X.prog=P->X.w=w->X.K=K->X.calm=true->∀(i:Nat) (pins:List (Addr×Obj)) (s:Shared) (σ:St) (H:Hp) (E:Value->Shared->Prop),Inv X pins σ H s->(∀b∈fp,FpOk X pins H b)->tn i s.heap->J.go i H->
  wpAny (model P w) X.A (pyNext (.ref it)) (fun r s1=>∃u,r=some u/\
   wpAny (model P w) X.A (letOwnedTupleGo tg (.ref it) u) (fun _ s2=>∃x H',Inv X pins σ H' s2/\RelV x u/\J.yld i H x H'/\tn (i+1) s2.heap/\∀b∈fp,H' b=none) E s1) E s
 done:∀(X:Cx),X.prog=P->X.w=w->X.K=K->X.calm=true->∀(i:Nat) (pins:List (Addr×Obj)) (s:Shared) (σ:St) (H:Hp) (E:Value->Shared->Prop),Inv X pins σ H s->(∀b∈fp,FpOk X pins H b)->tn i s.heap->J.stop i H->
  wpAny (model P w) X.A (pyNext (.ref it)) (fun r s1=>r=none/\Inv X pins σ H s1) E s
 self:∀(A:Around) (i:Nat) (s:Shared) (Q:Value->Shared->Prop) (E:Value->Shared->Prop),tn i s.heap->Q (.ref it) s->wpAny (model P w) A (pyIter (.ref it)) Q E s
abbrev TI:=St->Hp->(It->Hp->Prop)->Prop
def PIE (X:Cx) (pins:List (Addr×Obj)) (σ:St) (tg:Expr) (R:It->Hp->Prop) (itv:Value) (s2:Shared):Prop:=
 ∃(it:Addr) (fp:List Addr) (tn:Nat->Heap->Prop) (J:It) (H':Hp),itv=.ref it/\Inv X pins σ H' s2/\Turn X.prog X.w X.K tg J fp it tn/\tn 0 s2.heap/\(∀b∈fp,FpOk X pins H' b)/\R J H'
def PI (X:Cx) (tg iter:Expr) (wi:TI):Prop:=
 ∀(pins:List (Addr×Obj)) (s:Shared) (σ:St) (H:Hp) (R:It->Hp->Prop),Inv X pins σ H s->wi σ H R->
  wpAny (model X.prog X.w) X.A (eval iter X.env) (fun v s1=>wpAny (model X.prog X.w) X.A (pyIter v) (PIE X pins σ tg R) X.xe s1) X.xe s
theorem ziF {M:Model}{A:Around}{E:Value->Shared->Prop}{s:Shared}{tg:Expr}{it:Addr}{u:Value}{o:Obj}{n:String}{vs:Array Value}{Q:Unit->Shared->Prop} (ho:s.heap.get? it=some o) (hc:o.cls=.type n) (hd:o.data=.fields vs)
  (hn:["enumerate","zip","dict_itemiterator","dict_reverseitemiterator","odict_iterator","itertools.zip_longest","itertools.pairwise"].contains n=false) (hQ:Q () s):wpAny M A (letOwnedTupleGo tg (.ref it) u) Q E s:=by
 unfold letOwnedTupleGo;cases tg <;> first
  | exact wpAny_pure hQ
  | (cases u <;> first
    | exact wpAny_pure hQ
    | (refine wpAny_bind (wpAny_load ho ?_); rw[hc,hd]; show wpAny M A (if (["enumerate","zip","dict_itemiterator","dict_reverseitemiterator","odict_iterator","itertools.zip_longest","itertools.pairwise"].contains n && vs[0]? == some (rawInt _))=true then _ else _) Q E s; rw[if_neg (by intro h; rw[hn,Bool.false_and] at h; cases h)]; exact wpAny_pure hQ))
def Itl (K:PySem.W.Frag) (a:Addr):It:=
 ⟨fun i H=>∃xs x,SqL K H a xs/\xs[i]?=some x,fun i H x H'=>H'=H/\∀xs,SqL K H a xs->xs[i]?=some x,fun i H=>∃xs,SqL K H a xs/\xs.length<=i⟩
def Itt (K:PySem.W.Frag) (a:Addr):It:=
 ⟨fun i H=>∃xs x,SqT K H a xs/\xs[i]?=some x,fun i H x H'=>H'=H/\∀xs,SqT K H a xs->xs[i]?=some x,fun i H=>∃xs,SqT K H a xs/\xs.length<=i⟩
def Itr (lo:Int) (n:Nat):It:=⟨fun i _=>i<n,fun i H x H'=>H'=H/\x=.int (lo+i),fun i _=>n<=i⟩
theorem zgJ {P:Program}{w:World}{K:PySem.W.Frag}{tg:Expr} (a it:Addr):Turn P w K tg (Itl K a) [it] it (fun i h=>h.IsListIter it a i) where
 mem:=by simp
 obj:=fun i h st b hb=>by
  have e:b=it:=by simpa using hb
  subst e;obtain⟨o,e,c,d⟩:=st;exact⟨o,e,fun v z=>by rw[d] at z; cases z⟩
 keep:=fun i h h' st k=>st.at fun o e=>k it (by simp) o e
 item:=by
  intro X hP hw hK hc i pins s σ H E I hf st hg;subst hP hw hK;obtain⟨xs,x,hq,hx⟩:=hg;obtain⟨its,rv,p,hz⟩:=I.list hq;obtain⟨u,hu,ru⟩:=rv.get hx;obtain⟨f0,f1,f2,f3,f4,f5⟩:=hf it (by simp);refine wpAny_pyNext_list_item st p.isList (x:=u) (by simpa using hu) fun h' st' sb=>?_;have I1:Inv X pins σ H { s with heap:=h' }:=I.turned (t':=s.toks) (fun b o hb e=>(sb.2 b hb).trans e) f0 f1 f3 f4 f5;obtain⟨o,e,c,d⟩:=id st';exact⟨u,rfl,ziF (s:={ s with heap:=h' }) e c d (by decide) ⟨x,H,I1,ru,⟨rfl,fun ys hy=>by rw[I.list_inj hy hq]; exact hx⟩,st',fun b hb=>(hf b hb).1⟩⟩
 done:=by
  intro X hP hw hK hc i pins s σ H E I hf st hg;subst hP hw hK;obtain⟨xs,hq,hx⟩:=hg;obtain⟨its,rv,p,hz⟩:=I.list hq;obtain⟨f0,f1,f2,f3,f4,f5⟩:=hf it (by simp);have hl:=rv.length;exact wpAny_pyNext_list_end (I.ok.hd hc) st p.isList (by simp; omega) fun h' eb=>⟨rfl,I.turned (t':=s.toks) (fun b o hb e=>eb b o hb e) f0 f1 f3 f4 f5⟩
 self:=fun _ _ _ _ _ st h=>wpAny_pyIter_listiter st h
theorem zf0 {P:Program}{w:World}{K:PySem.W.Frag}{tg:Expr} (a it:Addr):Turn P w K tg (Itt K a) [it] it (fun i h=>h.IsTupleIter it a i) where
 mem:=by simp
 obj:=fun i h st b hb=>by
  have e:b=it:=by simpa using hb
  subst e;obtain⟨o,e,c,d⟩:=st;exact⟨o,e,fun v z=>by rw[d] at z; cases z⟩
 keep:=fun i h h' st k=>st.at fun o e=>k it (by simp) o e
 item:=by
  intro X hP hw hK hc i pins s σ H E I hf st hg;subst hP hw hK;obtain⟨xs,x,hq,hx⟩:=hg;obtain⟨its,rv,p,hz⟩:=I.tuple hq;obtain⟨u,hu,ru⟩:=rv.get hx;obtain⟨f0,f1,f2,f3,f4,f5⟩:=hf it (by simp);refine wpAny_pyNext_tuple_item st (show s.heap.IsTuple a its.toArray from p) (x:=u) (by simpa using hu) fun h' st' sb=>?_;have I1:Inv X pins σ H { s with heap:=h' }:=I.turned (t':=s.toks) (fun b o hb e=>(sb.2 b hb).trans e) f0 f1 f3 f4 f5;obtain⟨o,e,c,d⟩:=id st';exact⟨u,rfl,ziF (s:={ s with heap:=h' }) e c d (by decide) ⟨x,H,I1,ru,⟨rfl,fun ys hy=>by rw[I.tuple_inj hy hq]; exact hx⟩,st',fun b hb=>(hf b hb).1⟩⟩
 done:=by
  intro X hP hw hK hc i pins s σ H E I hf st hg;subst hP hw hK;obtain⟨xs,hq,hx⟩:=hg;obtain⟨its,rv,p,hz⟩:=I.tuple hq;obtain⟨f0,f1,f2,f3,f4,f5⟩:=hf it (by simp);have hl:=rv.length;exact wpAny_pyNext_tuple_end (I.ok.hd hc) st (show s.heap.IsTuple a its.toArray from p) (by simp; omega) fun h' eb=>⟨rfl,I.turned (t':=s.toks) (fun b o hb e=>eb b o hb e) f0 f1 f3 f4 f5⟩
 self:=fun _ _ _ _ _ st h=>wpAny_pyIter_tupleiter st h
theorem zfP {P:Program}{w:World}{K:PySem.W.Frag}{tg:Expr} (it:Addr) (lo:Int) (n:Nat):Turn P w K tg (Itr lo n) [it] it (fun i h=>IsRangeIter h it (lo+(i:Nat)*1) ((n:Int) - (i:Nat)) 1) where
 mem:=by simp
 obj:=fun i h st b hb=>by
  have e:b=it:=by simpa using hb
  subst e;exact⟨_,st,fun v z=>by
   have z':Data.fields _=Data.cell v:=z;cases z'⟩
 keep:=fun i h h' st k=>k it (by simp) _ st
 item:=by
  intro X hP hw hK hc i pins s σ H E I hf st hg;subst hP hw hK;obtain⟨f0,f1,f2,f3,f4,f5⟩:=hf it (by simp);have W:=Walks.range (prog:=X.prog) (w:=X.w) (I.ok.hd hc) it lo 1 n;refine W.item i s _ _ hg st fun v h' tk hv st' kk=>?_;obtain⟨t,rfl⟩:=hv;have I1:Inv X pins σ H { s with heap:=h',toks:=tk }:=I.turned (fun b o hb e=>kk b o (by simpa using hb) e) f0 f1 f3 f4 f5;refine⟨_,rfl,ziF (s:={ s with heap:=h',toks:=tk }) (n:="range_iterator") st' rfl rfl (by decide) ⟨.int (lo+i),H,I1,⟨t,?_⟩,⟨rfl,rfl⟩,st',fun b hb=>(hf b hb).1⟩⟩;rw[Int.mul_one]
 done:=by
  intro X hP hw hK hc i pins s σ H E I hf st hg;subst hP hw hK;obtain⟨f0,f1,f2,f3,f4,f5⟩:=hf it (by simp);exact wpAny_pyNext_range_end (I.ok.hd hc) st (by have:n<=i:=hg; omega) fun h' eb=>⟨rfl,I.turned (t':=s.toks) (fun b o hb e=>eb b o hb e) f0 f1 f3 f4 f5⟩
 self:=fun _ _ _ _ _ st h=>wpAny_pyIter_rangeiter st h
end L2
namespace L2
open PySem PySem.Spec PyProof.Rows
section
variable {X:Cx}{tg:Expr}
def zlP (K:PySem.W.Frag) (tl:TE):TI:=fun σ H R=>tl σ H fun x H1=>∃a,x=.ref a/\(∃xs,SqL K H1 a xs)/\R (Itl K a) H1
def iTup (K:PySem.W.Frag) (tl:TE):TI:=fun σ H R=>tl σ H fun x H1=>∃a,x=.ref a/\(∃xs,SqT K H1 a xs)/\R (Itt K a) H1
theorem zz {l:Expr}{tl:TE} (hl:PE X l tl):PI X tg l (zlP X.K tl):=by
 intro pins s σ H R I h;refine thn (hl pins s σ H _ I h) fun v s1 ⟨x,H1,I1,r1,q1⟩=>?_;obtain⟨a,e,⟨xs,hq⟩,q⟩:=q1;subst e;cases r1;obtain⟨its,rv,p,hz⟩:=I1.list hq;refine wpAny_pyIter_list p.isList ?_;refine⟨s1.heap.objs.size,[s1.heap.objs.size],_,_,H1,rfl,I1.kept (t':=s1.toks) fun b o e=>Heap.get?_push_of_some _ e,zgJ a _,⟨_,Heap.get?_push_size _ rfl,rfl,rfl⟩,fun b hb=>?_,q⟩;have e:b=s1.heap.objs.size:=by simpa using hb
 subst e;exact I1.fpOk (Nat.le_refl _) (I1.hok.fresh (Nat.le_refl _))
theorem zgk {l:Expr}{tl:TE} (hl:PE X l tl):PI X tg l (iTup X.K tl):=by
 intro pins s σ H R I h;refine thn (hl pins s σ H _ I h) fun v s1 ⟨x,H1,I1,r1,q1⟩=>?_;obtain⟨a,e,⟨xs,hq⟩,q⟩:=q1;subst e;cases r1;obtain⟨its,rv,p,hz⟩:=I1.tuple hq;refine wpAny_pyIter_tuple (show s1.heap.IsTuple a its.toArray from p) ?_;refine⟨s1.heap.objs.size,[s1.heap.objs.size],_,_,H1,rfl,I1.kept (t':=s1.toks) fun b o e=>Heap.get?_push_of_some _ e,zf0 a _,⟨_,Heap.get?_push_size _ rfl,rfl,rfl⟩,fun b hb=>?_,q⟩;have e:b=s1.heap.objs.size:=by simpa using hb
 subst e;exact I1.fpOk (Nat.le_refl _) (I1.hok.fresh (Nat.le_refl _))
theorem ziA {pins:List (Addr×Obj)}{σ:St}{H:Hp}{s:Shared}{R:It->Hp->Prop}{E:Value->Shared->Prop}{lo hi:Int}{t u v:Tok}{tk:Nat} (I:Inv X pins σ H s) (h1:-(2 ^ 62)<=lo) (h2:lo<2 ^ 62) (h3:-(2 ^ 62)<=hi) (h4:hi<2 ^ 62)
  (q:R (Itr lo (hi - lo).toNat) H):wpAny (model X.prog X.w) X.A (pyIter (.ref s.heap.objs.size)) (PIE X pins σ tg R) E { s with heap:=s.heap.push { cls:=.type "range",data:=.fields #[.int lo t,.int hi u,.int 1 v] },toks:=tk }:=by
 refine wpAny_pyIter_range (IsRange.new ..) (small_one h1 h2 h3 h4) ?_;have I1:Inv X pins σ H { s with heap:=s.heap.push { cls:=.type "range",data:=.fields #[.int lo t,.int hi u,.int 1 v] },toks:=tk }:=I.kept fun b o e=>Heap.get?_push_of_some _ e;refine⟨(s.heap.push { cls:=.type "range",data:=.fields #[.int lo t,.int hi u,.int 1 v] }).objs.size,[(s.heap.push { cls:=.type "range",data:=.fields #[.int lo t,.int hi u,.int 1 v] }).objs.size],_,_,H,rfl,
  I1.kept (t':=tk) fun b o e=>Heap.get?_push_of_some _ e,zfP _ lo (hi - lo).toNat,?_,fun b hb=>?_,q⟩
 ·have e1:lo+((0:Nat):Int)*1=lo:=by simp
  have e2:(((hi - lo).toNat:Nat):Int) - ((0:Nat):Int)=Builtin.Range.rangeSize lo hi 1:=by rw[rangeSize_one]; split <;> omega
  show IsRangeIter _ _ (lo+((0:Nat):Int)*1) ((((hi - lo).toNat:Nat):Int) - ((0:Nat):Int)) 1;rw[e1,e2];exact Heap.get?_push_size _ rfl
 ·have e:b=(s.heap.push { cls:=.type "range",data:=.fields #[.int lo t,.int hi u,.int 1 v] }).objs.size:=by simpa using hb
  subst e;exact I1.fpOk (Nat.le_refl _) (I1.hok.fresh (Nat.le_refl _))
def zk5 (ta:TA):TI:=fun σ H R=>ta σ H fun vs H1=>∃j:Int,vs=[.int j]/\-(2 ^ 62)<=j/\j<2 ^ 62/\R (Itr 0 j.toNat) H1
theorem zar {a:Expr}{ta:TA}{p pos:Pos} (hg:Gl X "range") (hm:X.mg "range"=none) (ha:PA X [a] ta) (hs:starEach [a] X.env=[(false,eval a X.env)]:=by rfl):PI X tg (.Call (.Name "range" p) [a] [] pos) (zk5 ta):=by
 intro pins s σ H R I h;refine Call_ (zcD I hg hm boot_range (PyProof.Rows.callWith_type1 (thn (ha pos pins s σ H _ I h) fun us s1 ⟨vs,H1,I1,r1,q1⟩=>?_) hs rfl));obtain⟨j,e,q1,q2,q⟩:=q1;subst e;cases r1 with
 | cons r rr=>
  cases rr;obtain⟨t,rfl⟩:=r;exact call_range_1 (ziA I1 (by omega) (by omega) q1 q2 (by simpa using q))
def tFor (wi:TI) (g:TG) (tb:TS):TS:=fun D σ H=>wi σ H fun J H1=>∃W:Nat->Nat->St->Hp->Prop,(∃m,W 0 m σ H1)/\∀i m σ H,W i m σ H->
 (J.stop i H/\D.nx σ H) \/ (J.go i H/\∃N:St->Hp->Prop,(∀σ' H',N σ' H'->∃m',m'<m/\W (i+1) m' σ' H')/\∀x H',J.yld i H x H'->g x σ H' fun σ2 H2=>tb { D with nx:=N,ct:=N,bk:=D.nx } σ2 H2)
def zcG (fp:List Addr) (h:Heap):List (Addr×Obj):=fp.filterMap fun b=>(h.get? b).map fun o=>(b,o)
theorem zao {fp:List Addr}{h:Heap}{b:Addr}{o:Obj} (hb:b∈fp) (e:h.get? b=some o):(b,o)∈zcG fp h:=List.mem_filterMap.mpr ⟨b,hb,by rw[e]; rfl⟩
theorem zg4 {fp:List Addr}{h:Heap}{p:Addr×Obj} (hp:p∈zcG fp h):p.1∈fp/\h.get? p.1=some p.2:=by
 obtain⟨b,hb,e⟩:=List.mem_filterMap.mp hp;cases q:h.get? b with
 | none=>rw[q] at e; cases e
 | some o=>
  rw[q] at e;have e':(b,o)=p:=Option.some.inj e;subst e';exact⟨hb,q⟩
theorem Inv.pinned {pins:List (Addr×Obj)}{σ:St}{H:Hp}{s:Shared}{fp:List Addr} (I:Inv X pins σ H s) (hf:∀b∈fp,FpOk X pins H b) (ho:∀b∈fp,∃o,s.heap.get? b=some o/\∀v,o.data≠.cell v):Inv X (pins++zcG fp s.heap) σ H s:=
 I.pins_of fun p hp=>(List.mem_append.mp hp).elim (fun z=>I.pin p (List.mem_append_right _ z)) fun z=>by
  obtain⟨hb,e⟩:=zg4 z;obtain⟨f0,f1,f2,_⟩:=hf p.1 hb;obtain⟨o,e',d⟩:=ho p.1 hb;rw[e] at e'; cases e';exact⟨e,f0,f1,f2,d⟩
theorem Inv.unpinned {pins pl:List (Addr×Obj)}{σ:St}{H:Hp}{s:Shared} (I:Inv X (pins++pl) σ H s):Inv X pins σ H s:=I.pins_of fun p hp=>I.pin p (List.mem_append_right _ (List.mem_append_left _ hp))
theorem zaa {iter:Expr}{body:List Stmt}{wi:TI}{g:TG}{tb:TS}{pos:Pos} (hp:PassesOwn (model X.prog X.w) X.A X.env X.xe) (hc:X.calm=true) (hi:PI X tg iter wi) (hg:PG X tg g) (hb:PSs X body tb)
  (hs:∀x,foldedSetIterable iter X.env x=pure x:=by intro _; rfl):PS X (.For tg iter body [] pos) (tFor wi g tb):=by
 intro pins s σ H D I h;refine wpAny_For (thn (hi pins s σ H _ I h) fun v s1 h1=>thn h1 fun itv s2 h2=>?_) hs;obtain⟨it,fp,tn,J,H2,e,I2,T,st2,f2,W,⟨m0,w0⟩,turn⟩:=h2;subst e;have stat:∀{H':Hp},(∀b∈fp,H' b=none)->∀b∈fp,FpOk X pins H' b:=fun hn b hb=>⟨hn b hb,(f2 b hb).2⟩;refine codeAny_forLoop_any (fun n s'=>∃i σ' H',Inv X pins σ' H' s'/\tn i s'.heap/\(∀b∈fp,H' b=none)/\W i n σ' H') ?_ m0 ⟨0,σ,H2,I2,st2,fun b hb=>(f2 b hb).1,w0⟩;rintro n s3 ⟨i,σ3,H3,I3,st3,fr3,w3⟩;rcases turn i n σ3 H3 w3 with ⟨stop,qn⟩ | ⟨go,N,hN,step⟩
 ·refine wpAny_passesOwn hp (thn (T.done X rfl rfl rfl hc i pins s3 σ3 H3 X.xe I3 (stat fr3) st3 stop) fun r s4 ⟨hr,I4⟩=>?_)
  subst hr;exact wpAny_execs_nil ⟨σ3,H3,I4,qn⟩
 ·refine wpAny_passesOwn hp (thn (T.item X rfl rfl rfl hc i pins s3 σ3 H3 X.xe I3 (stat fr3) st3 go) fun r s4 ⟨u,hr,h4⟩=>?_)
  subst hr;refine wpAny_passesOwn hp (thn h4 fun _ s5 ⟨x,H5,I5,r5,y5,st5,fr5⟩=>?_);have I5':=I5.pinned (stat fr5) (T.obj _ _ st5);refine wpAny_passesOwn hp (thn (hg _ s5 σ3 H5 x u _ I5' r5 (step x H5 y5)) fun _ s6 ⟨σ6,H6,I6,q6⟩=>?_);refine wpAny_passesOwn hp (thn (hb _ s6 σ6 H6 _ I6 q6) fun f s7 q7=>?_);have again:∀{σ7:St} {H7:Hp},Inv X (pins++zcG fp s5.heap) σ7 H7 s7->N σ7 H7->∃m,m<n/\∃i σ' H',Inv X pins σ' H' s7/\tn i s7.heap/\(∀b∈fp,H' b=none)/\W i m σ' H':=fun {σ7 H7} I7 n7=>by
   obtain⟨m',hm,w7⟩:=hN σ7 H7 n7;refine⟨m',hm,i+1,σ7,H7,I7.unpinned,T.keep _ _ _ st5 fun b hb o e=>(I7.pin (b,o) (List.mem_append_right _ (List.mem_append_right _ (zao hb e)))).1,fun b hb=>?_,w7⟩;obtain⟨o,e,d⟩:=T.obj _ _ st5 b hb;exact (I7.pin (b,o) (List.mem_append_right _ (List.mem_append_right _ (zao hb e)))).2.1
  cases f with
  | next=>obtain⟨σ7,H7,I7,n7⟩:=q7; exact again I7 n7
  | cont=>obtain⟨σ7,H7,I7,n7⟩:=q7; exact again I7 n7
  | brk=>obtain⟨σ7,H7,I7,q7⟩:=q7; exact⟨σ7,H7,I7.unpinned,q7⟩
  | ret v=>obtain⟨x7,σ7,H7,I7,r7,q7⟩:=q7; exact⟨x7,σ7,H7,I7.unpinned,r7,q7⟩
end
theorem zK {K:PySem.W.Frag}{a:Addr}{xs:List V}{g:TG}{tb:TS}{D:Ends}{σ:St}{H:Hp} (Pv:Nat->St->Hp->Prop) (h0:Pv 0 σ H) (hl:∀i σ H,i<=xs.length->Pv i σ H->SqL K H a xs)
  (hs:∀i x σ H,xs[i]?=some x->Pv i σ H->g x σ H fun σ2 H2=>tb { D with nx:=Pv (i+1),ct:=Pv (i+1),bk:=D.nx } σ2 H2) (hd:∀σ H,Pv xs.length σ H->D.nx σ H) :
  ∃W:Nat->Nat->St->Hp->Prop,(∃m,W 0 m σ H)/\∀i m σ H,W i m σ H->
   ((Itl K a).stop i H/\D.nx σ H) \/ ((Itl K a).go i H/\∃N:St->Hp->Prop,(∀σ' H',N σ' H'->∃m',m'<m/\W (i+1) m' σ' H')/\∀x H',(Itl K a).yld i H x H'->g x σ H' fun σ2 H2=>tb { D with nx:=N,ct:=N,bk:=D.nx } σ2 H2):=by
 refine⟨fun i m σ H=>m=xs.length - i/\i<=xs.length/\Pv i σ H,⟨xs.length,by simp,Nat.zero_le _,h0⟩,?_⟩;rintro i m σ H ⟨rfl,hi,p⟩;have q:=hl i σ H hi p
 by_cases hlt:i<xs.length
 ·refine .inr ⟨⟨xs,xs[i],q,by simp[hlt]⟩,Pv (i+1),fun σ' H' p'=>⟨xs.length - (i+1),by omega,rfl,hlt,p'⟩,fun x H' y=>?_⟩
  obtain⟨e,y⟩:=y;subst e;exact hs i x σ _ (y xs q) p
 ·have e:i=xs.length:=by omega
  subst e;exact .inl ⟨⟨xs,q,Nat.le_refl _⟩,hd σ H p⟩
theorem zg8 {K:PySem.W.Frag}{a:Addr}{xs:List V}{g:TG}{tb:TS}{D:Ends}{σ:St}{H:Hp} (Pv:Nat->St->Hp->Prop) (h0:Pv 0 σ H) (hl:∀i σ H,i<=xs.length->Pv i σ H->SqT K H a xs)
  (hs:∀i x σ H,xs[i]?=some x->Pv i σ H->g x σ H fun σ2 H2=>tb { D with nx:=Pv (i+1),ct:=Pv (i+1),bk:=D.nx } σ2 H2) (hd:∀σ H,Pv xs.length σ H->D.nx σ H) :
  ∃W:Nat->Nat->St->Hp->Prop,(∃m,W 0 m σ H)/\∀i m σ H,W i m σ H->
   ((Itt K a).stop i H/\D.nx σ H) \/ ((Itt K a).go i H/\∃N:St->Hp->Prop,(∀σ' H',N σ' H'->∃m',m'<m/\W (i+1) m' σ' H')/\∀x H',(Itt K a).yld i H x H'->g x σ H' fun σ2 H2=>tb { D with nx:=N,ct:=N,bk:=D.nx } σ2 H2):=by
 refine⟨fun i m σ H=>m=xs.length - i/\i<=xs.length/\Pv i σ H,⟨xs.length,by simp,Nat.zero_le _,h0⟩,?_⟩;rintro i m σ H ⟨rfl,hi,p⟩;have q:=hl i σ H hi p
 by_cases hlt:i<xs.length
 ·refine .inr ⟨⟨xs,xs[i],q,by simp[hlt]⟩,Pv (i+1),fun σ' H' p'=>⟨xs.length - (i+1),by omega,rfl,hlt,p'⟩,fun x H' y=>?_⟩
  obtain⟨e,y⟩:=y;subst e;exact hs i x σ _ (y xs q) p
 ·have e:i=xs.length:=by omega
  subst e;exact .inl ⟨⟨xs,q,Nat.le_refl _⟩,hd σ H p⟩
theorem zco {lo:Int}{n:Nat}{g:TG}{tb:TS}{D:Ends}{σ:St}{H:Hp} (Pv:Nat->St->Hp->Prop) (h0:Pv 0 σ H)
  (hs:∀i σ H,i<n->Pv i σ H->g (.int (lo+i)) σ H fun σ2 H2=>tb { D with nx:=Pv (i+1),ct:=Pv (i+1),bk:=D.nx } σ2 H2) (hd:∀σ H,Pv n σ H->D.nx σ H) :
  ∃W:Nat->Nat->St->Hp->Prop,(∃m,W 0 m σ H)/\∀i m σ H,W i m σ H->
   ((Itr lo n).stop i H/\D.nx σ H) \/ ((Itr lo n).go i H/\∃N:St->Hp->Prop,(∀σ' H',N σ' H'->∃m',m'<m/\W (i+1) m' σ' H')/\∀x H',(Itr lo n).yld i H x H'->g x σ H' fun σ2 H2=>tb { D with nx:=N,ct:=N,bk:=D.nx } σ2 H2):=by
 refine⟨fun i m σ H=>m=n - i/\i<=n/\Pv i σ H,⟨n,by simp,Nat.zero_le _,h0⟩,?_⟩;rintro i m σ H ⟨rfl,hi,p⟩
 by_cases hlt:i<n
 ·refine .inr ⟨hlt,Pv (i+1),fun σ' H' p'=>⟨n - (i+1),by omega,rfl,hlt,p'⟩,fun x H' y=>?_⟩
  obtain⟨e,y⟩:=y;subst e y;exact hs i σ _ hlt p
 ·have e:i=n:=by omega
  subst e;exact .inl ⟨Nat.le_refl _,hd σ H p⟩
end L2
namespace L2
open PySem PySem.Spec PyProof.Rows
abbrev R2:=V->V->Hp->VK->Prop
def OpR (X:Cx) (f:Value->Value->Sem Value) (r:R2):Prop:=
 ∀(pins:List (Addr×Obj)) (s:Shared) (σ:St) (H:Hp) (x y:V) (v u:Value) (Q:VK),Inv X pins σ H s->RelV x v->RelV y u->r x y H Q->
  wpAny (model X.prog X.w) X.A (f v u) (EP X pins σ Q) X.xe s
def UnR (X:Cx) (f:Value->Sem Value) (r:V->Hp->VK->Prop):Prop:=
 ∀(pins:List (Addr×Obj)) (s:Shared) (σ:St) (H:Hp) (x:V) (v:Value) (Q:VK),Inv X pins σ H s->RelV x v->r x H Q->
  wpAny (model X.prog X.w) X.A (f v) (EP X pins σ Q) X.xe s
def zbl (X:Cx) (f:Value) (r:List V->Hp->VK->Prop):Prop:=
 ∀(pins:List (Addr×Obj)) (s:Shared) (σ:St) (H:Hp) (xs:List V) (us:List Value) (Q:VK),Inv X pins σ H s->Vals xs us->r xs H Q->
  wpAny (model X.prog X.w) X.A (call f us) (EP X pins σ Q) X.xe s
def tOp (r:R2) (ta tb:TE):TE:=fun σ H Q=>ta σ H fun x H1=>tb σ H1 fun y H2=>r x y H2 Q
def tUn (r:V->Hp->VK->Prop) (ta:TE):TE:=fun σ H Q=>ta σ H fun x H1=>r x H1 Q
def rI (C:Int->Int->Prop) (g:Int->Int->V):R2:=fun x y H Q=>∃i j,x=.int i/\y=.int j/\C i j/\Q (g i j) H
def rI0 (g:Int->Int->V):R2:=fun x y H Q=>∃i j,x=.int i/\y=.int j/\Q (g i j) H
def rU (g:Int->V):V->Hp->VK->Prop:=fun x H Q=>∃i,x=.int i/\Q (g i) H
section
variable {X:Cx}{a b c:Expr}{ta tb tc:TE}{pos:Pos}
theorem binT (ha:PE X a ta) (hb:PE X b tb) {pins:List (Addr×Obj)}{s:Shared}{σ:St}{H:Hp}{R:V->V->Hp->Prop} (I:Inv X pins σ H s)
  (h:ta σ H fun x H1=>tb σ H1 fun y H2=>R x y H2) {Q:Value->Shared->Prop} {f:Value->Value->Sem Value}
  (hf:∀v u s2 x y H2,Inv X pins σ H2 s2->RelV x v->RelV y u->R x y H2->wpAny (model X.prog X.w) X.A (f v u) Q X.xe s2) :
  wpAny (model X.prog X.w) X.A (eval a X.env) (fun v s₁=>wpAny (model X.prog X.w) X.A (eval b X.env) (fun u s₂=>wpAny (model X.prog X.w) X.A (f v u) Q X.xe s₂) X.xe s₁) X.xe s:=by
 refine thn (ha pins s σ H _ I h) fun v s1 ⟨x,H1,I1,r1,q1⟩=>?_;refine thn (hb pins s1 σ H1 _ I1 q1) fun u s2 ⟨y,H2,I2,r2,q2⟩=>?_;exact hf v u s2 x y H2 I2 r1 r2 q2
theorem zC {op:Operator}{r:R2} (ho:OpR X (binaryOp op) r) (ha:PE X a ta) (hb:PE X b tb):PE X (.BinOp a op b pos) (tOp r ta tb):=by
 intro pins s σ H Q I h;exact wpAny_BinOp (binT ha hb I h fun v u s2 x y H2 I2 rx ry q=>ho pins s2 σ H2 x y v u Q I2 rx ry q)
theorem zlL {op:UnaryOp}{r:V->Hp->VK->Prop} (ho:UnR X (unaryOp op) r) (ha:PE X a ta):PE X (.UnaryOp op a pos) (tUn r ta):=by
 intro pins s σ H Q I h;exact UnaryOp_ (thn (ha pins s σ H _ I h) fun v s1 ⟨x,H1,I1,r1,q1⟩=>ho pins s1 σ H1 x v Q I1 r1 q1)
theorem opI {f:Value->Value->Sem Value}{C:Int->Int->Prop}{g:Int->Int->Int}
  (rule:∀(i j:Int) (t u:Tok) (s:Shared) (Q:Value->Shared->Prop) (E:Value->Shared->Prop),C i j->Q (.int (g i j) s.toks) { s with toks:=s.toks+1 }->wpAny (model X.prog X.w) X.A (f (.int i t) (.int j u)) Q E s) :
  OpR X f (rI C fun i j=>.int (g i j)):=by
 intro pins s σ H x y v u Q I rx ry h;obtain⟨i,j,rfl,rfl,hc,q⟩:=h;obtain⟨t,rfl⟩:=rx;obtain⟨t',rfl⟩:=ry;exact rule i j t t' s _ _ hc ⟨.int (g i j),H,I.tok _,⟨_,rfl⟩,q⟩
theorem opI0 {f:Value->Value->Sem Value}{g:Int->Int->Int}
  (rule:∀(i j:Int) (t u:Tok) (s:Shared) (Q:Value->Shared->Prop) (E:Value->Shared->Prop),Q (.int (g i j) s.toks) { s with toks:=s.toks+1 }->wpAny (model X.prog X.w) X.A (f (.int i t) (.int j u)) Q E s) :
  OpR X f (rI0 fun i j=>.int (g i j)):=by
 intro pins s σ H x y v u Q I rx ry h;obtain⟨i,j,rfl,rfl,q⟩:=h;obtain⟨t,rfl⟩:=rx;obtain⟨t',rfl⟩:=ry;exact rule i j t t' s _ _ ⟨.int (g i j),H,I.tok _,⟨_,rfl⟩,q⟩
theorem opB0 {f:Value->Value->Sem Value}{g:Int->Int->Bool}
  (rule:∀(i j:Int) (t u:Tok) (s:Shared) (Q:Value->Shared->Prop) (E:Value->Shared->Prop),Q (.bool (g i j)) s->wpAny (model X.prog X.w) X.A (f (.int i t) (.int j u)) Q E s) :
  OpR X f (rI0 fun i j=>.bl (g i j)):=by
 intro pins s σ H x y v u Q I rx ry h;obtain⟨i,j,rfl,rfl,q⟩:=h;obtain⟨t,rfl⟩:=rx;obtain⟨t',rfl⟩:=ry;exact rule i j t t' s _ _ ⟨.bl (g i j),H,I,rfl,q⟩
def CDiv (i j:Int):Prop:=0<j/\j<1073741824
def CPow (i j:Int):Prop:=0<=j/\j<=1000000/\i.natAbs<2 ^ 64
def CMul (i j:Int):Prop:=(-(2 ^ 64)<i/\i<2 ^ 64) \/ (-(2 ^ 64)<j/\j<2 ^ 64)
theorem CMul.ok {i j:Int} (h:CMul i j):IntMulOk i j:=by
 rcases h with ⟨h1,h2⟩ | ⟨h1,h2⟩
 ·exact .of_left (intBits_le_64 h1 h2)
 ·exact .of_right (intBits_le_64 h1 h2)
theorem zah:OpR X (binaryOp .Add) (rI0 fun i j=>.int (i+j)):=opI0 fun _ _ _ _ _ _ _ q=>add_int q
theorem ziW:OpR X (binaryOp .Sub) (rI0 fun i j=>.int (i - j)):=opI0 fun _ _ _ _ _ _ _ q=>sub_int q
theorem zcB:OpR X (binaryOp .Mult) (rI CMul fun i j=>.int (i*j)):=opI fun _ _ _ _ _ _ _ hc q=>mul_int q hc.ok
theorem zgp:OpR X (binaryOp .FloorDiv) (rI CDiv fun i j=>.int (i / j)):=opI fun i j _ _ _ _ _ hc q=>by
 have h1:(0:Int)<j:=hc.1;have h2:j<1073741824:=hc.2;exact floordiv_int (by omega) (by rw[Int.fdiv_eq_ediv_of_nonneg i (by omega)]; exact q) (.inl (PyProof.noPylong_small (by omega)))
theorem zch:OpR X (binaryOp .Mod) (rI (fun _ j=>0<j) fun i j=>.int (i % j)):=opI fun i j _ _ _ _ _ hc q=>by
 have h1:(0:Int)<j:=hc;exact mod_int' (by omega) (by rw[Int.fmod_eq_emod_of_nonneg i (by omega)]; exact q)
theorem zgG:OpR X (binaryOp .Pow) (rI CPow fun i j=>.int (i ^ j.toNat)):=opI fun _ _ _ _ _ _ _ hc q=>pow_int_small hc.1 hc.2.1 hc.2.2 q
theorem unI {f:Value->Sem Value}{g:Int->Int}
  (rule:∀(i:Int) (t:Tok) (s:Shared) (Q:Value->Shared->Prop) (E:Value->Shared->Prop),Q (.int (g i) s.toks) { s with toks:=s.toks+1 }->wpAny (model X.prog X.w) X.A (f (.int i t)) Q E s) :
  UnR X f (rU fun i=>.int (g i)):=by
 intro pins s σ H x v Q I rx h;obtain⟨i,rfl,q⟩:=h;obtain⟨t,rfl⟩:=rx;exact rule i t s _ _ ⟨.int (g i),H,I.tok _,⟨_,rfl⟩,q⟩
theorem zkw:UnR X (unaryOp .USub) (rU fun i=>.int (-i)):=unI fun _ _ _ _ _ q=>neg_int q
end
def scal:V->V->Bool
 | .non,.non=>true | .non,.int _=>true | .int _,.non=>true | .non,.bl _=>true | .bl _,.non=>true | .non,.str _=>true | .str _,.non=>true
 | .int _,.int _=>true | .bl _,.bl _=>true | .str _,.str _=>true | .byt _,.byt _=>true
 | .int _,.str _=>true | .str _,.int _=>true | .bl _,.str _=>true | .str _,.bl _=>true
 | _,_=>false
def rEq:R2:=fun x y H Q=>scal x y=true/\Q (.bl (decide (x=y))) H
def rNe:R2:=fun x y H Q=>scal x y=true/\Q (.bl (!decide (x=y))) H
theorem zgP {i j:Int}:decide (V.int i=V.int j)=(i == j):=by
 rw[Bool.eq_iff_iff];simp
theorem dec_bl {i j:Bool}:decide (V.bl i=V.bl j)=(i == j):=by
 rw[Bool.eq_iff_iff];simp
theorem zgW {i j:Str}:decide (V.str i=V.str j)=(i == j):=by
 rw[Bool.eq_iff_iff];simp
theorem zgc {i j:Array UInt8}:decide (V.byt i=V.byt j)=(i.toList == j.toList):=by
 rw[Bool.eq_iff_iff];cases i;cases j;simp
section
variable {X:Cx}{a b c:Expr}{ta tb tc:TE}{pos:Pos}
theorem fin_bl {pins:List (Addr×Obj)}{σ:St}{H:Hp}{s:Shared}{Q:VK}{k k':Bool} (I:Inv X pins σ H s) (q:Q (.bl k) H) (e:k=k'):EP X pins σ Q (.bool k') s:=by
 subst e;exact⟨.bl k,H,I,rfl,q⟩
theorem zeB:OpR X (compareOp .Eq) rEq:=by
 intro pins s σ H x y v u Q I rx ry h;obtain⟨hs,q⟩:=h;cases x with
 | non=>
  cases rx;cases y with
  | non=>cases ry; exact PySem.EqNone.eq_none_none (fin_bl I q (by simp))
  | bl j=>cases ry; exact PySem.EqNone.eq_none_bool (fin_bl I q (by simp))
  | int j=>obtain⟨t',rfl⟩:=ry; exact PySem.EqNone.eq_none_int (fin_bl I q (by simp))
  | str j=>obtain⟨t',rfl⟩:=ry; exact PySem.EqNone.eq_none_str (fin_bl I q (by simp))
  | _=>exact absurd (show false=true from hs) Bool.false_ne_true
 | bl i=>
  cases rx;cases y with
  | non=>cases ry; exact PySem.EqNone.eq_bool_none (fin_bl I q (by simp))
  | bl j=>cases ry; exact eq_bool (fin_bl I q dec_bl)
  | str j=>obtain⟨t',rfl⟩:=ry; exact PySem.EqMixed.eq_bool_str (fin_bl I q (by simp))
  | _=>exact absurd (show false=true from hs) Bool.false_ne_true
 | int i=>
  obtain⟨t,rfl⟩:=rx;cases y with
  | non=>cases ry; exact PySem.EqNone.eq_int_none (fin_bl I q (by simp))
  | int j=>obtain⟨t',rfl⟩:=ry; exact eq_int (fin_bl I q zgP)
  | str j=>obtain⟨t',rfl⟩:=ry; exact PySem.EqMixed.eq_int_str (fin_bl I q (by simp))
  | _=>exact absurd (show false=true from hs) Bool.false_ne_true
 | str i=>
  obtain⟨t,rfl⟩:=rx;cases y with
  | non=>cases ry; exact PySem.EqNone.eq_str_none (fin_bl I q (by simp))
  | bl j=>cases ry; exact PySem.EqMixed.eq_str_bool (fin_bl I q (by simp))
  | int j=>obtain⟨t',rfl⟩:=ry; exact PySem.EqMixed.eq_str_int (fin_bl I q (by simp))
  | str j=>obtain⟨t',rfl⟩:=ry; exact eq_str (fin_bl I q zgW)
  | _=>exact absurd (show false=true from hs) Bool.false_ne_true
 | byt i=>
  obtain⟨t,rfl⟩:=rx;cases y with
  | byt j=>obtain⟨t',rfl⟩:=ry; exact PySem.W.eq_bytes (fin_bl I q zgc)
  | _=>exact absurd (show false=true from hs) Bool.false_ne_true
 | _=>cases y <;> exact absurd (show false=true from hs) Bool.false_ne_true
theorem zkS:OpR X (compareOp .NotEq) rNe:=by
 intro pins s σ H x y v u Q I rx ry h;obtain⟨hs,q⟩:=h;cases x with
 | non=>
  cases rx;cases y with
  | non=>cases ry; exact PySem.EqNone.ne_none_none (fin_bl I q (by simp))
  | bl j=>cases ry; exact PySem.EqNone.ne_none_bool (fin_bl I q (by simp))
  | int j=>obtain⟨t',rfl⟩:=ry; exact PySem.EqNone.ne_none_int (fin_bl I q (by simp))
  | str j=>obtain⟨t',rfl⟩:=ry; exact PySem.EqNone.ne_none_str (fin_bl I q (by simp))
  | _=>exact absurd (show false=true from hs) Bool.false_ne_true
 | bl i=>
  cases rx;cases y with
  | non=>cases ry; exact PySem.EqNone.ne_bool_none (fin_bl I q (by simp))
  | bl j=>cases ry; exact ne_bool (fin_bl I q (congrArg not dec_bl))
  | str j=>obtain⟨t',rfl⟩:=ry; exact PySem.EqMixed.ne_bool_str (fin_bl I q (by simp))
  | _=>exact absurd (show false=true from hs) Bool.false_ne_true
 | int i=>
  obtain⟨t,rfl⟩:=rx;cases y with
  | non=>cases ry; exact PySem.EqNone.ne_int_none (fin_bl I q (by simp))
  | int j=>obtain⟨t',rfl⟩:=ry; exact ne_int (fin_bl I q (congrArg not zgP))
  | str j=>obtain⟨t',rfl⟩:=ry; exact PySem.EqMixed.ne_int_str (fin_bl I q (by simp))
  | _=>exact absurd (show false=true from hs) Bool.false_ne_true
 | str i=>
  obtain⟨t,rfl⟩:=rx;cases y with
  | non=>cases ry; exact PySem.EqNone.ne_str_none (fin_bl I q (by simp))
  | bl j=>cases ry; exact PySem.EqMixed.ne_str_bool (fin_bl I q (by simp))
  | int j=>obtain⟨t',rfl⟩:=ry; exact PySem.EqMixed.ne_str_int (fin_bl I q (by simp))
  | str j=>obtain⟨t',rfl⟩:=ry; exact ne_str (fin_bl I q (congrArg not zgW))
  | _=>exact absurd (show false=true from hs) Bool.false_ne_true
 | byt i=>
  obtain⟨t,rfl⟩:=rx;cases y with
  | byt j=>obtain⟨t',rfl⟩:=ry; exact PySem.W.ne_bytes (fin_bl I q (congrArg not zgc))
  | _=>exact absurd (show false=true from hs) Bool.false_ne_true
 | _=>cases y <;> exact absurd (show false=true from hs) Bool.false_ne_true
theorem zhJ:OpR X (compareOp .Lt) (rI0 fun i j=>.bl (decide (i<j))):=opB0 fun _ _ _ _ _ _ _ q=>lt_int q
theorem zjL:OpR X (compareOp .LtE) (rI0 fun i j=>.bl (decide (i<=j))):=opB0 fun _ _ _ _ _ _ _ q=>le_int q
theorem zhR:OpR X (compareOp .Gt) (rI0 fun i j=>.bl (decide (j<i))):=opB0 fun _ _ _ _ _ _ _ q=>gt_int q
theorem zlK:OpR X (compareOp .GtE) (rI0 fun i j=>.bl (decide (j<=i))):=opB0 fun _ _ _ _ _ _ _ q=>ge_int q
theorem nomark (b:Expr) {op:CmpOp} (h:op≠.In:=by decide) (h2:op≠.NotIn:=by decide):behindInMarks op b=false:=by
 have e1:(op == CmpOp.In)=false:=by cases op <;> first | rfl | exact absurd rfl h
 have e2:(op == CmpOp.NotIn)=false:=by cases op <;> first | rfl | exact absurd rfl h2
 cases b <;> simp[behindInMarks,e1,e2]
theorem zex {op:CmpOp}{r:R2} (ho:OpR X (compareOp op) r) (ha:PE X a ta) (hb:PE X b tb) (hm:behindInMarks op b=false):PE X (.Compare a [op] [b] pos) (tOp r ta tb):=by
 intro pins s σ H Q I h;exact wpAny_Compare1 (binT ha hb I h fun v u s2 x y H2 I2 rx ry q=>ho pins s2 σ H2 x y v u Q I2 rx ry q) hm
def zd0 (t:TE):TT:=fun σ H Q=>t σ H fun x H'=>∃k,x=.bl k/\Q k H'
theorem zx {op:CmpOp}{r:R2} (ho:OpR X (compareOp op) r) (ha:PE X a ta) (hb:PE X b tb) (hm:behindInMarks op b=false):PT X (.Compare a [op] [b] pos) (zd0 (tOp r ta tb)):=by
 intro pins s σ H Q I h;refine wpAny_isTrue_Compare1 (thn (ha pins s σ H _ I h) fun v s1 ⟨x,H1,I1,r1,q1⟩=>thn (hb pins s1 σ H1 _ I1 q1) fun u s2 ⟨y,H2,I2,r2,q2⟩=>
  thn (ho pins s2 σ H2 x y v u _ I2 r1 r2 q2) fun c s3 ⟨z,H3,I3,r3,k,e,q3⟩=>?_) hm
 subst e;cases r3;exact wpAny_truthy_bool ⟨H3,I3,q3⟩
def zku (r r':R2) (ta tb tc:TE):TE:=fun σ H Q=>ta σ H fun x H1=>tb σ H1 fun y H2=>r x y H2 fun z H3=>∃k,z=.bl k/\
 (if k=true then tc σ H3 fun w' H4=>r' y w' H4 Q else Q (.bl false) H3)
theorem zhz {op op':CmpOp}{r r':R2} (ho:OpR X (compareOp op) r) (ho':OpR X (compareOp op') r') (ha:PE X a ta) (hb:PE X b tb) (hc:PE X c tc)
  (hm:lastMarks [op,op'] [b,c]=false:=by with_unfolding_all rfl):PT X (.Compare a [op,op'] [b,c] pos) (zd0 (zku r r' ta tb tc)):=by
 intro pins s σ H Q I h;refine isTrue_chain (thn (ha pins s σ H _ I h) fun v s1 ⟨x,H1,I1,r1,q1⟩=>test_link (thn (hb pins s1 σ H1 _ I1 q1) fun u s2 ⟨y,H2,I2,r2,q2⟩=>
  thn (ho pins s2 σ H2 x y v u _ I2 r1 r2 q2) fun d s3 ⟨z,H3,I3,r3,k,e,q3⟩=>?_)) hm
 subst e;cases r3;refine wpAny_truthy_bool ?_;cases k with
 | false=>
  obtain⟨k',e',q'⟩:=q3;cases e';exact ite_ff ⟨H3,I3,q'⟩
 | true=>
  refine ite_tt (test_last (thn (hc pins s3 σ H3 _ I3 q3) fun w' s4 ⟨z',H4,I4,r4,q4⟩=>thn (ho' pins s4 σ H4 y z' u w' _ I4 r2 r4 q4) fun d' s5 ⟨z2,H5,I5,r5,k2,e2,q5⟩=>?_));subst e2;cases r5;exact wpAny_truthy_bool ⟨H5,I5,q5⟩
theorem line63:(sizeLine:Nat)<2 ^ 63:=by rw[sizeLine_eq]; decide
theorem vals1 {x:V}{us:List Value} (r:Vals [x] us):∃u,us=[u]/\RelV x u:=by
 cases r with
 | cons r1 r2=>cases r2; exact⟨_,rfl,r1⟩
theorem vals2 {x y:V}{us:List Value} (r:Vals [x,y] us):∃u w',us=[u,w']/\RelV x u/\RelV y w':=by
 cases r with
 | cons r1 r2=>
  cases r2 with
  | cons r3 r4=>cases r4; exact⟨_,_,rfl,r1,r3⟩
end
end L2
namespace L2
open PySem PySem.Spec PyProof.Rows
structure ObjM (h:Heap) (x dx C:Addr) (mA:Str->Option Value):Prop where
 obj:h.get? x=some (PySem.W.instObj C dx)
 ns:h.Ns1 dx mA
 ne:dx≠x
theorem zgt {h:Heap}{dx:Addr}{mA:Str->Option Value} (n:h.Ns1 dx mA):∃od,h.get? dx=some od/\∀name,PySem.W.lookIn name od=some (mA name):=by
 obtain⟨o,es,ep,ho,hd,hk,_,hm⟩:=n;refine⟨o,ho,fun name=>?_⟩;have e:=hm name;unfold nsFind findBy at e;rw[<- Array.find?_toList] at e;unfold PySem.W.lookIn;rw[hd];dsimp only;split
 ·rename_i y q
  rw[q] at e;exact congrArg some e
 ·rename_i q
  rw[q] at e;have a:es.toList.any (·.refKey)=false:=by
   rw[List.any_eq_false];intro y hy;obtain⟨z,t,hkey⟩:=hk y (Array.mem_toList_iff.mp hy);simp[DictEntry.refKey,hkey]
  have a':¬ es.toList.any (·.refKey)=true:=by rw[a]; exact Bool.false_ne_true
  rw[if_neg a'];exact congrArg some e
theorem ObjM.look {h:Heap}{x dx C:Addr}{mA:Str->Option Value} (I:ObjM h x dx C mA):∃od,PySem.W.InstAt h x (PySem.W.instObj C dx) C (some od)/\∀name,PySem.W.lookIn name od=some (mA name):=
 let ⟨od,ho,hl⟩:=zgt I.ns
 ⟨od,⟨I.obj,rfl,rfl,ho⟩,hl⟩
section
variable {prog:Program}{w:World}{A:Around}{E:Value->Shared->Prop}{s:Shared}{K:PySem.W.Frag}{x dx C f:Addr}{mA:Str->Option Value}{name:Str}{v:Value}
end
theorem RelO.some_of {v:V}{o:Option Value} (r:RelO (some v) o):∃u,o=some u/\RelV v u:=by
 cases o with
 | none=>exact (show False from r).elim
 | some u=>exact⟨u,rfl,r⟩
theorem RelO.none_of {o:Option Value} (r:RelO none o):o=none:=by
 cases o with
 | none=>rfl
 | some u=>exact (show False from r).elim
section
variable {P:Program}{w:World}{H H':Hp}{h h':Heap}{a C dx:Addr}{fs fs':List (Str×V)}
theorem zad (hok:HOk P w H h) (e:H a=some (.ins C dx fs)):∃mA,ObjM h a dx C mA/\(∀f,RelO (fs.lookup f) (mA f))/\PySem.Within mA (fs.map (·.1))/\fs.length<=1000/\H dx=some (.own a):=by
 obtain⟨d,z,ne,ob,mA,n,r,q⟩:=(show zO P w H h a (.ins C dx fs) from hok a _ e);exact⟨mA,⟨ob,n,ne⟩,r,q,z,d⟩
end
structure Cls (K:PySem.W.Frag) (C:Addr):Prop where
 pg:PySem.W.plainGet K C Str.empty=true
 hd:PySem.W.hasDictIn K C=true
 po:PySem.W.plainOver K C=true
 sa:PySem.W.findIn K (.ref C) "__setattr__"=some (some (.builtin "object.__setattr__"))
theorem Cls.get {K:PySem.W.Frag}{C:Addr} (c:Cls K C) (f:Str):PySem.W.plainGet K C f=true:=c.pg
section
variable {X:Cx}{pins:List (Addr×Obj)}{σ:St}{H:Hp}{s:Shared}{a C dx:Addr}{fs:List (Str×V)}{f:Str}{v:V}{A:Around}{E:Value->Shared->Prop}
end
section
variable {X:Cx}{o e value:Expr}{f:Str}{pos pos' tpos:Pos}{ta tv:TE}
end
section
variable {X:Cx}{pins:List (Addr×Obj)}{σ:St}{H:Hp}{s:Shared}{A:Around}{E:Value->Shared->Prop}{Q:Value->Shared->Prop}{c:Value}{b:Bool}
inductive TyOf (K:PySem.W.Frag) (H:Hp):V->Value->Prop where
 | non:TyOf K H .non (.type "NoneType")
 | bl (x:Bool):TyOf K H (.bl x) (.type "bool")
 | int (i:Int):TyOf K H (.int i) (.type "int")
 | str (x:Str):TyOf K H (.str x) (.type "str")
 | flt (x:UInt64):TyOf K H (.flt x) (.type "float")
 | lst {a:Addr} {xs:List V} (e:H a=some (.lst xs)):TyOf K H (.ref a) (.type "list")
 | frz {a:Addr} {o:Obj} {xs:List V} (e:H a=some (.frz o (.lst xs))):TyOf K H (.ref a) (.type "list")
 | tup {a:Addr} {xs:List V} (e:H a=some (.tup xs)):TyOf K H (.ref a) (.type "tuple")
 | dK {a:Addr} {kvs:List (Key×V)} (e:H a=some (.dK kvs)):TyOf K H (.ref a) (.type "dict")
 | dT {a:Addr} {kvs:List (List Key×V)} (e:H a=some (.dT kvs)):TyOf K H (.ref a) (.type "dict")
 | ins {a C dx:Addr} {fs:List (Str×V)} (e:H a=some (.ins C dx fs)) (cl:Cls K C) (ha:PySem.W.findIn K (.ref C) "__class__"=some (some (.builtin "object.__class__")))
   (hn:PySem.W.specialIn K (.builtin "object.__class__") "__get__"=some (some (.builtin "getset_descriptor.__get__"))) (htk:PySem.W.takesIn K (.builtin "object.__class__")=some true)
   (hm:PySem.W.mroIn K C (.type "object")=some true):TyOf K H (.ref a) (.ref C)
theorem zdS {x:V}{u t:Value} (I:Inv X pins σ H s) (rx:RelV x u) (ty:TyOf X.K H x t) (e:PySem.W.kitOne X.K t c=some b) (h:∀tk,Q (.bool b) { s with toks:=tk }) :
  wpAny (model X.prog X.w) A (call (.builtin "isinstance") [u,c]) Q E s:=by
 cases ty with
 | non=>cases (show u=Value.none from rx); exact PySem.W.kia_one PySem.W.kitx_none I.kIn True.intro e (fun z=>nomatch z) h
 | bl y=>cases (show u=Value.bool y from rx); exact PySem.W.kia_one PySem.W.kitx_bool I.kIn True.intro e (fun z=>nomatch z) h
 | int i=>obtain⟨t,q⟩:=(show ∃t,u=Value.int i t from rx); cases q; exact PySem.W.kia_one PySem.W.kitx_int I.kIn True.intro e (fun z=>nomatch z) h
 | str y=>obtain⟨t,q⟩:=(show ∃t,u=Value.str y t from rx); cases q; exact PySem.W.kia_one PySem.W.kitx_str I.kIn True.intro e (fun z=>nomatch z) h
 | flt y=>obtain⟨t,q⟩:=(show ∃t,u=Value.float y t from rx); cases q; exact PySem.W.kia_one PySem.W.kitx_float I.kIn True.intro e (fun z=>nomatch z) h
 | @lst a xs ea=>
  cases (show u=Value.ref a from rx);obtain⟨_,_,n,_,h1⟩:=(show zO X.prog X.w H s.heap a (.lst xs) from I.hok a _ ea);exact PySem.W.kia_one PySem.W.kitx_list I.kIn ⟨_,h1,rfl⟩ e (fun z=>nomatch z) h
 | @frz a ob xs ea=>
  cases (show u=Value.ref a from rx);obtain⟨_,_,_,n,_,h1⟩:=(show zO X.prog X.w H s.heap a (.frz ob (.lst xs)) from I.hok a _ ea);exact PySem.W.kia_one PySem.W.kitx_list I.kIn ⟨_,h1,rfl⟩ e (fun z=>nomatch z) h
 | @tup a xs ea=>
  cases (show u=Value.ref a from rx);obtain⟨_,_,_,p⟩:=(show zO X.prog X.w H s.heap a (.tup xs) from I.hok a _ ea);obtain⟨o,h1,h2,_⟩:=p;exact PySem.W.kia_one PySem.W.kitx_tuple I.kIn ⟨o,h1,h2⟩ e (fun z=>nomatch z) h
 | @dK a kvs ea=>
  cases (show u=Value.ref a from rx);obtain⟨_,_,vs,_,p⟩:=(show zO X.prog X.w H s.heap a (.dK kvs) from I.hok a _ ea);obtain⟨o,es,ep,h1,h2,_⟩:=p;exact PySem.W.kia_one PySem.W.kitx_dict I.kIn ⟨o,h1,h2.1⟩ e (fun z=>nomatch z) h
 | @dT a kvs ea=>
  cases (show u=Value.ref a from rx);obtain⟨_,_,xs,_,o,es,ep,h1,h2,_⟩:=(show zO X.prog X.w H s.heap a (.dT kvs) from I.hok a _ ea);exact PySem.W.kia_one PySem.W.kitx_dict I.kIn ⟨o,h1,h2.1⟩ e (fun z=>nomatch z) h
 | @ins a C dx fs ea cl ha hn htk hm=>
  cases (show u=Value.ref a from rx);obtain⟨mA,O,_⟩:=zad I.hok ea;obtain⟨od,J,_⟩:=O.look;exact PySem.W.kia_one (PySem.W.kitx_own (cl.get _) cl.hd ha hn htk hm) I.kIn J e (fun z=>nomatch z) h
end
end L2
namespace L2
open PySem PySem.Spec PyProof.Rows
structure Room (k:Nat) (A:Around):Prop where
 hd:A.handled=none
 dp:A.depth+3*k+5<recursionLimit
 un:A.units+16*k+200<cLine
theorem Room.mono {j k:Nat}{A:Around} (r:Room k A) (h:j<=k):Room j A:=⟨r.hd,by have:=r.dp; omega,by have:=r.un; omega⟩
theorem Room.deeper {k:Nat}{A:Around} (r:Room (k+1) A) (env:Env):Room k (A.deeper env):=
 ⟨r.hd,by have:=r.dp; show A.depth+1+3*k+5<_; omega,by have:=r.un; show A.units+3+16*k+200<_; omega⟩
theorem Room.in1 {k:Nat}{A:Around} (r:Room (k+1) A):Room k A.in1:=
 ⟨r.hd,by have:=r.dp; show A.depth+3*k+5<_; omega,by have:=r.un; show A.units+1+16*k+200<_; omega⟩
theorem Room.depth {k:Nat}{A:Around} (r:Room k A):A.depth<recursionLimit:=by have:=r.dp; omega
theorem Room.units {k:Nat}{A:Around} (r:Room k A):A.units+64<cLine:=by have:=r.un; omega
def tNil:TA:=fun _ H Q=>Q [] H
def zbc (ta:TE) (tr:TA):TA:=fun σ H Q=>ta σ H fun x H1=>tr σ H1 fun xs H2=>Q (x::xs) H2
section
variable {X:Cx}{e:Expr}{es:List Expr}{te:TE}{t:TA}{pos:Pos}
theorem ze:PA X [] tNil:=fun _ _ _ _ H Q I h=>Calls.spliced_nil ⟨[],H,I,.nil,h⟩
theorem zc (ha:PE X e te) (hr:PA X es t) (hs:starEach (e::es) X.env=(false,eval e X.env)::starEach es X.env:=by rfl):PA X (e::es) (zbc te t):=by
 intro pos pins s σ H Q I h;rw[hs];show wpAny _ _ (spliced ((false,eval e X.env)::backTo pos (starEach es X.env))) _ _ s;refine Calls.spliced_cons (thn (ha pins s σ H _ I h) fun u s1 ⟨x,H1,I1,r1,q1⟩=>?_);exact thn (hr pos pins s1 σ H1 _ I1 q1) fun us s2 ⟨xs,H2,I2,r2,q2⟩=>⟨x::xs,H2,I2,.cons r1 r2,q2⟩
def tTup (t:TA):TE:=fun σ H Q=>t σ H fun xs H1=>xs.length<=sizeLine/\∀p,H1 p=none->Q (.ref p) (upd H1 p (.tup xs))
def tLst (t:TA):TE:=fun σ H Q=>t σ H fun xs H1=>xs.length<=sizeLine/\∀p,H1 p=none->Q (.ref p) (upd H1 p (.lst xs))
theorem zaF {x1} (h:PA X es t):PE X (.Tuple es x1 pos) (tTup t):=by
 intro pins s σ H Q I hq;refine wpAny_Tuple_spliced (thn (h pos pins s σ H _ I hq) fun us s1 ⟨xs,H1,I1,r,z,q⟩=>⟨by rw[<- r.length]; exact z,?_⟩);have hf:H1 s1.heap.objs.size=none:=I1.hok.fresh (Nat.le_refl _);refine⟨.ref s1.heap.objs.size,upd H1 s1.heap.objs.size (.tup xs),I1.laid (t':=s1.toks) (fun b u e=>Heap.get?_push_of_some _ e) (Nat.le_refl _) ?_,rfl,q _ hf⟩;exact⟨z,us,r,⟨_,Heap.get?_push_size _ rfl,rfl,_,rfl⟩⟩
theorem z0 (h:PA X es t):PE X (.List es pos) (tLst t):=by
 intro pins s σ H Q I hq;refine wpAny_List_spliced (thn (h pos pins s σ H _ I hq) fun us s1 ⟨xs,H1,I1,r,z,q⟩=>⟨by rw[<- r.length]; exact z,?_⟩);have hf:H1 s1.heap.objs.size=none:=I1.hok.fresh (Nat.le_refl _);refine⟨.ref s1.heap.objs.size,upd H1 s1.heap.objs.size (.lst xs),I1.laid (t':=s1.toks) (fun b u e=>Heap.get?_push_of_some _ e) (Nat.le_refl _) ?_,rfl,q _ hf⟩;exact⟨z,us,0,r,Heap.get?_push_size _ rfl⟩
end
abbrev Sp:=List V->Hp->VK->XK->Prop
abbrev CXT:=List Env->Hp->Shared->XK->Value->Shared->Prop
structure Env0 (P:Program) (w:World) (K:PySem.W.Frag) (mg:Str->Option Value) (base:Heap) (A:Around) (outer:List Env) (s:Shared) (H:Hp):Prop where
 frames:A.frames=some outer
 mod:Mod K mg base
 bs:∀b o,base.get? b=some o->s.heap.get? b=some o/\H b=none
 bsz:base.objs.size<=s.heap.objs.size
 funs:s.heap.FunFrames base outer
 frf:∀b∈frs outer,H b=none
 hok:HOk P w H s.heap
 bare:AllBare s.gens
def CE (outer:List Env) (P:Program) (w:World) (H:Hp) (s:Shared) (Q:VK) (u:Value) (s':Shared):Prop:=
 ∃v H',s'.os=s.os/\AllBare s'.gens/\Un (frs outer) [] H H' s.heap s'.heap/\HOk P w H' s'.heap/\RelV v u/\Q v H'
def CR (CX:CXT) (outer:List Env) (P:Program) (w:World) (H:Hp) (s:Shared) (Q:VK) (E:XK) (r:Result) (s':Shared):Prop:=
 match r with
 | .ok (.ret u)=>CE outer P w H s Q u s'
 | .ok _=>False
 | .error e=>CX outer H s E e s'
structure FnOk (P:Program) (w:World) (K:PySem.W.Frag) (mg:Str->Option Value) (base:Heap) (CX:CXT) (k:Nat) (f:Addr) (fd:FuncData) (ps:List Str) (sp:Sp):Prop where
 len:∀vs H Q E,sp vs H Q E->vs.length=ps.length
 run:∀(A:Around) (outer:List Env) (s:Shared) (H:Hp) (args:Args) (us:List Value) (vs:List V) (Q:VK) (E:XK),Room k A->Env0 P w K mg base A outer s H->BindsTo s fd args (ps.zip us)->Vals vs us->sp vs H Q E->
  codeAny (model P w) A (.call (.ref f) args) (CR CX outer P w H s Q E) s
theorem Env0.in1 {P:Program}{w:World}{K:PySem.W.Frag}{mg:Str->Option Value}{base:Heap}{A:Around}{outer:List Env}{s:Shared}{H:Hp} (e:Env0 P w K mg base A outer s H) :
  Env0 P w K mg base A.in1 outer s H:=⟨e.frames,e.mod,e.bs,e.bsz,e.funs,e.frf,e.hok,e.bare⟩
section
variable {X:Cx}{pins:List (Addr×Obj)}{σ:St}{H:Hp}{s s':Shared}
theorem Inv.env0 (I:Inv X pins σ H s):Env0 X.prog X.w X.K X.mg X.base X.A X.stack s H:=
 ⟨I.ok.frames,I.ok.mod,I.bs,Nat.le_trans I.ok.bsz I.sz,I.stack,I.stkFree,I.hok,I.bare⟩
theorem Inv.after {Q:VK}{u:Value} (I:Inv X pins σ H s) (h:CE X.stack X.prog X.w H s Q u s'):EP X pins σ Q u s':=by
 obtain⟨v,H',os,bare,un,hok,r,q⟩:=h;obtain⟨hh,g,d,t,os'⟩:=s';obtain rfl:os'=s.os:=os;exact⟨v,H',I.call (h':=hh) (g':=g) (d':=d) (t':=t) (ch:=[]) un hok bare (fun b z=>absurd z (by simp)),r,q⟩
end
def zlN (sp:Sp) (dvs:List V) (E:XK) (t:TA):TE:=fun σ H Q=>t σ H fun vs H1=>sp (vs++dvs) H1 Q E
def Binds (K:PySem.W.Frag) (fd:FuncData) (ps:List Str) (ds:List Value):Prop:=
 ∀(s:Shared) (us:List Value),K.In s.heap->(us++ds).length=ps.length->BindsTo s fd ⟨us,[]⟩ (ps.zip (us++ds))
theorem Binds.all {K:PySem.W.Frag}{fd:FuncData}{ps:List Str} (h:∀us:List Value,us.length=ps.length->bindArgs fd ⟨us,[]⟩=pure (ps.zip us)):Binds K fd ps []:=fun s us _ hl=>by
 rw[List.append_nil] at hl ⊢;exact .of_eq (h us hl)
def Passes (CX:CXT) (X:Cx) (E:XK):Prop:=∀(pins:List (Addr×Obj)) (σ:St) (H:Hp) (s:Shared) (e:Value) (s':Shared),Inv X pins σ H s->CX X.stack H s E e s'->X.xe e s'
section
variable {X:Cx}{CX:CXT}{k:Nat}{f C:Addr}{fd:FuncData}{ps:List Str}{sp:Sp}{dvs:List V}{ds:List Value}{E:XK}{x m:Str}{p pos apos:Pos}{e o:Expr}{es:List Expr}{ta:TE}{t:TA}
theorem zkC {pins:List (Addr×Obj)}{σ:St}{H:Hp}{s:Shared}{Q:VK}{us:List Value}{vs:List V} (F:FnOk X.prog X.w X.K X.mg X.base CX k f fd ps sp) (hr:Room k X.A) (hb:Binds X.K fd ps ds) (hd:Vals dvs ds) (hx:Passes CX X E)
  (I:Inv X pins σ H s) (r:Vals vs us) (h:sp (vs++dvs) H Q E):wpAny (model X.prog X.w) X.A (call (.ref f) us) (EP X pins σ Q) X.xe s:=by
 have r2:Vals (vs++dvs) (us++ds):=r.append hd;have hl:(us++ds).length=ps.length:=by rw[<- r2.length]; exact F.len _ _ _ _ h
 refine wpAny_call (codeAny_mono (F.run X.A X.stack s H ⟨us,[]⟩ (us++ds) (vs++dvs) Q E hr I.env0 (hb s us I.kIn hl) r2 h) fun r s' hq=>?_);cases r with
 | error e=>exact hx pins σ H s e s' I hq
 | ok fl=>
  cases fl with
  | ret u=>exact I.after hq
  | next=>exact False.elim hq
  | brk=>exact False.elim hq
  | cont=>exact False.elim hq
theorem zl (F:FnOk X.prog X.w X.K X.mg X.base CX k f fd ps sp) (hr:Room k X.A) (hg:Gl X x) (hm:X.mg x=some (.ref f)) (hk:PySem.W.keepIn X.K (.ref f)=true) (hb:Binds X.K fd ps ds) (hd:Vals dvs ds) (hx:Passes CX X E)
  (ha:PA X (e::es) t) (hdb:(x == ("__debug__":Str))=false:=by decide) (he:starEach (e::es) X.env=(false,eval e X.env)::starEach es X.env:=by rfl) (hpl:(backTo pos (starEach es X.env)).any (·.1)=false:=by rfl) :
  PE X (.Call (.Name x p) (e::es) [] pos) (zlN sp dvs E t):=by
 intro pins s σ H Q I h;refine wpAny_Call_Name_kw (zep I hg hm ?_ hdb);refine PySem.W.callWith_K (h₀:=X.base) I.ok.mod.kin hk (thn (ha pos pins s σ H _ I h) fun us s1 ⟨vs,H1,I1,r,q⟩=>⟨I1.kIn,?_⟩) he hpl;exact zkC F hr hb hd hx I1 r q
end
section
variable {X:Cx}{CX:CXT}{k:Nat}{f C:Addr}{fd:FuncData}{ps ks:List Str}{sp:Sp}{E:XK}{x m:Str}{p pos apos kpos:Pos}{e o:Expr}{es:List Expr}{kws:List Keyword}{te ta:TE}{t tk:TA}{nm:Option Str}
variable {g:List Value->List Value->List Value}{gV:List V->List V->List V}
end
structure zt (N P:List Str) (sc:Scope):Prop where
 kind:sc.kind=.function
 co:sc.isCoroutine=false
 gen:sc.isGenerator=false
 nd:N.Nodup
 pre:N.take P.length=P
 par:∀x∈P,sc.names.lookup x=some .local \/ sc.names.lookup x=some .cell
 nofree:∀y∈sc.names,y.2≠.free
theorem zdT {kindOf:Str->Option NameKind}{x:Str}:∀{binds:List (Str×Value)}{m:Str->Option Value},(∀v,(x,v)∉binds)->bindL kindOf binds m x=m x
 | [],_,_=>rfl
 | (n,v)::r,m,h=>by
  unfold bindL;rw[zdT fun w hw=>h w (List.mem_cons_of_mem _ hw)];split
  ·have:x≠n:=by rintro rfl; exact h v List.mem_cons_self
   simp[this]
  ·rfl
theorem zd2 {kindOf:Str->Option NameKind}{x:Str}:∀{binds:List (Str×Value)}{m:Str->Option Value},(∀v,(x,v)∉binds)->bindC kindOf binds m x=m x
 | [],_,_=>rfl
 | (n,v)::r,m,h=>by
  unfold bindC;rw[zd2 fun w hw=>h w (List.mem_cons_of_mem _ hw)];split
  ·rfl
  ·have:x≠n:=by rintro rfl; exact h v List.mem_cons_self
   simp[this]
theorem zd7 {kindOf:Str->Option NameKind}{x:Str}{v:Value}:∀{P:List Str}{vs:List Value}{i:Nat}{m:Str->Option Value},P.Nodup->P[i]?=some x->vs[i]?=some v->kindOf x=some .local->
  bindL kindOf (P.zip vs) m x=some v
 | [],_,_,_,_,h,_,_=>by simp at h
 | _::_,[],_,_,_,_,h,_=>by simp at h
 | p::P,w::vs,0,m,nd,h1,h2,hk=>by
  simp at h1 h2; subst h1; subst h2;show bindL kindOf ((p,w)::P.zip vs) m p=_;unfold bindL;rw[zdT fun v hv=>(List.nodup_cons.mp nd).1 (List.of_mem_zip hv).1,if_pos hk];simp
 | p::P,w::vs,i+1,m,nd,h1,h2,hk=>by
  show bindL kindOf ((p,w)::P.zip vs) m x=_;unfold bindL;exact zd7 (i:=i) (List.nodup_cons.mp nd).2 (by simpa using h1) (by simpa using h2) hk
theorem zed {kindOf:Str->Option NameKind}{x:Str}{v:Value}:∀{P:List Str}{vs:List Value}{i:Nat}{m:Str->Option Value},P.Nodup->P[i]?=some x->vs[i]?=some v->kindOf x≠some .local->
  bindC kindOf (P.zip vs) m x=some v
 | [],_,_,_,_,h,_,_=>by simp at h
 | _::_,[],_,_,_,_,h,_=>by simp at h
 | p::P,w::vs,0,m,nd,h1,h2,hk=>by
  simp at h1 h2; subst h1; subst h2;show bindC kindOf ((p,w)::P.zip vs) m p=_;unfold bindC;rw[zd2 fun v hv=>(List.nodup_cons.mp nd).1 (List.of_mem_zip hv).1,if_neg hk];simp
 | p::P,w::vs,i+1,m,nd,h1,h2,hk=>by
  show bindC kindOf ((p,w)::P.zip vs) m x=_;unfold bindC;exact zed (i:=i) (List.nodup_cons.mp nd).2 (by simpa using h1) (by simpa using h2) hk
def start (N:List Str) (vs:List V):St:=vs.map some++List.replicate (N.length - vs.length) none
def cxOf (CX:CXT) (P:Program) (w:World) (K:PySem.W.Frag) (mg:Str->Option Value) (base:Heap) (N:List Str) (qual:Str) (scope:Scope) (f:Addr) (cd:Value) (A:Around) (outer:List Env) (s:Shared) (H:Hp) (E:XK):Cx where
 prog:=P
 w:=w
 K:=K
 mg:=mg
 base:=base
 A:=A.deeper (envOfC qual scope s.heap.objs.size f cd)
 N:=N
 s₀:=s
 H₀:=H
 env:=envOfC qual scope s.heap.objs.size f cd
 outer:=outer
 stack:=envOfC qual scope s.heap.objs.size f cd::outer
 ex:=[]
 calm:=true
 fn:=fun _=>true
 pn:=[]
 xe:=fun e s'=>wpAny (model P w) (A.deeper (envOfC qual scope s.heap.objs.size f cd)) (leaving (envOfC qual scope s.heap.objs.size f cd) e) (fun _ s''=>CX outer H s E e s'') (fun e' s''=>CX outer H s E e' s'') s'
theorem zfu {sc:Scope}{n:Nat}{x:Str} (h:sc.names.lookup x=some .cell):∃c,(cellsFrom n sc.names []).lookup x=some c:=by
 have q:=PySem.W.cellsFrom_some sc.names n [] (.inl h);exact Option.isSome_iff_exists.mp q
theorem zgS {CX:CXT}{P:Program}{w:World}{K:PySem.W.Frag}{mg:Str->Option Value}{base:Heap}{N ps:List Str}{qual:Str}{scope:Scope}{f:Addr}{cd:Value}{A:Around}{outer:List Env}{s s1:Shared}{H:Hp}{E:XK}{us:List Value}{vs:List V}
  (S:zt N ps scope) (hd:A.handled=none) (e0:Env0 P w K mg base A outer s H) (hl:vs.length=ps.length) (r:Vals vs us)
  (x:InCallC s s.heap.objs.size (bindL (envOfC qual scope s.heap.objs.size f cd).kindOf (ps.zip us) fun _=>none) (cellsFrom (s.heap.objs.size+1) scope.names []) (bindC (envOfC qual scope s.heap.objs.size f cd).kindOf (ps.zip us) fun _=>none) s1) :
  Inv (cxOf CX P w K mg base N qual scope f cd A outer s H E) [] (start N vs) H s1:=by
 have hpl:ps.length<=N.length:=by have:=congrArg List.length S.pre; rw[List.length_take] at this; omega
 obtain⟨h1,tk,rfl,hk⟩:=x.done;have noA:∀b:Addr,b∉(cxOf CX P w K mg base N qual scope f cd A outer s H E).ex:=fun b z=>absurd (show b∈([]:List Addr) from z) (by simp);refine⟨⟨e0.mod,S.kind,rfl,rfl,Nat.le_refl _,fun y z c h1 h2=>?_,fun y hy=>?_,fun y c _ h=>?_,fun _=>hd,Around.frames_deeper e0.frames,.inr ⟨rfl,rfl⟩,fun b z=>absurd z (noA b),e0.bs,e0.bsz,fun b _ _=>noA b,fun b z=>absurd z (noA b),e0.funs,e0.frf⟩,
  rfl,e0.bare,Un.kept hk,⟨_,x.toInCall.ns,fun i y v h1 h2 h3=>?_⟩,fun y c h=>⟨_,x.cell y c h⟩,e0.hok.fresh (Nat.le_refl _),fun y c h=>?_,fun p hp=>absurd (show p∈([]:List (Addr×Obj)) from hp) (by simp),e0.hok.kept hk,?_⟩
 ·exact name_of_addr x.apart (PySem.mem_of_lookup h1) (PySem.mem_of_lookup h2)
 ·have hy:scope.names.lookup y=some .cell \/ scope.names.lookup y=some .free:=hy
  rcases hy with hy | hy
  ·exact zfu hy
  ·exact absurd rfl (S.nofree _ (PySem.mem_of_lookup hy))
 ·exact Nat.le_of_lt (x.above y c (PySem.mem_of_lookup h))
 ·have hi:i<vs.length:=by
   unfold start at h2
   by_cases hi:i<vs.length
   ·exact hi
   ·rw[List.getElem?_append_right (by simpa using hi)] at h2
    rw[List.getElem?_replicate] at h2;split at h2 <;> cases h2
  have ha:vs[i]?=some v:=by
   unfold start at h2;rw[List.getElem?_append_left (by simpa using hi),List.getElem?_map] at h2;cases e:vs[i]? with
   | none=>rw[e] at h2; cases h2
   | some a=>rw[e] at h2; cases h2; rfl
  obtain⟨u,hu,rv⟩:=r.get ha;have hp:ps[i]?=some y:=by
   rw[<- S.pre,List.getElem?_take_of_lt (by omega)]; exact h1
  have ndP:ps.Nodup:=by rw[<- S.pre]; exact S.nd.sublist (List.take_sublist _ _)
  refine⟨u,rv,?_⟩;rcases S.par y (List.mem_of_getElem? hp) with k | k
  ·exact .inl ⟨k,zd7 ndP hp hu k⟩
  ·obtain⟨c,e⟩:=zfu (n:=s.heap.objs.size+1) k
   refine .inr ⟨.inl k,c,e,?_⟩;have q:=x.cell y c e;rw[zed ndP hp hu (by show scope.names.lookup y≠_; rw[k]; decide)] at q;exact q
 ·exact e0.hok.fresh (Nat.le_of_lt (x.above y c (PySem.mem_of_lookup h)))
 ·unfold start
  show _=N.length;rw[List.length_append,List.length_map,List.length_replicate];omega
theorem zlM {CX:CXT}{P:Program}{w:World}{K:PySem.W.Frag}{mg:Str->Option Value}{base:Heap}{k:Nat}{f:Addr}{name qual:Str}{params:Arguments}{body:List Stmt}{scope:Scope}{dV kV doc pm cdv ct oc:Value}{an od:Option Addr}
  {osl:Array (Option Value)} {N ps:List Str} {sp:Sp} (lk:K.lookup f=some ⟨oc,od,.func (PySem.W.fnOf name qual params body scope dV kV doc pm an cdv ct),osl⟩) (hcd:PySem.W.codeIn K cdv qual=true) (S:zt N ps scope)
  (len:∀vs H Q E,sp vs H Q E->vs.length=ps.length)
  (hbody:∀(A:Around) (outer:List Env) (s:Shared) (H:Hp) (vs:List V) (Q:VK) (E:XK),Room k (A.deeper (envOfC qual scope s.heap.objs.size f cdv))->sp vs H Q E->
   ∃t,PSs (cxOf CX P w K mg base N qual scope f cdv A outer s H E) body t/\t { nx:=fun _ H'=>Q .non H',rt:=Q } (start N vs) H) :
  FnOk P w K mg base CX (k+1) f (PySem.W.fnOf name qual params body scope dV kV doc pm an cdv ct) ps sp:=by
 refine⟨len,fun A outer s H args us vs Q E hr e0 hb r hsp=>?_⟩;have hl:=len _ _ _ _ hsp;have KX:K.In s.heap:=e0.mod.kin.keeps fun b o e=>(e0.bs b o e).1;have lim:s.heap.NoLimit:=e0.mod.nolimit.keeps fun b o e=>(e0.bs b o e).1;have hkind:∀y∈ps.zip us,scope.names.lookup y.1=some .local \/ (scope.names.lookup y.1=some .cell/\((cellsFrom (s.heap.objs.size+1) scope.names []).lookup y.1).isSome=true):=fun ⟨n,v⟩ hy=>by
  rcases S.par n (List.of_mem_zip hy).1 with q | q
  ·exact .inl q
  ·exact .inr ⟨q,PySem.W.cellsFrom_some _ _ _ (.inl q)⟩
 refine codeAny_call_function hr.depth (KX _ _ lk) rfl S.co S.gen rfl (PySem.W.codeRec_of KX hcd) (hb _ _ _ _ ?_);refine wpAny_newFunctionEnv_cells S.kind hkind fun env he s1 x=>?_;subst he;refine⟨lim.keeps x.toInCall.keep,codeAny_func ?_⟩;obtain⟨t,ht,hq⟩:=hbody A outer s H vs Q E (hr.deeper _) hsp;have I:Inv (cxOf CX P w K mg base N qual scope f cdv A outer s H E) [] (start N vs) H s1:=zgS S hr.hd e0 hl r x;refine wpAny_mono (ht [] s1 (start N vs) H _ I hq) (fun fl s' hs=>?_) fun e s' hs=>hs;have fin:∀{σ':St} {H':Hp} {v:V} {u:Value},Inv (cxOf CX P w K mg base N qual scope f cdv A outer s H E) [] σ' H' s'->RelV v u->Q v H'->CE outer P w H s Q u s':=
  fun {σ' H' v u} J rv q=>⟨v,H',J.os,J.bare,J.base,J.hok,rv,q⟩
 cases fl with
 | ret u=>
  obtain⟨v,σ',H',J,rv,q⟩:=hs;exact fin J rv q
 | next=>
  obtain⟨σ',H',J,q⟩:=hs;exact fin (v:=V.non) (u:=Value.none) J rfl q
 | brk=>
  obtain⟨_,_,_,q⟩:=hs;exact False.elim q
 | cont=>
  obtain⟨_,_,_,q⟩:=hs;exact False.elim q
end L2
namespace L2
open PySem PySem.Spec PyProof.Rows
section
variable {X:Cx}{x:Str}{p pos:Pos}{e:Expr}{es:List Expr}{t:TA}{id T:String}{r:List V->Hp->VK->Prop}
def tCB (r:List V->Hp->VK->Prop) (t:TA):TE:=fun σ H Q=>t σ H fun vs H1=>r vs H1 Q
theorem zu (hc:zbl X (.builtin id) r) (hg:Gl X x) (hm:X.mg x=none) (hv:bootBuiltins x=some (.builtin id)) (ha:PA X (e::es) t) (hn:x≠"__name__":=by decide) (hdb:(x == ("__debug__":Str))=false:=by decide)
  (he:starEach (e::es) X.env=(false,eval e X.env)::starEach es X.env:=by rfl) (hpl:(backTo pos (starEach es X.env)).any (·.1)=false:=by rfl):PE X (.Call (.Name x p) (e::es) [] pos) (tCB r t):=by
 intro pins s σ H Q I h;refine wpAny_Call_Name_kw (zcD I hg hm hv ?_ hn hdb);exact PyProof.Rows.callWith_builtin1 (thn (ha pos pins s σ H _ I h) fun us s1 ⟨vs,H1,I1,r1,q1⟩=>hc pins s1 σ H1 vs us Q I1 r1 q1) he hpl
theorem zL (hc:zbl X (.type T) r) (hg:Gl X x) (hm:X.mg x=none) (hv:bootBuiltins x=some (.type T)) (ha:PA X (e::es) t) (hn:x≠"__name__":=by decide) (hdb:(x == ("__debug__":Str))=false:=by decide)
  (he:starEach (e::es) X.env=(false,eval e X.env)::starEach es X.env:=by rfl) (hpl:(backTo pos (starEach es X.env)).any (·.1)=false:=by rfl):PE X (.Call (.Name x p) (e::es) [] pos) (tCB r t):=by
 intro pins s σ H Q I h;refine wpAny_Call_Name_kw (zcD I hg hm hv ?_ hn hdb);exact PyProof.Rows.callWith_type1 (thn (ha pos pins s σ H _ I h) fun us s1 ⟨vs,H1,I1,r1,q1⟩=>hc pins s1 σ H1 vs us Q I1 r1 q1) he hpl
end
end L2
namespace HT
open PySem PyProof.Rows
def lexLt:List Int->List Int->Bool
 | [],[]=>false
 | [],_::_=>true
 | _::_,[]=>false
 | x::xs,y::ys=>if x=y then lexLt xs ys else decide (x<y)
theorem zM (x y:Int) (xs ys:List Int):lexLt (x::xs) (y::ys)=if x=y then lexLt xs ys else decide (x<y):=rfl
theorem zbq:lexLt [] []=false:=rfl
theorem zY (y:Int) (ys:List Int):lexLt [] (y::ys)=true:=rfl
theorem zbd (x:Int) (xs:List Int):lexLt (x::xs) []=false:=rfl
theorem zhO (A:Around) (s:Shared) (a:Int) (t:Tok) (c:Int) (u:Tok):∃e,SeqAt.EqAt A s (.int a t) (.int c u) e/\(e=true ↔ a=c):=
 ⟨(a == c),SeqAt.EqAt.int_int a t c u,by simp⟩
theorem ziJ (A:Around) (s:Shared) (a:Int) (t:Tok) (c:Int) (u:Tok) (prog:Program) (w:World) (E:Value->Shared->Prop) (Q:Value->Shared->Prop) (h:Q (.bool (decide (a<c))) s) :
  wpAny (model prog w) A (richCompare .Lt (.int a t) (.int c u)) Q E s:=
 (PyProof.Rows.lt_int h:wpAny (model prog w) A (compareOp .Lt (.int a t) (.int c u)) Q E s)
section
open PySem.SeqAt
open PySem.AutoSeq1 (wpAny_loadPart')
open PySem.MeetsSeq PySem.MeetsSeq2 PySem.MeetsSeq3
theorem zdj (l b:Addr) (items items2:Array Value) (n n2:Nat) (dd dd2:Option Addr) (sl sl2:Array (Option Value)) (ns ms:List Int) (hi:IntsAre items.toList ns) (hj:IntsAre items2.toList ms) :
  Meets (Builtin.«tuple.__lt__» ⟨[.ref l,.ref b],[]⟩)
   (fun _ R s=>s.heap.get? l=some { cls:=.type "tuple",dict:=dd,data:=.seq items n,slots:=sl }/\s.heap.get? b=some { cls:=.type "tuple",dict:=dd2,data:=.seq items2 n2,slots:=sl2 }/\
    R (.ok (.ret (.bool (lexLt ns ms)))) s):=
 .of_wp fun prog w A R s h=>by
  obtain⟨hp,g,d,tk,os⟩:=s; obtain⟨hl,hb,h⟩:=h;have f2:=AutoSeq1.sub_tuple_tuple;have z1:items.size=ns.length:=by rw[<- hi.length]; simp
  have z2:items2.size=ms.length:=by rw[<- hj.length]; simp
  wp_walk using wpAny_loadPart' hl,wpAny_loadPart' hb,wpAny_forIn_list _ (fun rest b s'=>b.1=none/\s'=⟨hp,g,d,tk,os⟩/\∃(vs ws:List Value) (ns' ms':List Int),rest=vs.zip ws/\
   IntsAre vs ns'/\IntsAre ws ms'/\ns'.length+items2.size=ms'.length+items.size/\R (.ok (.ret (.bool (lexLt ns' ms')))) ⟨hp,g,d,tk,os⟩) _
  case turn=>
   rintro⟨y,x⟩ rest b s' ⟨hb',rfl,vs,ws,ns',ms',hz,hvi,hwi,hlen,hR⟩;cases hvi with
   | nil=>rw[List.zip_nil_left] at hz; cases hz
   | cons a t hvi'=>
    cases hwi with
    | nil=>rw[List.zip_nil_right] at hz; cases hz
    | cons c u hwi'=>
     rw[List.zip_cons_cons] at hz;injection hz with hyx hrest
     injection hyx with hy hx
     subst hy hx;rw[zM] at hR;simp only[List.length_cons] at hlen;obtain⟨e,he,hiff⟩:=zhO A.in1 ⟨hp,g,d,tk,os⟩ a t c u;refine wpAny_bind (he prog w _ _ ?_);cases e with
     | true=>
      rw[if_pos (hiff.mp rfl)] at hR
      wp_walk
      exact⟨rfl,rfl,_,_,_,_,hrest,hvi',hwi',by omega,hR⟩
     | false=>
      rw[if_neg (fun q=>absurd (hiff.mpr q) Bool.false_ne_true)] at hR;have hri:=ziJ A.in1 ⟨hp,g,d,tk,os⟩ a t c u prog w
      wp_walk using hri
      exact⟨_,rfl,by simpa using hR⟩
  case fin=>
   rintro⟨b1,b2⟩ s' ⟨hb',rfl,vs,ws,ns',ms',hz,hvi,hwi,hlen,hR⟩;simp only at hb';subst hb';have hv:lexLt ns' ms'=decide (items.size<items2.size):=by
    cases hvi with
    | nil=>
     cases hwi with
     | nil=>
      simp only[List.length_nil] at hlen;rw[zbq];exact (decide_eq_false (by omega)).symm
     | cons c u hw=>
      simp only[List.length_nil,List.length_cons] at hlen;rw[zY];exact (decide_eq_true (by omega)).symm
    | cons a t hv=>
     cases hwi with
     | nil=>
      simp only[List.length_nil,List.length_cons] at hlen;rw[zbd];exact (decide_eq_false (by omega)).symm
     | cons c u hw=>
      rw[List.zip_cons_cons] at hz;cases hz
   rw[hv] at hR
   wp_walk
   exact⟨_,rfl,by simpa[Builtin.Tuple.tupleCompareSizes] using hR⟩
  case h=>
   exact⟨rfl,rfl,items.toList,items2.toList,ns,ms,rfl,hi,hj,by omega,h⟩
end
section
variable {prog:Program}{w:World}{A:Around}{E:Value->Shared->Prop}{s:Shared}
theorem zfO {l b:Addr}{items items2:Array Value}{ns ms:List Int}{Q:Value->Shared->Prop} (hl:IsTup s.heap l items) (hb:IsTup s.heap b items2) (hi:IntsAre items.toList ns) (hj:IntsAre items2.toList ms)
  (hu:A.units<cLine) (h:Q (.bool (lexLt ns ms)) s):wpAny (model prog w) A (compareOp .Lt (.ref l) (.ref b)) Q E s:=by
 obtain⟨⟨cls,dd,data,sl⟩,ho,hc,n,hd⟩:=id hl;obtain⟨⟨cls2,dd2,data2,sl2⟩,ho2,hc2,n2,hd2⟩:=id hb;simp only at hc hd hc2 hd2;subst hc hd hc2 hd2;exact richCompare_meets_room (op:=.Lt) ⟨_,ho,rfl⟩ ⟨_,ho2,rfl⟩ PySem.F.slot_tuple_lt PySem.F.entry_tuple_lt (PySem.F.args_tuple_lt_2 _ _) (zdj l b items items2 n n2 dd dd2 sl sl2 ns ms hi hj)
  ⟨ho,ho2,show Value.bool (lexLt ns ms)≠Value.notImplemented/\Q (.bool (lexLt ns ms)) s from ⟨(fun x=>nomatch x),h⟩⟩ hu
theorem zki {t b:Addr}{vs ws:List Value}{Q:Value->Shared->Prop} (ht:IsTup s.heap t vs.toArray) (hb:IsTup s.heap b ws.toArray) (hv:vs≠[])
  (h1:ws=[]->Q (.ref t) s) (h2:ws≠[]->Q (.ref s.heap.objs.size) { s with heap:=s.heap.push { cls:=.type "tuple",data:=.seq (vs++ws).toArray } })
  (hsz:vs.length+ws.length<=sizeLine):wpAny (model prog w) A (binaryOp .Add (.ref t) (.ref b)) Q E s:=by
 obtain⟨⟨cls,dd,data,sl⟩,ho,hc,n,hd⟩:=id ht;obtain⟨⟨cls2,dd2,data2,sl2⟩,ho2,hc2,n2,hd2⟩:=id hb;simp only at hc hd hc2 hd2;subst hc hd hc2 hd2;have e:vs.toArray++ws.toArray=(vs++ws).toArray:=by simp
 by_cases hw:ws=[]
 ·exact concat_meets ⟨_,ho,rfl⟩ ⟨_,ho2,rfl⟩ noFill_tuple_add seq_tuple_add PySem.F.slot_tuple_add PySem.F.entry_tuple_add (PySem.F.args_tuple_add_2 _ _)
   (tuple_addW1 t b vs.toArray ws.toArray n n2 dd dd2 sl sl2 (by simpa using hv) (by simp[hw])) ⟨ho,ho2,h1 hw⟩
 ·refine concat_meets ⟨_,ho,rfl⟩ ⟨_,ho2,rfl⟩ noFill_tuple_add seq_tuple_add PySem.F.slot_tuple_add PySem.F.entry_tuple_add (PySem.F.args_tuple_add_2 _ _)
   (tuple_addW2 t b vs.toArray ws.toArray n n2 dd dd2 sl sl2 (by simpa using hv) (by simpa using hw) (by rw[List.size_toArray,List.size_toArray]; exact hsz)) ⟨ho,ho2,?_⟩
  rw[e];exact h2 hw
def sIx (n d:Nat):Option Int->Nat
 | none=>d
 | some v=>if v<0 then (v+(n:Int)).toNat else min v.toNat n
theorem zb0 (n d:Nat):sIx n d none=d:=rfl
theorem zcm (n d k:Nat):sIx n d (some (k:Int))=min k n:=by
 show (if (k:Int)<0 then ((k:Int)+(n:Int)).toNat else min (k:Int).toNat n)=min k n;rw[if_neg (by omega),Int.toNat_natCast]
theorem zkQ (n d:Nat) (hd:d<=n) (o:Option Int):sIx n d o<=n:=by
 cases o with
 | none=>exact hd
 | some v=>
  show (if v<0 then (v+(n:Int)).toNat else min v.toNat n)<=n
  by_cases hv:v<0
  ·rw[if_pos hv]; omega
  ·rw[if_neg hv]; exact Nat.min_le_right _ _
theorem zhk (v:Int) (n d:Nat):(if v<0 then max (v+(n:Int)) 0 else min v (n:Int))=((sIx n d (some v):Nat):Int):=by
 show (if v<0 then max (v+(n:Int)) 0 else min v (n:Int))=(((if v<0 then (v+(n:Int)).toNat else min v.toNat n):Nat):Int)
 by_cases hv:v<0
 ·simp only[if_pos hv]; omega
 ·simp only[if_neg hv]; omega
theorem zfD (lo hi:Option Int) (n:Nat):Builtin.Slice.sliceAdjust lo hi 1 (n:Int)=(((sIx n 0 lo:Nat):Int),((sIx n n hi:Nat):Int)):=by
 have h1:¬ ((1:Int)<0):=by omega
 unfold Builtin.Slice.sliceAdjust;simp only[h1,if_false];refine Prod.ext ?_ ?_
 ·cases lo with
  | none=>rfl
  | some v=>exact zhk v n 0
 ·cases hi with
  | none=>rfl
  | some v=>exact zhk v n n
theorem zfF (i j:Nat):Builtin.Slice.slicePlaces (i:Int) (j:Int) 1=j - i:=by
 unfold Builtin.Slice.slicePlaces;have h1:(1:Int) > 0:=by omega
 simp only[h1,if_true,Int.ediv_one];split <;> omega
theorem zcC {v:Value}{o:Option Int}{Q:Option Int->Shared->Prop} (p:IsPart v o) (h:Q o s):wpAny (model prog w) A (Builtin.Slice.slicePartIndex v) Q E s:=by
 cases p with
 | none=>exact slicePart_none h
 | int i t=>exact slicePart_int h
theorem zaP {sl:Addr}{vl vu:Value}{lo hi:Option Int}{n:Nat}{Q:Int×Int×Nat->Shared->Prop} (hs:s.heap.IsSliceOf sl vl vu .none) (pl:IsPart vl lo) (pu:IsPart vu hi)
  (h:Q (((sIx n 0 lo:Nat):Int),1,sIx n n hi - sIx n 0 lo) s):wpAny (model prog w) A (Builtin.Slice.sliceApplied (.ref sl) (pure (n:Int))) Q E s:=by
 obtain⟨os,hos,hcs,hds⟩:=id hs;unfold Builtin.Slice.sliceApplied Builtin.Slice.sliceFields;refine wpAny_bind (wpAny_bind (wpAny_field hos hds (x:=vl) rfl (wpAny_bind (wpAny_field hos hds (x:=vu) rfl (wpAny_bind (wpAny_field hos hds (x:=.none) rfl (wpAny_pure ?_)))))));refine wpAny_bind (slicePart_none ?_);show wpAny _ _ (if ((1:Int) == 0)=true then _ else _) _ _ s;rw[if_neg (by decide)];refine wpAny_bind (zcC pl (wpAny_bind (zcC pu (wpAny_bind (wpAny_pure ?_)))));show wpAny _ _ (match Builtin.Slice.sliceAdjust lo hi 1 (n:Int) with | (lo,hi)=>pure (lo,(1:Int),Builtin.Slice.slicePlaces lo hi 1)) _ _ s;rw[zfD lo hi n];show wpAny _ _ (pure (((sIx n 0 lo:Nat):Int),(1:Int),Builtin.Slice.slicePlaces ((sIx n 0 lo:Nat):Int) ((sIx n n hi:Nat):Int) 1)) _ _ s;rw[zfF];exact wpAny_pure h
theorem zhA (xs:Array Value) (i k:Nat):((List.range k).filterMap fun (m:Nat)=>xs[((i:Int)+(m:Int)*1).toNat]?).toArray=((xs.toList.drop i).take k).toArray:=by
 have e:(fun (m:Nat)=>xs[((i:Int)+(m:Int)*1).toNat]?)=fun m=>xs[i+m]?:=by
  funext m
  have:((i:Int)+(m:Int)*1).toNat=i+m:=by omega
  rw[this]
 rw[e];have:=pick_run xs i k;rw[List.filterMap_map] at this;have e2:((fun x=>xs[x]?) ∘ fun x=>i+x)=fun m=>xs[i+m]?:=rfl;rw[e2] at this;rw[this]
theorem zbI {t sl:Addr}{items:Array Value}{vl vu:Value}{lo hi:Option Int}{Q:Value->Shared->Prop} (ht:IsTup s.heap t items) (hs:s.heap.IsSliceOf sl vl vu .none) (pl:IsPart vl lo) (pu:IsPart vu hi)
  (hw:¬ (sIx items.size 0 lo=0/\sIx items.size items.size hi=items.size))
  (h:Q (.ref s.heap.objs.size) { s with heap:=s.heap.push { cls:=.type "tuple",data:=.seq ((items.toList.drop (sIx items.size 0 lo)).take (sIx items.size items.size hi - sIx items.size 0 lo)).toArray } })
  (hsz:items.size<=sizeLine):wpAny (model prog w) A (getItem (.ref t) (.ref sl)) Q E s:=by
 have htake:sizeOk (.seq ((items.toList.drop (sIx items.size 0 lo)).take (sIx items.size items.size hi - sIx items.size 0 lo)).toArray):=by
  show ((items.toList.drop (sIx items.size 0 lo)).take (sIx items.size items.size hi - sIx items.size 0 lo)).toArray.size<=sizeLine;rw[List.size_toArray,List.length_take,List.length_drop,Array.length_toList];omega
 have hj:sIx items.size items.size hi<=items.size:=zkQ _ _ (Nat.le_refl _) hi;obtain⟨os,hos,hcs,hds⟩:=id hs;have hTs:s.TypeIs (.ref sl) "slice":=⟨os,hos,hcs⟩;unfold getItem
 try with_reducible refine wpAny_holding ?_
 first | refine wpAny_bind (wpAny_pure ?_) | skip
 refine wpAny_bind (wpAny_sequenceKey ht.typeIs (by decide) ?_);refine wpAny_bind (wpAny_callSpecial?_slot (name:=Str.ofString "__getitem__") ht.typeIs PyProof.Rows.slot_tuple_getitem
  (wpAny_call_entry PyProof.Rows.slot_tuple_getitem ht.typeIs entry_tuple_getitem ?_ (args_tuple_getitem _ _)))
 show wpAny _ _ (Builtin.Tuple.tupleItemsOf (.ref t) >>= _) _ _ s;refine wpAny_bind (tupleItemsOf_ ht ?_);refine wpAny_bind (wpAny_typeOf hTs ?_);rw[if_pos (by decide)];refine wpAny_bind (zaP hs pl pu ?_);have hno:¬ ((((sIx items.size 0 lo:Nat):Int) == 0 && (1:Int) == 1 && (sIx items.size items.size hi - sIx items.size 0 lo) == items.size)=true):=by
  intro q;rw[Bool.and_eq_true,Bool.and_eq_true] at q;have q1:((sIx items.size 0 lo:Nat):Int)=0:=eq_of_beq q.1.1;have q2:sIx items.size items.size hi - sIx items.size 0 lo=items.size:=eq_of_beq q.2;exact hw ⟨by omega,by omega⟩
 show wpAny _ _ (if (((sIx items.size 0 lo:Nat):Int) == 0 && (1:Int) == 1 && (sIx items.size items.size hi - sIx items.size 0 lo) == items.size)=true then _ else _) _ _ s;rw[if_neg hno,zhA]
 first
  | exact wpAny_bind (m:=Builtin.Tuple.tupleExact _) (wpAny_newObj_type (wpAny_pure ⟨_,rfl,wpAny_pure h⟩) htake)
  | exact wpAny_bind (m:=Builtin.Tuple.tupleExact _) (wpAny_newObj_type (wpAny_bind (wpAny_pure (wpAny_pure ⟨_,rfl,wpAny_pure h⟩))) htake)
  | exact wpAny_bind (wpAny_bind (m:=Builtin.Tuple.tupleExact _) (wpAny_newObj_type (wpAny_pure (wpAny_pure ⟨_,rfl,wpAny_pure h⟩)) htake))
  | exact wpAny_bind (wpAny_bind (m:=Builtin.Tuple.tupleExact _) (wpAny_newObj_type (wpAny_pure ⟨_,rfl,wpAny_pure h⟩) htake))
end
end HT
namespace L2
open PySem PySem.Spec PyProof.Rows
abbrev TO:=St->Hp->(Option Int->Hp->Prop)->Prop
def PO (X:Cx) (e:Option Expr) (t:TO):Prop:=
 ∀(pins:List (Addr×Obj)) (s:Shared) (σ:St) (H:Hp) (Q:Option Int->Hp->Prop),Inv X pins σ H s->t σ H Q->
  wpAny (model X.prog X.w) X.A (evalPart e X.env) (fun u s'=>∃o H',Inv X pins σ H' s'/\IsPart u o/\Q o H') X.xe s
def zeE:TO:=fun _ H Q=>Q none H
def zkj (t:TE):TO:=fun σ H Q=>t σ H fun x H1=>∃i,x=.int i/\Q (some i) H1
theorem intsAre_of {ns:List Int}:∀{us:List Value},Vals (ns.map V.int) us->IntsAre us ns:=by
 induction ns with
 | nil=>intro us r; rw[List.map_nil] at r; cases r; exact .nil
 | cons n ns ih=>
  intro us r;rw[List.map_cons] at r;cases r with
  | cons r1 r2=>
   obtain⟨t,e⟩:=r1;subst e;exact .cons n t (ih r2)
section
variable {X:Cx}{e:Expr}{te:TE}{lo hi:Option Expr}{tl th:TO}{pos p2:Pos}
theorem zbC:PO X none zeE:=by
 intro pins s σ H Q I h;rw[evalPart_none];exact wpAny_pure ⟨none,H,I,.none,h⟩
theorem zbA (h:PE X e te):PO X (some e) (zkj te):=by
 intro pins s σ H Q I hw;rw[evalPart_some];refine thn (h pins s σ H _ I hw) fun u s1 ⟨x,H1,I1,r1,q1⟩=>?_;obtain⟨i,rfl,q⟩:=q1;obtain⟨t,rfl⟩:=r1;exact⟨some i,H1,I1,.int i t,q⟩
def SlR (X:Cx) (r:V->Option Int->Option Int->Hp->VK->Prop):Prop:=
 ∀(pins:List (Addr×Obj)) (s:Shared) (σ:St) (H:Hp) (x:V) (v vl vu:Value) (lo hi:Option Int) (sl:Addr) (Q:VK),Inv X pins σ H s->RelV x v->s.heap.IsSliceOf sl vl vu .none->IsPart vl lo->IsPart vu hi->r x lo hi H Q->
  ∃T id,typeLookup (.type T) "__getitem__"=pure (some (.builtin id))/\s.TypeIs v T/\wpAny (model X.prog X.w) X.A (getItem v (.ref sl)) (EP X pins σ Q) X.xe s
def tSl (r:V->Option Int->Option Int->Hp->VK->Prop) (te:TE) (tl th:TO):TE:=fun σ H Q=>te σ H fun x H1=>tl σ H1 fun l H2=>th σ H2 fun u H3=>r x l u H3 Q
theorem za5 {r:V->Option Int->Option Int->Hp->VK->Prop} (hr:SlR X r) (he:PE X e te) (hl:PO X lo tl) (hu:PO X hi th):PE X (.Subscript e (.Slice lo hi none p2) pos) (tSl r te tl th):=by
 intro pins s σ H Q I h;refine Subscript_ (thn (he pins s σ H _ I h) fun v s1 ⟨x,H1,I1,r1,q1⟩=>?_);refine wpAny_Slice (thn (hl pins s1 σ H1 _ I1 q1) fun vl s2 ⟨l,H2,I2,pl,q2⟩=>thn (hu pins s2 σ H2 _ I2 q2) fun vu s3 ⟨u,H3,I3,pu,q3⟩=>?_);rw[evalPart_none];refine wpAny_pure ?_;have I4:Inv X pins σ H3 { s3 with heap:=s3.heap.push { cls:=.type "slice",data:=.fields #[vl,vu,.none] } }:=I3.kept (t':=s3.toks) fun b ob q=>Heap.get?_push_of_some _ q;obtain⟨T,id,hT,ht,hg⟩:=hr pins { s3 with heap:=s3.heap.push { cls:=.type "slice",data:=.fields #[vl,vu,.none] } } σ H3 x v vl vu l u s3.heap.objs.size Q I4 r1 (Heap.IsSliceOf.new ..) pl pu q3;show wpAny (model X.prog X.w) X.A (subscriptTail e (.Slice lo hi none p2) v (.ref s3.heap.objs.size)) (EP X pins σ Q) X.xe { s3 with heap:=s3.heap.push { cls:=.type "slice",data:=.fields #[vl,vu,.none] } };exact tail_any (ops:=[.ref s3.heap.objs.size,v]) ht hT hg (by with_unfolding_all rfl)
def cutV (xs:List V) (lo hi:Option Int):List V:=(xs.drop (HT.sIx xs.length 0 lo)).take (HT.sIx xs.length xs.length hi - HT.sIx xs.length 0 lo)
theorem zb3 (xs:List V) (lo hi:Option Int):(cutV xs lo hi).length<=xs.length:=by
 unfold cutV;rw[List.length_take,List.length_drop];omega
def rSlT (K:PySem.W.Frag):V->Option Int->Option Int->Hp->VK->Prop:=fun x lo hi H Q=>∃a xs,x=.ref a/\SqT K H a xs/\
 ¬ (HT.sIx xs.length 0 lo=0/\HT.sIx xs.length xs.length hi=xs.length)/\∀p,H p=none->Q (.ref p) (upd H p (.tup (cutV xs lo hi)))
theorem zjh:SlR X (rSlT X.K):=by
 intro pins s σ H x v vl vu lo hi sl Q I rx hs pl pu h;obtain⟨a,xs,rfl,hx,hw,q⟩:=h;cases rx;obtain⟨its,r,ht,hz⟩:=I.tuple hx;have hlen:its.toArray.size=xs.length:=by rw[List.size_toArray]; exact r.length.symm
 refine⟨"tuple",_,PyProof.Rows.slot_tuple_getitem.lookup,ht.typeIs,?_⟩;refine HT.zbI ht hs pl pu (by rw[hlen]; exact hw) ?_ (by rw[hlen]; exact hz);rw[hlen];refine⟨.ref s.heap.objs.size,_,I.laid (t':=s.toks) (o:=.tup (cutV xs lo hi)) (fun b ob q=>Heap.get?_push_of_some _ q) (Nat.le_refl _) ?_,rfl,q _ (I.hok.fresh (Nat.le_refl _))⟩;exact⟨Nat.le_trans (zb3 xs lo hi) hz,_,(r.drop (HT.sIx xs.length 0 lo)).take (HT.sIx xs.length xs.length hi - HT.sIx xs.length 0 lo),IsTup.new _ _⟩
theorem Vals.nil_iff {xs:List V}{us:List Value} (r:Vals xs us):us=[] ↔ xs=[]:=by
 cases r with
 | nil=>simp
 | cons _ _=>simp
end
end L2
namespace L2
open PySem PySem.Spec PyProof.Rows
def ixN (n:Nat) (i:Int):Option Nat:=if 0<=i then (if i<n then some i.toNat else none) else if -(n:Int)<=i then some (i+n).toNat else none
def atI {α:Type} (xs:List α) (i:Int):Option α:=(ixN xs.length i).bind fun j=>xs[j]?
theorem zgA {n:Nat}{i:Int}{j:Nat} (h:ixN n i=some j):seqIndex? i n=some j/\j<n/\-(n:Int)<=i/\i<n:=by
 unfold ixN at h
 by_cases h0:0<=i
 ·rw[if_pos h0] at h
  by_cases h1:i<n
  ·rw[if_pos h1] at h
   have e:i.toNat=j:=Option.some.inj h;exact⟨by rw[seqIndex_of h0 h1,e],by omega,by omega,h1⟩
  ·rw[if_neg h1] at h; cases h
 ·rw[if_neg h0] at h
  by_cases h1:-(n:Int)<=i
  ·rw[if_pos h1] at h
   have e:(i+n).toNat=j:=Option.some.inj h;exact⟨by rw[seqIndex_neg (by omega) h1,e],by omega,h1,by omega⟩
  ·rw[if_neg h1] at h; cases h
theorem zgu {α:Type}{xs:List α}{i:Int}{v:α} (h:atI xs i=some v):∃j,seqIndex? i xs.length=some j/\xs[j]?=some v/\j<xs.length/\-(xs.length:Int)<=i/\i<xs.length:=by
 unfold atI at h;cases e:ixN xs.length i with
 | none=>rw[e] at h; cases h
 | some j=>
  rw[e] at h;obtain⟨h1,h2,h3,h4⟩:=zgA e;exact⟨j,h1,h,h2,h3,h4⟩
theorem zJ {α:Type}{xs:List α}{j:Nat}{v:α} (h:xs[j]?=some v):atI xs (j:Int)=some v:=by
 have hj:j<xs.length:=(List.getElem?_eq_some_iff.mp h).1;have e:ixN xs.length (j:Int)=some j:=by
  unfold ixN;rw[if_pos (by omega),if_pos (by omega)]; simp
 unfold atI; rw[e]; exact h
theorem zh6 {α:Type} (xs:List α) (v:α):atI (xs++[v]) (-1)=some v:=by
 have hl:(xs++[v]).length=xs.length+1:=by simp
 have e:ixN (xs++[v]).length (-1)=some xs.length:=by
  unfold ixN;rw[hl,if_neg (by decide),if_pos (by omega)]
  congr 1
  omega
 unfold atI;rw[e];show (xs++[v])[xs.length]?=some v;simp
def zjU (b:Expr):Prop:=∀o i,subscripted b false o i=operate [o,i] (getItem o i)
def IxR (X:Cx) (r:R2):Prop:=
 ∀(value slice:Expr) (pins:List (Addr×Obj)) (s:Shared) (σ:St) (H:Hp) (x y:V) (v u:Value) (Q:VK),Inv X pins σ H s->RelV x v->RelV y u->r x y H Q->
  subscripted slice false v u=operate [v,u] (getItem v u)->wpAny (model X.prog X.w) X.A (subscriptTail value slice v u) (EP X pins σ Q) X.xe s
def MtR (X:Cx) (id:String) (r:V->List V->Hp->VK->Prop):Prop:=
 ∀(pins:List (Addr×Obj)) (s:Shared) (σ:St) (H:Hp) (x:V) (xs:List V) (v:Value) (us:List Value) (Q:VK),Inv X pins σ H s->RelV x v->Vals xs us->r x xs H Q->
  wpAny (model X.prog X.w) X.A (call (.builtin id) (v::us)) (EP X pins σ Q) X.xe s
section
variable {X:Cx}{a b:Expr}{ta tb:TE}{pos:Pos}
theorem zai {r:R2} (hr:IxR X r) (ha:PE X a ta) (hb:PE X b tb) (hs:zjU b):PE X (.Subscript a b pos) (tOp r ta tb):=by
 intro pins s σ H Q I h;exact Subscript_ (binT ha hb I h fun v u s2 x y H2 I2 rx ry q=>hr a b pins s2 σ H2 x y v u Q I2 rx ry q (hs _ _))
def rIxL (K:PySem.W.Frag):R2:=fun x y H Q=>∃p xs i v,x=.ref p/\y=.int i/\SqL K H p xs/\atI xs i=some v/\Q v H
def rIxT (K:PySem.W.Frag):R2:=fun x y H Q=>∃p xs i v,x=.ref p/\y=.int i/\SqT K H p xs/\atI xs i=some v/\Q v H
theorem zac:IxR X (rIxL X.K):=by
 intro value slice pins s σ H x y v u Q I rx ry h hs;obtain⟨p,xs,i,z,rfl,rfl,hq,he,q⟩:=h;cases rx;obtain⟨t,rfl⟩:=ry;obtain⟨its,r,pl,hz⟩:=I.list hq;obtain⟨j,h1,h2,h3,h4,h5⟩:=zgu he;obtain⟨w,ew,rw'⟩:=r.get h2;have hl:=r.length;have hn:=line63;have fin:EP X pins σ Q w s:=⟨z,H,I,rw',q⟩
 by_cases h0:0<=i
 ·have hj:i.toNat=j:=by
   rw[seqIndex_of h0 h5] at h1;exact Option.some.inj h1
  exact item_listR pl.isList h0 (by omega) (by rw[hj]; simpa using ew) fin hs
 ·have hj:(i+(its.toArray.size:Int)).toNat=j:=by
   rw[seqIndex_neg (by omega) h4] at h1;rw[List.size_toArray,<- hl];exact Option.some.inj h1
  exact subscriptTail_builtinR (x:=w) pl.isList.typeIs slot_list_getitem.lookup
   (wpAny_getItem_list_neg (Q:=fun r s'=>r=w/\EP X pins σ Q r s') pl.isList (by omega) (by rw[List.size_toArray] <;> omega) (by omega) (by rw[hj]; simpa using ew) ⟨rfl,fin⟩) hs
theorem zaT:IxR X (rIxT X.K):=by
 intro value slice pins s σ H x y v u Q I rx ry h hs;obtain⟨p,xs,i,z,rfl,rfl,hq,he,q⟩:=h;cases rx;obtain⟨t,rfl⟩:=ry;obtain⟨its,r,pl,hz⟩:=I.tuple hq;obtain⟨j,h1,h2,h3,h4,h5⟩:=zgu he;obtain⟨w,ew,rw'⟩:=r.get h2;have hl:=r.length;have hn:=line63;have fin:EP X pins σ Q w s:=⟨z,H,I,rw',q⟩;exact subscriptTail_builtinR (x:=w) pl.typeIs slot_tuple_getitem.lookup
  (getItem_tuple (j:=j) (Q:=fun r s'=>r=w/\EP X pins σ Q r s') pl (by omega) (by omega) (by rw[List.size_toArray,<- hl]; exact h1) (by simpa using ew) ⟨rfl,fin⟩) hs
theorem zfY (its:List Value) (n j:Nat) (u:Value):Obj.mapSeq (·.setIfInBounds j u) { cls:=.type "list",data:=.seq its.toArray n }={ cls:=.type "list",data:=.seq (its.set j u).toArray n }:=by
 simp[Obj.mapSeq]
theorem Inv.lst {pins:List (Addr×Obj)}{σ:St}{H:Hp}{s:Shared}{p:Addr}{xs:List V} (I:Inv X pins σ H s) (h:H p=some (.lst xs)) :
  ∃(its:List Value) (n:Nat),Vals xs its/\s.heap.get? p=some { cls:=.type "list",data:=.seq its.toArray n }/\xs.length<=sizeLine:=by
 obtain⟨z,its,n,r,e⟩:=I.hok p _ h;exact⟨its,n,r,e,z⟩
theorem Inv.lstUpd {pins:List (Addr×Obj)}{σ:St}{H:Hp}{s:Shared}{p:Addr}{xs ys:List V}{its its':List Value}{n n':Nat}{f:Obj->Obj} (I:Inv X pins σ H s) (h:H p=some (.lst xs))
  (ho:s.heap.get? p=some { cls:=.type "list",data:=.seq its.toArray n }) (hf:f { cls:=.type "list",data:=.seq its.toArray n }={ cls:=.type "list",data:=.seq its'.toArray n' }) (r:Vals ys its') (hz:ys.length<=sizeLine) (t:Nat) :
  Inv X pins σ (upd H p (.lst ys)) { s with heap:=s.heap.update p f,toks:=t }:=by
 have e:(s.heap.update p f).get? p=some { cls:=.type "list",data:=.seq its'.toArray n' }:=by
  rw[Heap.get?_update_self f ho (by rw[hf] <;> rfl),hf]
 refine I.write (x:=p) (e:=p) (by rw[h]; trivial) (.inl rfl) (fun b u hb q=>(Heap.get?_update_other _ _ (Ne.symm hb)).trans q) ⟨_,e⟩ ?_;exact⟨hz,its',n',r,e⟩
def zlB:V->V->V->Hp->(Hp->Prop)->Prop:=fun o i v H Q=>∃p xs k j,o=.ref p/\i=.int k/\H p=some (.lst xs)/\ixN xs.length k=some j/\Q (upd H p (.lst (xs.set j v)))
theorem set_list:PSet X zlB:=by
 intro pins s σ H o i v ov iv u Q I ro ri rv h;obtain⟨p,xs,k,j,rfl,rfl,hp,hj,q⟩:=h;cases ro;obtain⟨t,rfl⟩:=ri;obtain⟨its,n,r,ho,hz⟩:=I.lst hp;obtain⟨h1,h2,h3,h4⟩:=zgA hj;have hl:=r.length;have hn:=line63;have I':Inv X pins σ (upd H p (.lst (xs.set j v))) { s with heap:=s.heap.update p (Obj.mapSeq (·.setIfInBounds j u)) }:=
  I.lstUpd hp ho (zfY its n j u) (r.set rv j) (by rw[List.length_set]; exact hz) s.toks
 by_cases h0:0<=k
 ·have hk:k.toNat=j:=by
   rw[seqIndex_of h0 h4] at h1;exact Option.some.inj h1
  exact PySem.W.ki_setAt ho h0 (by omega) (by rw[List.size_toArray,<- hl]; exact h4) (by rw[hk]; exact⟨_,I',q⟩)
 ·have hk:(k+(its.toArray.size:Int)).toNat=j:=by
   rw[seqIndex_neg (by omega) h3] at h1;rw[List.size_toArray,<- hl];exact Option.some.inj h1
  exact PySem.W.ki_setBack ho (by omega) (by rw[List.size_toArray,<- hl]; exact h3) (by omega) (by rw[hk]; exact⟨_,I',q⟩)
theorem zdU (lo hi:Option Int) (n:Nat):(sliceBounds lo hi none n).1=((HT.sIx n 0 lo:Nat):Int)/\(sliceBounds lo hi none n).2.1=((HT.sIx n n hi:Nat):Int)/\(sliceBounds lo hi none n).2.2=1:=by
 refine⟨?_,?_,rfl⟩
 ·cases lo with
  | none=>simp[sliceBounds,HT.sIx]
  | some i=>
   simp only[sliceBounds,HT.sIx,Option.getD_none,show (1:Int) > 0 by decide,if_true]
   by_cases h:i<0
   ·simp only[h,if_true] <;> omega
   ·simp only[h,if_false] <;> omega
 ·cases hi with
  | none=>simp[sliceBounds,HT.sIx]
  | some i=>
   simp only[sliceBounds,HT.sIx,Option.getD_none,show (1:Int) > 0 by decide,if_true]
   by_cases h:i<0
   ·simp only[h,if_true] <;> omega
   ·simp only[h,if_false] <;> omega
theorem zcX (its:List Value) (lo hi:Option Int):slicePick its.toArray lo hi none=((its.drop (HT.sIx its.length 0 lo)).take (HT.sIx its.length its.length hi - HT.sIx its.length 0 lo)).toArray:=by
 obtain⟨h1,h2,h3⟩:=zdU lo hi its.toArray.size;unfold slicePick;rw[h1,h2,h3];simp only[sliceRange_one,pick_run,List.size_toArray] <;> rfl
def rSlL (K:PySem.W.Frag):V->Option Int->Option Int->Hp->VK->Prop:=fun x lo hi H Q=>∃a xs,x=.ref a/\SqL K H a xs/\∀p,H p=none->Q (.ref p) (upd H p (.lst (cutV xs lo hi)))
theorem zjB:SlR X (rSlL X.K):=by
 intro pins s σ H x v vl vu lo hi sl Q I rx hs pl pu h;obtain⟨a,xs,rfl,hx,q⟩:=h;cases rx;obtain⟨its,r,ht,hz⟩:=I.list hx;have hlen:=r.length;refine⟨"list",_,slot_list_getitem.lookup,ht.isList.typeIs,?_⟩;refine wpAny_getItem_list_slice ht.isList hs pl pu .none (by simp) ?_ (by rw[List.size_toArray] <;> omega);rw[zcX,<- hlen];refine⟨.ref s.heap.objs.size,_,I.laid (t':=s.toks) (o:=.lst (cutV xs lo hi)) (fun b ob q=>Heap.get?_push_of_some _ q) (Nat.le_refl _) ?_,rfl,q _ (I.hok.fresh (Nat.le_refl _))⟩;exact⟨Nat.le_trans (zb3 xs lo hi) hz,_,0,(r.drop (HT.sIx xs.length 0 lo)).take (HT.sIx xs.length xs.length hi - HT.sIx xs.length 0 lo),Heap.get?_push_size _ rfl⟩
theorem zn:zbl X (.builtin "len") (fun xs H Q=>∃p ys,xs=[.ref p]/\(SqL X.K H p ys \/ SqT X.K H p ys)/\Q (.int ys.length) H):=by
 intro pins s σ H xs us Q I r h;obtain⟨p,ys,rfl,hq,q⟩:=h;obtain⟨u,rfl,rx⟩:=vals1 r;cases rx;have hn:=line63;rcases hq with hq | hq
 ·obtain⟨its,r',pl,hz⟩:=I.list hq
  have hlen:=r'.length;exact Calls.call_len_list pl.isList (by simp only[List.size_toArray] <;> omega) ⟨.int ys.length,H,I.tok _,⟨s.toks+1,by rw[List.size_toArray,hlen]⟩,q⟩
 ·obtain⟨its,r',pl,hz⟩:=I.tuple hq
  have hlen:=r'.length;exact len_tuple pl (by simp only[List.size_toArray] <;> omega) ⟨.int ys.length,H,I.tok _,⟨s.toks+1,by rw[List.size_toArray,hlen]⟩,q⟩
theorem zaW:zbl X (.type "list") (fun xs H Q=>∃p ys,xs=[.ref p]/\(SqL X.K H p ys \/ SqT X.K H p ys)/\∀l,H l=none->Q (.ref l) (upd H l (.lst ys))):=by
 intro pins s σ H xs us Q I r h;obtain⟨p,ys,rfl,hq,q⟩:=h;obtain⟨u,rfl,rx⟩:=vals1 r;cases rx;have fin:∀(its:List Value),Vals ys its->ys.length<=sizeLine->∀(h':Heap) (c':Nat),(∀b o',s.heap.get? b=some o'->h'.get? b=some o')->
   h'.get? s.heap.objs.size=some { cls:=.type "list",dict:=none,data:=.seq its.toArray c',slots:=#[] }->EP X pins σ Q (.ref s.heap.objs.size) { s with heap:=h' }:=fun its r' hz h' c' kp e=>
  ⟨.ref s.heap.objs.size,_,I.laid (t':=s.toks) kp (Nat.le_refl _) (show zO X.prog X.w _ h' _ (.lst ys) from ⟨hz,its,c',r',e⟩),rfl,q _ (I.hok.fresh (Nat.le_refl _))⟩
 rcases hq with hq | hq
 ·obtain⟨its,r',pl,hz⟩:=I.list hq
  have hlen:=r'.length;obtain⟨o,ho,hc,n,hd⟩:=pl.isList;exact call_list_seq p (.inl rfl) ho hc hd (fun h' c' kp e=>fin its r' hz h' c' kp e) (by simp only[List.size_toArray] <;> omega)
 ·obtain⟨its,r',pl,hz⟩:=I.tuple hq
  have hlen:=r'.length;obtain⟨o,ho,hc,n,hd⟩:=pl;exact call_list_seq p (.inr rfl) ho hc hd (fun h' c' kp e=>fin its r' hz h' c' kp e) (by simp only[List.size_toArray] <;> omega)
theorem zal:zbl X (.type "tuple") (fun xs H Q=>∃p ys,xs=[.ref p]/\((SqL X.K H p ys/\∀l,H l=none->Q (.ref l) (upd H l (.tup ys))) \/ (SqT X.K H p ys/\Q (.ref p) H))):=by
 intro pins s σ H xs us Q I r h;obtain⟨p,ys,rfl,h⟩:=h;obtain⟨u,rfl,rx⟩:=vals1 r;cases rx;rcases h with ⟨hq,q⟩ | ⟨hq,q⟩
 ·obtain⟨its,r',pl,hz⟩:=I.list hq
  have hlen:=r'.length;refine call_tuple_list pl.isList (fun h' kp=>?_) (by simp only[List.size_toArray] <;> omega);have I1:Inv X pins σ H { s with heap:=h' }:=I.kept (t':=s.toks) kp;have I2:Inv X pins σ (upd H h'.objs.size (.tup ys)) { s with heap:=h'.push { cls:=.type "tuple",data:=.seq its.toArray } }:=
   I1.laid (t':=s.toks) (fun b o e=>Heap.get?_push_of_some _ e) (Nat.le_refl _) (show zO X.prog X.w _ _ _ (.tup ys) from ⟨hz,its,r',IsTup.new _ _⟩)
  exact⟨.ref h'.objs.size,_,I2,rfl,q _ (I1.hok.fresh (Nat.le_refl _))⟩
 ·obtain⟨its,r',pl,hz⟩:=I.tuple hq
  exact call_tuple_same pl ⟨.ref p,H,I,rfl,q⟩
def tyV (K:PySem.W.Frag) (T:String) (x:V) (H:Hp):Prop:=match x with
 | .str _=>T="str"
 | .int _=>T="int"
 | .ref p=>(T="list"/\∃xs,SqL K H p xs) \/ (T="tuple"/\∃o,K.lookup p=some o/\o.cls=.type "tuple"/\o.dict=none) \/
   (T="dict"/\((∃kvs,H p=some (.dK kvs)) \/ ∃kvs,H p=some (.dT kvs))) \/ (T="set"/\∃S n,H p=some (.set S n))
 | _=>False
theorem zkW {pins:List (Addr×Obj)}{σ:St}{H:Hp}{s:Shared}{T:String}{x:V}{v:Value} (I:Inv X pins σ H s) (r:RelV x v) (ty:tyV X.K T x H) :
  s.TypeIs v T/\∀a,v=.ref a->∃ob,s.heap.get? a=some ob/\ob.dict=none:=by
 cases x with
 | str z=>
  obtain⟨t,rfl⟩:=r;cases (show T="str" from ty);exact⟨typeIs_str s z t,fun _ e=>nomatch e⟩
 | int i=>
  obtain⟨t,rfl⟩:=r;cases (show T="int" from ty);exact⟨typeIs_int s i t,fun _ e=>nomatch e⟩
 | ref p=>
  cases r;rcases ty with ⟨rfl,xs,hq⟩ | ⟨rfl,o,hk,hc,hd⟩ | ⟨rfl,hk⟩ | ⟨rfl,S,n,hk⟩
  ·obtain⟨its,_,pl,_⟩:=I.list hq
   refine⟨pl.isList.typeIs,fun a e=>?_⟩;cases e;obtain⟨o,n,e,c,hd,_⟩:=pl;exact⟨o,e,hd⟩
  ·refine⟨⟨o,I.kIn p o hk,hc⟩,fun a e=>?_⟩
   cases e;exact⟨o,I.kIn _ o hk,hd⟩
  ·have z:∃o,s.heap.get? p=some o/\o.ExactDict:=by
    rcases hk with ⟨kvs,hk⟩ | ⟨kvs,hk⟩
    ·obtain⟨_,_,_,_,o,_,_,e,ex,_⟩:=I.hok p _ hk
     exact⟨o,e,ex⟩
    ·obtain⟨_,_,_,_,o,_,_,e,ex,_⟩:=I.hok p _ hk
     exact⟨o,e,ex⟩
   obtain⟨o,e,ex⟩:=z;refine⟨⟨o,e,ex.1⟩,fun a e2=>?_⟩;cases e2;exact⟨o,e,ex.2.1⟩
  ·obtain⟨o,_,_,_,e,ex,_⟩:=I.hok p _ hk
   refine⟨⟨o,e,ex.1⟩,fun a e2=>?_⟩;cases e2;exact⟨o,e,ex.2.1⟩
 | _=>exact False.elim ty
def tBM (K:PySem.W.Frag) (T:String) (r:V->List V->Hp->VK->Prop) (to:TE) (t:TA):TE:=fun σ H Q=>to σ H fun x H1=>tyV K T x H1/\t σ H1 fun xs H2=>r x xs H2 Q
variable {o e:Expr}{es:List Expr}{to:TE}{t:TA}{name:Str}{apos cpos:Pos}{T id:String}{r:V->List V->Hp->VK->Prop}
theorem zbR (pa:PlainAttrs T) (slot:Slot T name id) (hty:typeOf (.builtin id)=pure (.type "method_descriptor")) (hm:MtR X id r) (ho:PE X o to) (ha:PA X (e::es) t)
  (hbase:attributeBase o name X.env (eval o X.env)=eval o X.env:=by rfl)
  (hfew:((backTo cpos (starEach (e::es) X.env)).all (fun x=>!x.1) && (backToKw cpos (keywordEach [] X.env)).all (fun x=>x.1.isSome)
   && decide ((e::es).length+([]:List Keyword).length+(if ([]:List Keyword).isEmpty then 0 else 1)<30))=true:=by rfl)
  (hline:(apos.endLine == cpos.line)=true:=by rfl) (hs:starEach (e::es) X.env=(false,eval e X.env)::starEach es X.env:=by rfl) (hplain:(backTo cpos (starEach es X.env)).any (·.1)=false:=by rfl) :
  PE X (.Call (.Attribute o name apos) (e::es) [] cpos) (tBM X.K T r to t):=by
 intro pins s σ H Q I h;refine wpAny_Call_method_late hbase hfew hline rfl (thn (ho pins s σ H _ I h) fun v s1 ⟨x,H1,I1,r1,ty,q1⟩=>?_);obtain⟨h1,h2⟩:=zkW I1 r1 ty;refine⟨T,id,pa,slot,hty,h1,h2,?_⟩;have hA:=ha cpos pins s1 σ H1 _ I1 q1;rw[hs] at hA ⊢;refine Calls.callWith_builtin (by show (false || (backTo cpos (starEach es X.env)).any (·.1))=false; rw[hplain] <;> rfl) (Calls.evalArgs_plain ?_);exact thn hA fun us s2 ⟨vs,H2,I2,r2,q2⟩=>hm pins s2 σ H2 x vs v us Q I2 r1 r2 q2
/- xs.append(e),list.index on a module's tuple .. are MtR facts of 06m -/
end
end L2
namespace L2
open PySem PySem.Spec PyProof.Rows
def MtM (X:Cx) (id:String) (r:V->List V->Hp->VK->Prop):Prop:=
 ∀(pins:List (Addr×Obj)) (s:Shared) (σ:St) (H:Hp) (x:V) (xs:List V) (v:Value) (us:List Value) (Q:VK),Inv X pins σ H s->RelV x v->Vals xs us->r x xs H Q->
  wpAny (model X.prog X.w) X.A (call (.builtin id) (v::us)) (EP X pins σ Q) X.xe s
theorem Vals.one {x:V}{us:List Value} (h:Vals [x] us):∃u,us=[u]/\RelV x u:=by
 cases h with | cons r t=>cases t; exact⟨_,rfl,r⟩
theorem Vals.two {x y:V}{us:List Value} (h:Vals [x,y] us):∃u v,us=[u,v]/\RelV x u/\RelV y v:=by
 cases h with | cons r t=>obtain⟨v,rfl,q⟩:=Vals.one t; exact⟨_,_,rfl,r,q⟩
theorem Vals.zero:∀{us:List Value},Vals [] us->us=[]
 | _,.nil=>rfl
theorem Vals.reverse {xs:List V}{us:List Value} (h:Vals xs us):Vals xs.reverse us.reverse:=by
 induction h with
 | nil=>exact .nil
 | cons r t ih=>rw[List.reverse_cons,List.reverse_cons]; exact Vals.append ih (.cons r .nil)
section
variable {X:Cx}{pins:List (Addr×Obj)}{σ:St}{H:Hp}{s:Shared}{l b:Addr}{xs ys zs:List V}
theorem Inv.lset {its its':List Value}{n:Nat}{f:Array Value->Array Value}{t':Nat} (I:Inv X pins σ H s) (hH:H l=some (.lst xs))
  (e:s.heap.get? l=some { cls:=.type "list",data:=.seq its.toArray n }) (hf:f its.toArray=its'.toArray) (hv:Vals ys its') (hz:ys.length<=sizeLine) :
  Inv X pins σ (upd H l (.lst ys)) { s with heap:=s.heap.update l (Obj.mapSeq f),toks:=t' }:=by
 have q:=PySem.IsL.update e f;rw[hf] at q;refine I.write (x:=l) (e:=l) (by rw[hH]; exact trivial) (.inl rfl) (fun b' u hb hu=>(Heap.get?_update_other s.heap (Obj.mapSeq f) (Ne.symm hb)).trans hu) ⟨_,q⟩ ?_;exact⟨hz,its',_,hv,q⟩
theorem Inv.lnew {its:List Value}{t':Nat} (I:Inv X pins σ H s) (hv:Vals ys its) (hz:ys.length<=sizeLine) :
  Inv X pins σ (upd H s.heap.objs.size (.lst ys)) { s with heap:=s.heap.push { cls:=.type "list",data:=.seq its.toArray },toks:=t' }:=
 I.laid (fun _ _ q=>Heap.get?_push_of_some _ q) (Nat.le_refl _) ⟨hz,its,0,hv,Heap.get?_push_size _ rfl⟩
theorem Inv.fresh (I:Inv X pins σ H s):H s.heap.objs.size=none:=I.hok.fresh (Nat.le_refl _)
theorem Inv.lstM (I:Inv X pins σ H s) (hH:H l=some (.lst xs)):xs.length<=sizeLine/\∃(its:List Value) (n:Nat),Vals xs its/\xs.length=its.length/\s.heap.get? l=some { cls:=.type "list",data:=.seq its.toArray n }:=by
 obtain⟨z,its,n,r,e⟩:=I.hok l _ hH;exact⟨z,its,n,r,r.length,e⟩
end
section
variable {X:Cx}
def zjn:V->List V->Hp->VK->Prop:=fun x vs H Q=>∃l xs y,x=.ref l/\vs=[y]/\H l=some (.lst xs)/\xs.length<sizeLine/\Q .non (upd H l (.lst (xs++[y])))
theorem zR:MtM X "list.append" zjn:=by
 intro pins s σ H x vs v us Q I rx rv h;obtain⟨l,xs,y,rfl,rfl,hH,hz,q⟩:=h;cases rx;obtain⟨u,rfl,ru⟩:=rv.one;obtain⟨z,its,n,r,hl,e⟩:=I.lstM hH;refine call_meets F.slot_list_append ⟨_,e,rfl⟩ F.entry_list_append (F.args_list_append_2 _ _) (PySem.list_append l its.toArray n u (by rw[List.size_toArray]; omega)) ⟨e,?_⟩;refine⟨.non,_,I.lset (its':=its++[u]) hH e (by simp) (r.append (.cons ru .nil)) ?_,rfl,q⟩;rw[List.length_append,List.length_singleton];omega
def rCat:R2:=fun x y H Q=>∃l b xs zs,x=.ref l/\y=.ref b/\H l=some (.lst xs)/\H b=some (.lst zs)/\xs.length+zs.length<=sizeLine/\∀p,H p=none->Q (.ref p) (upd H p (.lst (xs++zs)))
theorem zcw:OpR X (binaryOp .Add) rCat:=by
 intro pins s σ H x y v u Q I rx ry h;obtain⟨l,b,xs,zs,rfl,rfl,hH,hB,hz,q⟩:=h;cases rx;cases ry;obtain⟨z,its,n,r,hl,e⟩:=I.lstM hH;obtain⟨z2,its2,n2,r2,hl2,e2⟩:=I.lstM hB;refine PySem.P.add_list e e2 ?_ (by rw[List.size_toArray,List.size_toArray]; omega);have ea:its.toArray++its2.toArray=(its++its2).toArray:=by simp
 rw[ea];exact⟨.ref _,_,I.lnew (t':=s.toks) (r.append r2) (by rw[List.length_append]; omega),rfl,q _ I.fresh⟩
end
section
variable {prog:Program}{w:World}{A:Around}{E:Value->Shared->Prop}{s:Shared}
set_option maxRecDepth 100000 in
end
section
variable {X:Cx}
end
end L2
namespace L2
open PySem PySem.Spec PyProof.Rows
section
variable {κ:Type} [DecidableEq κ]
def valV (kvs:List (κ×V)) (k:κ):Option V:=(kvs.find? fun kv=>decide (kv.1=k)).map (·.2)
def putK (kvs:List (κ×V)) (k:κ) (v:V):List (κ×V):=
 if (kvs.any fun kv=>decide (kv.1=k))=true then kvs.map (fun kv=>if kv.1=k then (kv.1,v) else kv) else kvs++[(k,v)]
def zlR (kvs:List (κ×V)) (k:κ):List (κ×V):=kvs.filter fun kv=>decide (kv.1≠k)
theorem zc7 {p:κ×V}{r:List (κ×V)}{k:κ} (e:p.1=k):valV (p::r) k=some p.2:=by simp[valV,List.find?_cons,e]
theorem zdg {p:κ×V}{r:List (κ×V)}{k:κ} (e:¬ p.1=k):valV (p::r) k=valV r k:=by simp[valV,List.find?_cons,e]
theorem zcQ (k:κ):∀kvs:List (κ×V),(kvs.any fun kv=>decide (kv.1=k))=(valV kvs k).isSome
 | []=>rfl
 | p::r=>by
  rw[List.any_cons]
  by_cases e:p.1=k
  ·simp only[zc7 e,decide_eq_true e,Bool.true_or,Option.isSome_some]
  ·rw[zdg e,decide_eq_false e,Bool.false_or]; exact zcQ k r
theorem zbe (kvs:List (κ×V)) (k:κ) (v:V):(putK kvs k v).length<=kvs.length+1:=by
 unfold putK;split
 ·rw[List.length_map]; omega
 ·rw[List.length_append,List.length_cons,List.length_nil]; omega
theorem RelO.isSome_eq {o:Option V}{u:Option Value} (r:RelO o u):o.isSome=u.isSome:=by
 cases o with
 | none=>cases u with
  | none=>rfl
  | some _=>exact (show False from r).elim
 | some _=>cases u with
  | none=>exact (show False from r).elim
  | some _=>rfl
theorem RelO.getD {o:Option V}{u:Option Value}{d:V}{d':Value} (r:RelO o u) (rd:RelV d d'):RelV (o.getD d) (u.getD d'):=by
 cases o with
 | none=>cases u with
  | none=>exact rd
  | some _=>exact (show False from r).elim
 | some _=>cases u with
  | none=>exact (show False from r).elim
  | some _=>exact r
theorem KV.val {kvs:List (κ×V)}{vs:List (κ×Value)} (r:KV kvs vs) (k:κ):RelO (valV kvs k) (valueAt vs k):=by
 unfold KV at r
 induction r with
 | nil=>exact True.intro
 | @cons p q ps qs h t ih=>
  obtain⟨h1,h2⟩:=h
  by_cases e:p.1=k
  ·have e':q.1=k:=h1.symm.trans e
   have b:valueAt (q::qs) k=some q.2:=by simp[valueAt,List.find?_cons,e']
   rw[zc7 e,b]; exact h2
  ·have e':¬ q.1=k:=fun z=>e (h1.trans z)
   have b:valueAt (q::qs) k=valueAt qs k:=by simp[valueAt,List.find?_cons,e']
   rw[zdg e,b]; exact ih
theorem KV.any {kvs:List (κ×V)}{vs:List (κ×Value)} (r:KV kvs vs) (k:κ):(kvs.any fun kv=>decide (kv.1=k))=vs.any fun kv=>decide (kv.1=k):=by
 unfold KV at r
 induction r with
 | nil=>rfl
 | cons h t ih=>rw[List.any_cons,List.any_cons,ih,h.1]
theorem KV.repl {kvs:List (κ×V)}{vs:List (κ×Value)} (r:KV kvs vs) (k:κ) {y:V}{u:Value} (ry:RelV y u) :
  KV (kvs.map fun kv=>if kv.1=k then (kv.1,y) else kv) (vs.map fun kv=>if kv.1=k then (kv.1,u) else kv):=by
 unfold KV at r ⊢
 induction r with
 | nil=>exact .nil
 | @cons p q ps qs h t ih=>
  rw[List.map_cons,List.map_cons];refine .cons ?_ ih;obtain⟨h1,h2⟩:=h
  by_cases e:p.1=k
  ·rw[if_pos e,if_pos (h1.symm.trans e)]; exact⟨h1,ry⟩
  ·rw[if_neg e,if_neg (fun z=>e (h1.trans z))]; exact⟨h1,h2⟩
theorem KV.put {kvs:List (κ×V)}{vs:List (κ×Value)} (r:KV kvs vs) (k:κ) {y:V}{u:Value} (ry:RelV y u):KV (putK kvs k y) (stored vs k u):=by
 unfold putK stored;rw[r.any k]
 by_cases e:(vs.any fun kv=>decide (kv.1=k))=true
 ·rw[if_pos e,if_pos e]; exact r.repl k ry
 ·rw[if_neg e,if_neg e]; exact Paired.snoc r ⟨rfl,ry⟩
theorem KV.length {kvs:List (κ×V)}{vs:List (κ×Value)} (r:KV kvs vs):kvs.length=vs.length:=Paired.length r
end
theorem zgI {P:Program}{w:World}{k:Key}{u:Value} (r:RelV (kV k) u):(zv P w).is k u=true:=by
 cases k with
 | inl i=>obtain⟨t,e⟩:=(show ∃t,u=Value.int i t from r); subst e; exact zbh P w i t
 | inr x=>obtain⟨t,e⟩:=(show ∃t,u=Value.str x t from r); subst e; exact zeQ P w x t
theorem zd1 {P:Program}{w:World}:∀{ks:List Key}{us:List Value},Vals (ks.map kV) us->ItemsAre (zv P w) ks us
 | [],_,r=>by rw[List.map_nil] at r; cases r; exact .nil
 | k::ks,_,r=>by
  rw[List.map_cons] at r;cases r with
  | cons h t=>exact .cons (zgI h) (zd1 t)
abbrev KT (H:Hp):List (List Key×V)->List (List Key×Addr×Value)->Prop:=Paired fun p q=>p.1=q.1/\H q.2.1=some (.tup (p.1.map kV))/\RelV p.2 q.2.2
theorem KT.val {H:Hp}{kvs:List (List Key×V)}{xs:List (List Key×Addr×Value)} (r:KT H kvs xs) (k:List Key):RelO (valV kvs k) ((atKey xs k).map (·.2)):=by
 induction r with
 | nil=>exact True.intro
 | @cons p q ps qs h t ih=>
  obtain⟨h1,_,h2⟩:=h
  by_cases e:p.1=k
  ·have e':q.1=k:=h1.symm.trans e
   have b:atKey (q::qs) k=some q.2:=by simp[atKey,List.find?_cons,e']
   rw[zc7 e,b]; exact h2
  ·have e':¬ q.1=k:=fun z=>e (h1.trans z)
   have b:atKey (q::qs) k=atKey qs k:=by simp[atKey,List.find?_cons,e']
   rw[zdg e,b]; exact ih
theorem KT.repl {H:Hp}{kvs:List (List Key×V)}{xs:List (List Key×Addr×Value)} (r:KT H kvs xs) (k:List Key) {y:V}{u:Value} (ry:RelV y u) :
  KT H (kvs.map fun kv=>if kv.1=k then (kv.1,y) else kv) (xs.map (putAt k u)):=by
 induction r with
 | nil=>exact .nil
 | @cons p q ps qs h t ih=>
  rw[List.map_cons,List.map_cons];refine .cons ?_ ih;obtain⟨h1,h2,h3⟩:=h;unfold putAt
  by_cases e:p.1=k
  ·rw[if_pos e,if_pos (h1.symm.trans e)]; exact⟨h1,h2,ry⟩
  ·rw[if_neg e,if_neg (fun z=>e (h1.trans z))]; exact⟨h1,h2,h3⟩
theorem KT.put {H:Hp}{kvs:List (List Key×V)}{xs:List (List Key×Addr×Value)} (r:KT H kvs xs) (k:List Key) {b:Addr}{y:V}{u:Value} (hb:H b=some (.tup (k.map kV))) (ry:RelV y u) :
  KT H (putK kvs k y) (storedH xs k b u):=by
 have e:(kvs.any fun kv=>decide (kv.1=k))=(atKey xs k).isSome:=by
  rw[zcQ,(r.val k).isSome_eq,Option.isSome_map]
 unfold putK storedH;rw[e]
 by_cases q:(atKey xs k).isSome=true
 ·rw[if_pos q,if_pos q]; exact r.repl k ry
 ·rw[if_neg q,if_neg q]; exact Paired.snoc r ⟨rfl,hb,ry⟩
theorem KT.keeps {H H':Hp}{kvs:List (List Key×V)}{xs:List (List Key×Addr×Value)} (r:KT H kvs xs) (ht:∀b ys,H b=some (.tup ys)->H' b=some (.tup ys)):KT H' kvs xs:=
 Paired.mapP r fun _ _ z=>⟨z.1,ht _ _ z.2.1,z.2.2⟩
section
variable {P:Program}{w:World}{H:Hp}{h:Heap}{a:Addr}
theorem zkE {u:HO} (ok:HOk P w H h) (e:Rd H a u):zO P w H h a u:=e.ok ok
theorem zfJ {kvs:List (Key×V)} (ok:HOk P w H h) (e:Rd H a (.dK kvs)):kvs.length<=sizeLine/\(a == sysModules)=false/\∃vs,KV kvs vs/\h.DictOf (zv P w) a vs:=
 show zO P w H h a (.dK kvs) from zkE ok e
theorem zlp {kvs:List (Key×V)} (ok:HOk P w H h) (e:H a=some (.dK kvs)):kvs.length<=sizeLine/\(a == sysModules)=false/\∃vs,KV kvs vs/\h.DictOf (zv P w) a vs:=zfJ ok (.inl e)
theorem zcE {ks:List Key} (ok:HOk P w H h) (e:H a=some (.tup (ks.map kV))):(tupleKind (zv P w)).is h ks a:=by
 obtain⟨_,its,r,o,h1,h2,n,h3⟩:=(show zO P w H h a (.tup (ks.map kV)) from ok a _ e);exact⟨o,its.toArray,n,h1,h2,h3,by simpa using zd1 r⟩
theorem zfy {kvs:List (List Key×V)} (ok:HOk P w H h) (e:Rd H a (.dT kvs)):kvs.length<=sizeLine/\(a == sysModules)=false/\
  ∃xs,KT H kvs xs/\h.DictOfH (tupleKind (zv P w)) a xs:=by
 obtain⟨z,y,xs,r,o,es,ep,h1,h2,h3,h4,h5⟩:=(show zO P w H h a (.dT kvs) from zkE ok e);refine⟨z,y,xs,r,o,es,ep,h1,h2,h3,h4,fun x hx=>?_,h5⟩;have all:∀{l:List (List Key×V)} {m:List (List Key×Addr×Value)},KT H l m->∀x∈m,(tupleKind (zv P w)).is h x.1 x.2.1:=by
  intro l m q
  induction q with
  | nil=>intro x hx; exact nomatch hx
  | @cons p q ps qs hq t ih=>
   intro x hx;rcases List.mem_cons.mp hx with e | hx
   ·subst e
    exact zcE ok (by rw[<- hq.1]; exact hq.2.1)
   ·exact ih x hx
 exact all r x hx
theorem zlh {kvs:List (List Key×V)} (ok:HOk P w H h) (e:H a=some (.dT kvs)):kvs.length<=sizeLine/\(a == sysModules)=false/\
  ∃xs,KT H kvs xs/\h.DictOfH (tupleKind (zv P w)) a xs:=zfy ok (.inl e)
end
def DGet (H:Hp) (a:Addr) (y:V) (r:Option V):Prop:=
 (∃kvs k,Rd H a (.dK kvs)/\y=kV k/\r=valV kvs k) \/ ∃kvs k b,Rd H a (.dT kvs)/\y=.ref b/\H b=some (.tup (k.map kV))/\r=valV kvs k
def DPut (H:Hp) (a:Addr) (y v:V) (H':Hp):Prop:=
 (∃kvs k,H a=some (.dK kvs)/\y=kV k/\kvs.length<sizeLine/\H'=upd H a (.dK (putK kvs k v))) \/
 ∃kvs k b,H a=some (.dT kvs)/\y=.ref b/\H b=some (.tup (k.map kV))/\kvs.length<sizeLine/\H'=upd H a (.dT (putK kvs k v))
theorem DGet.k {H:Hp}{a:Addr}{kvs:List (Key×V)}{k:Key} (e:H a=some (.dK kvs)):DGet H a (kV k) (valV kvs k):=.inl ⟨kvs,k,.inl e,rfl,rfl⟩
theorem DGet.t {H:Hp}{a b:Addr}{kvs:List (List Key×V)}{k:List Key} (e:H a=some (.dT kvs)) (eb:H b=some (.tup (k.map kV))):DGet H a (.ref b) (valV kvs k):=.inr ⟨kvs,k,b,.inl e,rfl,eb,rfl⟩
theorem DPut.k {H:Hp}{a:Addr}{kvs:List (Key×V)}{k:Key}{v:V} (e:H a=some (.dK kvs)) (hl:kvs.length<sizeLine):DPut H a (kV k) v (upd H a (.dK (putK kvs k v))):=.inl ⟨kvs,k,e,rfl,hl,rfl⟩
theorem DPut.t {H:Hp}{a b:Addr}{kvs:List (List Key×V)}{k:List Key}{v:V} (e:H a=some (.dT kvs)) (eb:H b=some (.tup (k.map kV))) (hl:kvs.length<sizeLine) :
  DPut H a (.ref b) v (upd H a (.dT (putK kvs k v))):=.inr ⟨kvs,k,b,e,rfl,eb,hl,rfl⟩
section
variable {X:Cx}{pins:List (Addr×Obj)}{σ:St}{H:Hp}{s:Shared}{a:Addr}{y v:V}{u r:Value}{o:Option V}{A:Around}{E:Value->Shared->Prop}
theorem Inv.big (I:Inv X pins σ H s):sysModules<s.heap.objs.size:=by
 have h:mainGlobals<s.heap.objs.size:=(I.mod.glob.keeps I.bk).lt;exact Nat.lt_trans (by decide) h
theorem zhb {Q:Value->Shared->Prop} (hu:A.units+1<cLine) (I:Inv X pins σ H s) (g:DGet H a y (some v)) (ry:RelV y u) (h:∀w' s',Inv X pins σ H s'->RelV v w'->Q w' s') :
  wpAny (model X.prog X.w) A (getItem (.ref a) u) Q E s:=by
 rcases g with ⟨kvs,k,e,ey,l⟩ | ⟨kvs,k,b,e,ey,eb,l⟩
 ·subst ey
  obtain⟨z,hd,vs,rel,dd⟩:=zfJ I.hok e;obtain⟨w',hw,rw'⟩:=RelO.some_of (v:=v) (o:=valueAt vs k) (by rw[l]; exact rel.val k);exact wpAny_getItem_of (zgI ry) dd.mapOf hw (h w' _ (I.tok _) rw')
 ·subst ey
  cases (show u=Value.ref b from ry);obtain⟨z,hd,xs,rel,dd⟩:=zfy I.hok e;obtain⟨w',hw,rw'⟩:=RelO.some_of (v:=v) (o:=(atKey xs k).map (·.2)) (by rw[l]; exact rel.val k);obtain⟨p,hp,hp2⟩:=Option.map_eq_some_iff.mp hw;refine wpAny_getItem_heap (tupleKind_room_in1 hu) (zcE I.hok eb) dd hp ?_;rw[hp2];exact h w' _ (I.tok _) rw'
theorem zkh {Q:Value->Shared->Prop} (hu:A.units+1<cLine) (I:Inv X pins σ H s) (g:DGet H a y o) (ry:RelV y u) (h:∀s',Inv X pins σ H s'->Q (.bool (!o.isSome)) s') :
  wpAny (model X.prog X.w) A (compareOp .NotIn u (.ref a)) Q E s:=by
 rcases g with ⟨kvs,k,e,ey,l⟩ | ⟨kvs,k,b,e,ey,eb,l⟩
 ·subst ey
  obtain⟨z,hd,vs,rel,dd⟩:=zfJ I.hok e;refine wpAny_notIn_of (zgI ry) hd dd.mapOf ?_;rw[<- (rel.val k).isSome_eq,<- l];exact h _ (I.tok _)
 ·subst ey
  cases (show u=Value.ref b from ry);obtain⟨z,hd,xs,rel,dd⟩:=zfy I.hok e;refine wpAny_notIn_heap (tupleKind_room_in1 hu) (zcE I.hok eb) hd dd ?_;have q:=(rel.val k).isSome_eq;rw[Option.isSome_map] at q;rw[<- q,<- l];exact h _ (I.tok _)
theorem zeK {h':Heap}{t':Nat}{ob:HO} (I:Inv X pins σ H s) (mu:Mut (H a)) (hs:Heap.SameBut a s.heap h') (he:∃q,h'.get? a=some q) (new:zO X.prog X.w (upd H a ob) h' a ob) :
  Inv X pins σ (upd H a ob) { s with heap:=h',toks:=t' }:=
 I.write (x:=a) (e:=a) mu (.inl rfl) (fun b q hb z=>(hs.2 b hb).trans z) he new
theorem dk_new {P:Program}{w:World}{H':Hp}{h':Heap}{kvs:List (Key×V)}{vs:List (Key×Value)} (z:kvs.length<=sizeLine) (hd:(a == sysModules)=false) (rel:KV kvs vs) (dd:h'.DictOf (zv P w) a vs) :
  zO P w H' h' a (.dK kvs):=⟨z,hd,vs,rel,dd⟩
theorem zg0 {H':Hp}{Q:Unit->Shared->Prop} (hu:A.units+1<cLine) (I:Inv X pins σ H s) (g:DPut H a y v H') (ry:RelV y u) (rv:RelV v r) (h:∀s',Inv X pins σ H' s'->Q () s') :
  wpAny (model X.prog X.w) A (setItem (.ref a) u r) Q E s:=by
 rcases g with ⟨kvs,k,e,ey,l,eH⟩ | ⟨kvs,k,b,e,ey,eb,l,eH⟩
 ·subst ey eH
  obtain⟨z,hd,vs,rel,dd⟩:=zlp I.hok e;have hz:vs.length<=sizeLine:=by rw[<- rel.length]; exact z
  have hl:(putK kvs k v).length<=sizeLine:=by have:=zbe kvs k v; omega
  refine wpAny_setItem_pairs (hsz:=hz) (zgI ry) dd fun h' dd' hs=>h _ ?_;have he:∃q,h'.get? a=some q:=let ⟨q,_,_,hq,_⟩:=dd'; ⟨q,hq⟩;exact zeK I (by rw[e]; exact True.intro) hs he (dk_new hl hd (rel.put k rv) dd')
 ·subst ey eH
  cases (show u=Value.ref b from ry);obtain⟨z,hd,xs,rel,dd⟩:=zlh I.hok e;have hz:xs.length<=sizeLine:=by rw[<- Paired.length rel]; exact z
  have hl:(putK kvs k v).length<=sizeLine:=by have:=zbe kvs k v; omega
  refine wpAny_setItem_heap (hsz:=hz) (tupleKind_room_in1 hu) (zcE I.hok eb) dd fun h' dd' hs=>h _ ?_;obtain⟨q,es,ep,hq,h2,h3,h4,_,h5⟩:=dd';refine zeK I (by rw[e]; exact True.intro) hs ⟨q,hq⟩ ⟨hl,hd,_,(rel.put k eb rv).keeps fun c ys ec=>?_,q,es,ep,hq,h2,h3,h4,h5⟩;rw[upd_ne (zaA ec e (fun z=>nomatch z))];exact ec
end
section
variable {X:Cx}{pins:List (Addr×Obj)}{σ:St}{H:Hp}{s:Shared}{a:Addr}{kvs:List (Key×V)}{k:Key}{u:Value}{A:Around}{E:Value->Shared->Prop}
end
def NoSl (i:Expr):Prop:=∀ov iv,subscripted i false ov iv=operate [ov,iv] (getItem ov iv)
theorem zjq {prog:Program}{w:World}{A:Around}{E:Value->Shared->Prop}{s:Shared}{env:Env}{value slice:Expr}{pos:Pos}{T id:String}{Q:Value->Shared->Prop}
  (hl:typeLookup (.type T) "__getitem__"=pure (some (.builtin id))) (hs:NoSl slice)
  (h:wpAny (model prog w) A (eval value env) (fun o s₁=>wpAny (model prog w) A (eval slice env) (fun i s₂=>s₂.TypeIs o T/\wpAny (model prog w) A (getItem o i) Q E s₂) E s₁) E s) :
  wpAny (model prog w) A (eval (.Subscript value slice pos) env) Q E s:=by
 refine Subscript_ (wpAny_mono h (fun o s₁ h₁=>wpAny_mono h₁ (fun i s₂ h₂=>?_) fun _ _ x=>x) fun _ _ x=>x);obtain⟨hT,h₂⟩:=h₂;unfold subscriptTail;refine wpAny_bind ?_;rw[getitemInPython_of_ne hT.not_modules];refine wpAny_bind (wpAny_specialOf hT hl ?_);have fin:wpAny (model prog w) A (subscripted slice false o i) (fun r s₃=>wpAny (model prog w) A (letTemporaryGo value o r >>= fun _=>pure r) Q E s₃) E s₂:=by
  rw[hs o i];exact wpAny_operating (wpAny_mono h₂ (fun r s₃ h₃=>wpAny_bind (wpAny_letTemporaryGo (wpAny_pure h₃))) fun _ _ x=>x)
 first
  | exact wpAny_pure (wpAny_bind fin)
  | exact wpAny_bind (wpAny_pure (wpAny_bind fin))
  | exact wpAny_bind fin
theorem zeA {X:Cx}{pins:List (Addr×Obj)}{σ:St}{H:Hp}{s:Shared}{a:Addr}{y:V}{o:Option V} (I:Inv X pins σ H s) (g:DGet H a y o):s.TypeIs (.ref a) "dict":=by
 rcases g with ⟨kvs,k,e,_,_⟩ | ⟨kvs,k,b,e,_,_,_⟩
 ·obtain⟨_,_,vs,_,dd⟩:=zfJ I.hok e
  exact dd.typeIs
 ·obtain⟨_,_,xs,_,dd⟩:=zfy I.hok e
  exact dd.typeIs
def zkR (td ty:TE):TE:=fun σ H Q=>td σ H fun x H1=>ty σ H1 fun y H2=>∃a v,x=.ref a/\DGet H2 a y (some v)/\Q v H2
def zdc (ty td:TE):TE:=fun σ H Q=>ty σ H fun y H1=>td σ H1 fun x H2=>∃a o,x=.ref a/\DGet H2 a y o/\Q (.bl (!o.isSome)) H2
def zlJ (td ty tv:TE):TS:=fun D σ H=>tv σ H fun v H1=>td σ H1 fun x H2=>ty σ H2 fun y H3=>∃a H4,x=.ref a/\DPut H3 a y v H4/\D.nx σ H4
section
variable {X:Cx}{o i e value:Expr}{pos pos' tpos:Pos}{td ty tv:TE}
theorem zjM (hu:X.A.units+1<cLine) (ho:PE X o td) (hi:PE X i ty) (hs:NoSl i):PE X (.Subscript o i pos) (zkR td ty):=by
 intro pins s σ H Q I h;refine zjq PySem.F.slot_dict_getitem.lookup hs (thn (ho pins s σ H _ I h) fun u s1 ⟨x,H1,I1,rx,q1⟩=>thn (hi pins s1 σ H1 _ I1 q1) fun iv s2 ⟨y,H2,I2,ry,a,v,ex,g,q2⟩=>?_);subst ex;obtain rfl:u=Value.ref a:=rx;exact⟨zeA I2 g,zhb hu I2 g ry fun w' s3 I3 rw'=>⟨v,H2,I3,rw',q2⟩⟩
theorem zcb (hu:X.A.units+1<cLine) (hi:PE X i ty) (ho:PE X o td):PC X .NotIn i o (zdc ty td):=by
 intro pins s σ H Q I h;refine thn (hi pins s σ H _ I h) fun iv s1 ⟨y,H1,I1,ry,q1⟩=>thn (ho pins s1 σ H1 _ I1 q1) fun u s2 ⟨x,H2,I2,rx,a,ov,ex,g,q2⟩=>?_;subst ex;obtain rfl:u=Value.ref a:=rx;exact zkh hu I2 g ry fun s3 I3=>⟨.bl (!ov.isSome),H2,I3,rfl,q2⟩
theorem zct (hu:X.A.units+1<cLine) (ho:PE X o td) (hi:PE X i ty) (hv:PE X value tv) (hs:swapsWith value (some (.Subscript o i pos')) pos.line X.env=pure false) :
  PS X (.Assign [.Subscript o i pos'] value pos) (zlJ td ty tv):=by
 intro pins s σ H D I h;refine wpAny_Assign_Subscript (thn (hv pins s σ H _ I h) fun r s1 ⟨v,H1,I1,rv,q1⟩=>thn (ho pins s1 σ H1 _ I1 q1) fun u s2 ⟨x,H2,I2,rx,q2⟩=>thn (hi pins s2 σ H2 _ I2 q2) fun iv s3 ⟨y,H3,I3,ry,a,H4,ex,g,q3⟩=>?_) hs;subst ex;obtain rfl:u=Value.ref a:=rx;exact zg0 hu I3 g ry rv fun s4 I4=>⟨σ,H4,I4,q3⟩
end
theorem zhN {P:Program}{w:World}{H:Hp} (h:Heap) (hb:sysModules<h.objs.size):zO P w H (h.push { cls:=.type "dict",data:=.dict #[] }) h.objs.size (.dK []):=
 ⟨Nat.zero_le _,beq_eq_false_iff_ne.mpr (Ne.symm (Nat.ne_of_lt hb)),[],.nil,Heap.DictOf.new h⟩
theorem zhX {P:Program}{w:World}{H:Hp} (h:Heap) (hb:sysModules<h.objs.size):zO P w H (h.push { cls:=.type "dict",data:=.dict #[] }) h.objs.size (.dT []):=
 ⟨Nat.zero_le _,beq_eq_false_iff_ne.mpr (Ne.symm (Nat.ne_of_lt hb)),[],.nil,_,#[],0,Heap.get?_push_size _ rfl,⟨rfl,rfl,rfl⟩,rfl,rfl,List.nodup_nil⟩
def zk0:TE:=fun _ H Q=>∀p,H p=none->Q (.ref p) (upd H p (.dK []))
def zkU:TE:=fun _ H Q=>∀p,H p=none->Q (.ref p) (upd H p (.dT []))
section
variable {X:Cx}{pos:Pos}
theorem zhB:PE X (.Dict [] [] pos) zk0:=fun pins s σ H Q I h=>
 wpAny_Dict_empty ⟨.ref s.heap.objs.size,_,I.laid (a:=s.heap.objs.size) (o:=.dK []) (t':=s.toks) (fun _ _ q=>Heap.get?_push_of_some _ q) (Nat.le_refl _) (zhN s.heap I.big),rfl,h _ (I.hok.fresh (Nat.le_refl _))⟩
theorem zbo:PE X (.Dict [] [] pos) zkU:=fun pins s σ H Q I h=>
 wpAny_Dict_empty ⟨.ref s.heap.objs.size,_,I.laid (a:=s.heap.objs.size) (o:=.dT []) (t':=s.toks) (fun _ _ q=>Heap.get?_push_of_some _ q) (Nat.le_refl _) (zhX s.heap I.big),rfl,h _ (I.hok.fresh (Nat.le_refl _))⟩
end
structure M1 (X:Cx) (o:Expr) (m:Str) (apos:Pos) (e:Expr) (cpos:Pos):Prop where
 base:attributeBase o m X.env (eval o X.env)=eval o X.env
 few:((backTo cpos (starEach [e] X.env)).all (fun x=>!x.1) && (backToKw cpos (keywordEach [] X.env)).all (fun x=>x.1.isSome)
  && decide (([e]:List Expr).length+([]:List Keyword).length+(if ([]:List Keyword).isEmpty then 0 else 1)<30))=true
 line:(apos.endLine == cpos.line)=true
 trees:backTo cpos (starEach [e] X.env)=[(false,eval e X.env)]
structure M2 (X:Cx) (o:Expr) (m:Str) (apos:Pos) (e f:Expr) (cpos:Pos):Prop where
 base:attributeBase o m X.env (eval o X.env)=eval o X.env
 few:((backTo cpos (starEach [e,f] X.env)).all (fun x=>!x.1) && (backToKw cpos (keywordEach [] X.env)).all (fun x=>x.1.isSome)
  && decide (([e,f]:List Expr).length+([]:List Keyword).length+(if ([]:List Keyword).isEmpty then 0 else 1)<30))=true
 line:(apos.endLine == cpos.line)=true
 trees:backTo cpos (starEach [e,f] X.env)=[(false,eval e X.env),(false,eval f X.env)]
def IsD (H:Hp) (a:Addr):Prop:=(∃kvs,Rd H a (.dK kvs)) \/ ∃kvs,Rd H a (.dT kvs)
theorem zkv {X:Cx}{pins:List (Addr×Obj)}{σ:St}{H:Hp}{s:Shared}{a:Addr} (I:Inv X pins σ H s) (d:IsD H a) :
  s.TypeIs (.ref a) "dict"/\(∀b,Value.ref a=.ref b->∃ob,s.heap.get? b=some ob/\ob.dict=none)/\(a == sysModules)=false:=by
 rcases d with ⟨kvs,e⟩ | ⟨kvs,e⟩
 ·obtain⟨_,hd,vs,_,dd⟩:=zfJ I.hok e
  refine⟨dd.typeIs,fun b q=>?_,hd⟩;cases q;obtain⟨ob,_,_,h1,h2,_⟩:=dd;exact⟨ob,h1,h2.2.1⟩
 ·obtain⟨_,hd,xs,_,dd⟩:=zfy I.hok e
  refine⟨dd.typeIs,fun b q=>?_,hd⟩;cases q;obtain⟨ob,_,_,h1,h2,_⟩:=dd;exact⟨ob,h1,h2.2.1⟩
section
variable {X:Cx}{pins:List (Addr×Obj)}{σ:St}{H:Hp}{s:Shared}{a:Addr}{y d:V}{u r:Value}{o:Option V}{A:Around}{E:Value->Shared->Prop}
theorem zkJ {Q:Value->Shared->Prop} (hu:A.units+1<cLine) (I:Inv X pins σ H s) (g:DGet H a y o) (ry:RelV y u) (rd:RelV d r) (h:∀w' s',Inv X pins σ H s'->RelV (o.getD d) w'->Q w' s') :
  wpAny (model X.prog X.w) A (call (.builtin "dict.get") [.ref a,u,r]) Q E s:=by
 rcases g with ⟨kvs,k,e,ey,l⟩ | ⟨kvs,k,b,e,ey,eb,l⟩
 ·subst ey
  obtain⟨z,hd,vs,rel,dd⟩:=zfJ I.hok e;refine call_meetsIn PySem.F.slot_dict_get dd.typeIs PySem.F.entry_dict_get (PySem.F.args_dict_get_3 _ _ _) (meets_dict_get_default (zv X.prog X.w) a (zgI ry) hd r) ⟨_,dd.mapOf,h _ _ (I.tok _) ?_⟩;rw[l];exact (rel.val k).getD rd
 ·subst ey
  cases (show u=Value.ref b from ry);obtain⟨z,hd,xs,rel,dd⟩:=zfy I.hok e;refine call_meetsIn PySem.F.slot_dict_get dd.typeIs PySem.F.entry_dict_get (PySem.F.args_dict_get_3 _ _ _) (meetsH_dict_get_default (tupleKind (zv X.prog X.w)) a b hd r) ⟨tupleKind_room_in1 hu,k,xs,zcE I.hok eb,dd,h _ _ (I.tok _) ?_⟩;rw[l];exact (rel.val k).getD rd
end
def zi4 (td ty tx:TE):TE:=fun σ H Q=>td σ H fun x H1=>∃a,x=.ref a/\IsD H1 a/\ty σ H1 fun y H2=>tx σ H2 fun z H3=>∃o,DGet H3 a y o/\Q (o.getD z) H3
section
variable {X:Cx}{o e f:Expr}{apos cpos:Pos}{td ty tx:TE}
theorem zdl (hu:X.A.units+1<cLine) (ho:PE X o td) (he:PE X e ty) (hf:PE X f tx) (m:M2 X o "get" apos e f cpos):PE X (.Call (.Attribute o "get" apos) [e,f] [] cpos) (zi4 td ty tx):=by
 intro pins s σ H Q I h;refine wpAny_Call_method m.base m.few m.line PySem.F.plainAttrs_dict PySem.F.slot_dict_get PySem.F.type_dict_get (thn (ho pins s σ H _ I h) fun u s1 ⟨x,H1,I1,rx,a,ex,d,q1⟩=>?_);subst ex;obtain rfl:u=Value.ref a:=rx;obtain⟨t1,t2,_⟩:=zkv I1 d;refine⟨t1,t2,?_⟩;rw[m.trees];refine Calls.callWith_builtin rfl (Calls.evalArgs_plain (Calls.spliced_cons (thn (he pins s1 σ H1 _ I1 q1) fun iv s2 ⟨y,H2,I2,ry,q2⟩=>
  Calls.spliced_cons (thn (hf pins s2 σ H2 _ I2 q2) fun fv s3 ⟨z,H3,I3,rz,ov,g,q3⟩=>Calls.spliced_nil ?_))))
 exact zkJ hu I3 g ry rz fun w' s4 I4 rw'=>⟨_,H3,I4,rw',q3⟩
end
section
variable {X:Cx}{pins:List (Addr×Obj)}{σ:St}{H:Hp}{s:Shared}{a:Addr}{kvs:List (Key×V)}{A:Around}{E:Value->Shared->Prop}
end
section
variable {X:Cx}{pins:List (Addr×Obj)}{σ:St}{H:Hp}{s:Shared}{a:Addr}{y:V}{u:Value}{A:Around}{E:Value->Shared->Prop}
end
end L2
namespace Att
open PySem PySem.W PySem.Calls PyProof.Rows
theorem zcp {P:Params}{h:Heap}:∀(ns:List Int) (vs:List Value),WellAll P h vs (ns.map WData.int)->IntsAre vs ns:=by
 intro ns
 induction ns with
 | nil=>
  intro vs w;rw[List.map_nil] at w;cases w;exact .nil
 | cons n ns ih=>
  intro vs w;rw[List.map_cons] at w;cases w with
  | cons a b=>
   cases a;exact .cons _ _ (ih _ b)
theorem zhe {l:OpenLaw}{n:Nat} (hn:l.most=some n) {P:Params}{h:Heap}{args:List WData}{vals:List Value}
  (hpre:l.row.toRowW.claim.pre args=true) (hwl:WellAll P h vals args) :
  ∃a vs ns,vals=[Value.ref a]/\args=[WData.list (ns.map WData.int)]/\h.get? a=some { cls:=.type "list",data:=.seq vs.toArray }/\IntsAre vs ns/\ns.length<=n:=by
 have hsh:WShape.hasAll [] args [.list .int]=true:=(pre_splitW hpre).1;have hc:l.pre.holds [] { args:=args }=true:=(pre_splitW hpre).2;obtain⟨d,r,rfl,h1,h2⟩:=hasAllW_cons hsh;obtain rfl:=hasAllW_nil h2;obtain⟨xs,rfl,h3⟩:=hasW_list h1;obtain⟨ns,rfl⟩:=items_int h3;have hlen:ns.length<=n:=by
  unfold OpenLaw.pre at hc;have h4:(WTm.not (.lt (.lit (.int (n:Int))) (.len (.arg 0)))).holds [] { args:=[.list (ns.map .int)] }=true:=by
   have h4:=(holds_andW hc).1;rw[hn] at h4;exact h4
  have h5:=condW_of h4 (w_not (w_lt w_lit (w_len_list (w_arg rfl))));rw[List.length_map] at h5;refine Nat.le_of_not_lt fun q=>?_;have q':(n:Int)<((ns.length:Nat):Int):=by omega
  first
   | (rw[decide_eq_true q'] at h5; exact absurd h5 (by decide))
   | (simp at h5; omega)
 cases hwl with
 | cons w1 w2=>
  cases w2;cases w1 with
  | list ho hall=>exact⟨_,_,ns,rfl,rfl,ho,zcp ns _ hall,hlen⟩
theorem zgf (l:OpenLaw) (args:List WData):l.row.toRowW.claim.post args (.bool true) args=true:=
 postW_of (r:=l.row.toRowW) (X:=(true == true))
  (show WShape.has [] (.bool true) .bool=true by first | rfl | decide | simp[WShape.has,WShape.arms,WShape.armsAll])
  (show (WTm.eq .res (.lit (.bool true))).value [] { args:=args,res:=some (.bool true),after:=args }=some (.bool (true == true)) from w_eq_bool (w_res rfl) w_lit) rfl
theorem zeo {l:OpenLaw}{n:Nat}{q:Program}{loose:List Str}{XP:(Str->Option Value)->Heap->Prop}{YP:World->Heap->Prop}{d:DefRec}
  (hn:l.most=some n) (hdf:d.params.defaults=[])
  (call:∀(w:World) (s₀ s₁:Shared) (mg mb:Str->Option Value) (fa:Addr) (o:Obj) (pm cd doc:Value) (a:Addr) (vs:List Value) (ns:List Int),
   Ground q loose [] XP w s₀ mg mb s₁.heap->YP w s₁.heap->
   s₁.heap.get? fa=some o->o.data=.func (docDef d.name d.params d.body d.scope pm cd doc)->s₁.heap.CodeRec cd d.name->mg d.name=some (.ref fa)->
   s₁.heap.get? a=some { cls:=.type "list",data:=.seq vs.toArray }->IntsAre vs ns->ns.length<=n->s₁.gens=#[]->
   codeAny (model l.prog w) callerA (.call (.ref fa) ⟨[.ref a],[]⟩) (fun r s'=>r=.ok (.ret (.bool true))/\OldK s₁.heap s'.heap/\s'.os=s₁.os/\AllBare s'.gens) s₁) :
  WalkO q loose XP YP l.row.toRowW d [] (fun f vs=>PySem.call f vs):=by
 intro w s₀ s₁ mg mb G Y fa o pm cd doc dV kV ho hd hcd hD hmg hg args vals as hpre hlay hrd hwl hlo;obtain rfl:dV=.none:=Dflts.none hD hdf;obtain rfl:kV=.none:=Dflts.noKw hD;obtain⟨a,vs,ns,rfl,rfl,hobj,hints,hlen⟩:=zhe hn hpre hwl;refine enter_call (codeAny_mono (call w s₀ s₁ mg mb fa o pm cd doc a vs ns G Y ho (fd_plain hd) hcd hmg hobj hints hlen hg) fun r s' hq=>?_);obtain⟨rfl,h2,h3,h4⟩:=hq;exact⟨.inl ⟨.bool true,.bool true,[],rfl,fun _=>rfl,.bool true,zgf l _,fun _=>⟨List.Pairwise.nil,fun _ hm=>(nomatch hm)⟩⟩,h2,h3,h4⟩
section
variable {prog:Program}{w:World}{A:Around}{E:Value->Shared->Prop}{s:Shared}{K:Frag}
def ledger (h:Heap) (L d:Addr):List (Addr×Obj):=(List.range h.objs.size).filterMap fun a=>if a=L \/ a=d then none else (h.get? a).map fun o=>(a,o)
end
end Att
namespace L2
open PySem PySem.Spec PyProof.Rows
theorem zdM:∀{vs:List Value}{ns:List Int},IntsAre vs ns->Vals (ns.map V.int) vs
 | _,_,.nil=>.nil
 | _,_,.cons n t h=>.cons ⟨t,rfl⟩ (zdM h)
def Only (H:Hp):Prop:=∀b,H b=none \/ ∃o xs,H b=some (.frz o (.lst xs))
theorem zia {P:Program}{w:World}{K:PySem.W.Frag}{mg mb:Str->Option Value}{CX:CXT}{k:Nat}{fa a:Addr}{fd:FuncData}{x:Str}{sp:Sp}{s₁:Shared}{vs:List Value}{ns:List Int}
  (KX:K.In s₁.heap) (hns:s₁.heap.Ns mainGlobals mg) (hb:s₁.heap.Ns builtinsNs mb) (hbb:∀x:Str,x≠"__name__"->mb x=bootBuiltins x) (hlim:s₁.heap.NoLimit) (hg:s₁.gens=#[])
  (ha:s₁.heap.get? a=some { cls:=.type "list",data:=.seq vs.toArray }) (hi:IntsAre vs ns) (hl:ns.length<=sizeLine) (hr:Room k callerA)
  (F:∀base:Heap,K.In base->base.Ns mainGlobals mg->FnOk P w K mg base CX k fa fd [x] sp) (hbind:∀(s:Shared) (u:Value),BindsTo s fd ⟨[u],[]⟩ [(x,u)])
  (hsp:∀H:Hp,Only H->SqL K H a (ns.map V.int)->sp [.ref a] H (fun v _=>v=.bl true) fun _ _ _=>False)
  (hCX:∀H e s',CX [] H s₁ (fun _ _ _=>False) e s'->False) :
  codeAny (model P w) callerA (.call (.ref fa) ⟨[.ref a],[]⟩) (fun r s'=>r=.ok (.ret (.bool true))/\OldK s₁.heap s'.heap/\s'.os=s₁.os/\AllBare s'.gens) s₁:=by
 have rv:=zdM hi;have lenV:=hi.length;have core:∀H:Hp,Only H->SqL K H a (ns.map V.int)->HOk P w H s₁.heap->(∀b,H b≠none->b=a)->(H a≠none->K.lookup a=none)->
   codeAny (model P w) callerA (.call (.ref fa) ⟨[.ref a],[]⟩) (fun r s'=>r=.ok (.ret (.bool true))/\OldK s₁.heap s'.heap/\s'.os=s₁.os/\AllBare s'.gens) s₁:=by
  intro H hO hS hok hA hK;have base_of:∀{b:Addr} {o:Obj},s₁.heap.get? b=some o->H b=none->(hidT s₁.heap H).get? b=some o:=fun e n=>zh2 e n;have noA:∀{b:Addr} {o:Obj} {es:Array DictEntry} {ep:Nat},s₁.heap.get? b=some o->o.data=.dict es ep->H b=none:=fun {b o es ep} e d=>by
   cases q:H b with
   | none=>rfl
   | some u=>
    have e':b=a:=hA b (by rw[q]; simp);subst e';rw[ha] at e; cases e;have d':Data.seq vs.toArray _=Data.dict es ep:=d;cases d'
  have nsK:∀{b:Addr} {m:Str->Option Value},s₁.heap.Ns b m->(hidT s₁.heap H).Ns b m:=fun {b m} ⟨o,es,ep,e,d,r⟩=>⟨o,es,ep,base_of e (noA e d),d,r⟩;have hKb:K.In (hidT s₁.heap H):=fun b o e=>base_of (KX b o e) (by
   cases q:H b with
   | none=>rfl
   | some u=>
    have e':b=a:=hA b (by rw[q]; simp);subst e';rw[hK (by rw[q]; simp)] at e; cases e)
  have hM:Mod K mg (hidT s₁.heap H):=⟨hKb,nsK hns,⟨mb,nsK hb,hbb⟩,let ⟨mc,h1,h2⟩:=hlim; ⟨mc,nsK h1,h2⟩⟩;have e0:Env0 P w K mg (hidT s₁.heap H) callerA [] s₁ H:=⟨rfl,hM,fun b o e=>zkd e,Nat.le_of_eq (zg3 _ _),trivial,fun b hb=>absurd (show b∈([]:List Addr) from hb) (by simp),hok,.of_eq hg⟩;refine codeAny_mono ((F _ hKb (nsK hns)).run callerA [] s₁ H ⟨[.ref a],[]⟩ [.ref a] [.ref a] _ _ hr e0 (hbind s₁ (.ref a)) (.cons rfl .nil) (hsp H hO hS)) fun r s' h=>?_;cases r with
  | error e=>exact (hCX H e s' h).elim
  | ok fl=>
   cases fl with
   | next=>exact False.elim h
   | brk=>exact False.elim h
   | cont=>exact False.elim h
   | ret u=>
    obtain⟨v,H',os,bare,un,hok',r',q⟩:=h;have q':v=.bl true:=q;subst q';obtain rfl:u=Value.bool true:=r';refine⟨rfl,OldK.of_keep fun b o e=>?_,os,bare⟩;cases q:H b with
    | none=>exact un.keep b o e q (by intro z; exact absurd (show b∈([]:List Addr) from z) (by simp)) (by simp)
    | some u=>
     rcases hO b with z | ⟨ob,xs,z⟩
     ·rw[q] at z; cases z
     ·have z2:=un.frzs b ob _ z
      obtain⟨e1,_⟩:=hok b _ z;obtain⟨e2,_⟩:=hok' b _ z2;rw[e] at e1; cases e1;exact e2
 cases hk:K.lookup a with
 | some o=>
  have e:=KX a o hk;rw[ha] at e;cases e;refine core (fun _=>none) (fun _=>.inl rfl) (.inr ⟨_,vs.toArray,_,hk,rfl,rfl,rfl,by rw[List.size_toArray,lenV]; exact hl,by simpa using rv⟩) (fun b u z=>by have z':(none:Option HO)=some u:=z; cases z') (fun b z=>absurd rfl z) fun z=>absurd rfl z
 | none=>
  refine core (fun b=>if b=a then some (.frz { cls:=.type "list",data:=.seq vs.toArray } (.lst (ns.map V.int))) else none) (fun b=>?_) (.inl (.inr ⟨{ cls:=.type "list",data:=.seq vs.toArray },if_pos rfl⟩)) (fun b u z=>?_) (fun b z=>?_) fun _=>hk
  ·by_cases hb:b=a
   ·exact .inr ⟨_,_,if_pos hb⟩
   ·exact .inl (if_neg hb)
  ·by_cases hb:b=a
   ·have z':=(if_pos hb).symm.trans z
    cases z';subst hb;exact⟨ha,by rw[List.length_map]; exact hl,vs,_,rv,ha⟩
   ·have z':=(if_neg hb).symm.trans z
    cases z'
  ·by_cases hb:b=a
   ·exact hb
   ·exact absurd (if_neg hb) z
end L2
namespace L2
open PySem PySem.Spec PyProof.Rows
abbrev KOf {K:PySem.W.Frag}{h:Heap} (_:K.In h):PySem.W.Frag:=K
theorem zhn {l:PySem.W.OpenLaw}{n k:Nat}{q:Program}{loose:List Str}{XP:(Str->Option Value)->Heap->Prop}{YP:World->Heap->Prop}{d:DefRec}{K:Params->PySem.W.Frag}{CX:World->CXT}{sp:World->Sp}{x:Str}
  (hn:l.most=some n) (hn2:n<=sizeLine) (hdf:d.params.defaults=[]) (hr:Room k callerA)
  (hY:∀(w:World) (h:Heap),YP w h->(K w.params).In h)
  (F:∀(w:World) (mg:Str->Option Value) (fa:Addr) (h:Heap),(K w.params).In h->h.Ns mainGlobals mg->mg d.name=some (.ref fa)->
   ∃fd:FuncData,(∀(s:Shared) (u:Value),BindsTo s fd ⟨[u],[]⟩ [(x,u)])/\
    ∀base:Heap,(K w.params).In base->base.Ns mainGlobals mg->FnOk l.prog w (K w.params) mg base (CX w) k fa fd [x] (sp w))
  (hsp:∀(w:World) (H:Hp) (a:Addr) (ns:List Int),ns.length<=n->Only H->SqL (K w.params) H a (ns.map V.int)->sp w [.ref a] H (fun v _=>v=.bl true) fun _ _ _=>False)
  (hCX:∀(w:World) (H:Hp) (s:Shared) (e:Value) (s':Shared),CX w [] H s (fun _ _ _=>False) e s'->False) :
  PySem.W.WalkO q loose XP YP l.row.toRowW d [] (fun f vs=>PySem.call f vs):=by
 refine Att.zeo hn hdf fun w s₀ s₁ mg mb fa o pm cd doc a vs ns G Y ho hd hcd hmg hobj hints hlen hg=>?_;have KX:=hY w _ Y;obtain⟨fd,hb,hF⟩:=F w mg fa _ KX G.T.g hmg;exact zia KX G.T.g G.T.b G.T.builtins G.T.nolimit hg hobj hints (Nat.le_trans hlen hn2) hr hF hb (fun H hO hS=>hsp w H a ns hlen hO hS) fun H e s'=>hCX w H s₁ e s'
end L2
/- THE LAST THEOREM (shape; LID,My.* are yours):
  My.Adr: a structure of the addresses that your layer names (classes,functions); My.Txt K t: a structure (Prop) of the equations over K;
  My.txt_mk:{K} {implicit addresses ..} (e1:nsIn K mainGlobals "law"=some (some (.ref f))) (e2:K.lookup f=some ⟨oc,od,.func (fnOf "law" "law" params body scope dV kV doc pm an cdv ct),sl⟩) (e3:codeIn K cdv "law"=true) ..:∃t,My.Txt K t
set_option maxRecDepth 100000 in
set_option maxHeartbeats 0 in
theorem PySem.Challenge.cw_LID_holds:PySem.Challenge.rw_LID.Holds := by
 w_on; o_law; k_head; (case hw=>w_witness2)
 k_fill
 refine L2.zhn (l:=PySem.Challenge.rw_LID) (n:=63) (k:=40) (x:="script") (CX:=fun w=>..) (sp:=fun _=>My.sp_law) rfl (by decide) rfl ⟨rfl,by decide,by decide⟩ (fun w h Y=>PySem.W.kIn_of Y) ?F ?S ?C
 case F=>
  intro w mg fa h KX G hmg;have T:∃t,My.Txt (L2.KOf KX) t:=by
   dsimp only[L2.KOf]                          -- K must stand as «<heap const> w.params» for k_is
   refine' My.txt_mk ?e1 ?e2 ?e3 ..
   (case e1 => PySem.W.k_is)                    -- in the order: a name -> its address -> its object -> its parts
   (case e2=>PySem.W.k_is)
   ..
  obtain⟨t,T⟩:=T;have e0:=hmg.symm.trans (PySem.W.mg_of KX G T.law);cases e0                                       -- fa is the law's own address
  exact⟨_,fun s u => .of_eq rfl,fun base kb nb => My.law_fn T kb nb⟩     -- if «.of_eq rfl» comes too early: refine' ⟨_,?b,fun base kb nb => My.law_fn T kb nb⟩; exact fun s u => .of_eq rfl
 case S=>exact fun w H a ns hl hO hS=>..
 case C=>exact ..
(the tactic k_is has no namespace: write k_is) -/
namespace L2
open PySem PySem.Spec PyProof.Rows
def zp (s:Stmt):Arguments:=match s with
 | .FunctionDef _ a _ _ _ _ _ _ _ _=>a
 | _=>{ posonlyargs:=[],args:=[],vararg:=none,kwonlyargs:=[],kw_defaults:=[],kwarg:=none,defaults:=[] }
def zo (s:Stmt):List Stmt:=match s with
 | .FunctionDef _ _ b _ _ _ _ _ _ _=>b
 | _=>[]
def zg (s:Stmt):Scope:=match s with
 | .FunctionDef _ _ _ _ _ _ sc _ _ _=>sc
 | _=>{ kind:=.function,names:=[],isGenerator:=false,isCoroutine:=false }
abbrev CX0:CXT:=fun _ _ _ _ _ _=>False
abbrev E0:XK:=fun _ _ _=>False
theorem pass0 {X:Cx}:Passes CX0 X E0:=fun _ _ _ _ _ _ _ h=>h.elim
structure Fun (K:PySem.W.Frag) (x qual:Str) (st:Stmt) (f:Addr) (fd:FuncData):Prop where
 ex:∃(oc:Value) (od:Option Addr) (kV doc pm:Value) (an:Option Addr) (cdv ct:Value) (osl:Array (Option Value)),
  fd=PySem.W.fnOf x qual (zp st) (zo st) (zg st) .none kV doc pm an cdv ct/\K.lookup f=some ⟨oc,od,.func fd,osl⟩/\PySem.W.codeIn K cdv qual=true
 kp:PySem.W.keepIn K (.ref f)=true
section
variable {P:Program}{w:World}{K:PySem.W.Frag}{mg:Str->Option Value}{base:Heap}
theorem Fun.ok {x qual:Str}{st:Stmt}{f:Addr}{fd:FuncData}{N ps:List Str}{k:Nat}{sp:Sp} (F:Fun K x qual st f fd) (S:zt N ps (zg st)) (len:∀vs H Q E,sp vs H Q E->vs.length=ps.length)
  (hbody:∀(cdv:Value) (A:Around) (outer:List Env) (s:Shared) (H:Hp) (vs:List V) (Q:VK) (E:XK),Room k (A.deeper (envOfC qual (zg st) s.heap.objs.size f cdv))->sp vs H Q E->
   ∃t,PSs (cxOf CX0 P w K mg base N qual (zg st) f cdv A outer s H E).nox (zo st) t/\t { nx:=fun _ H'=>Q .non H',rt:=Q } (start N vs) H):FnOk P w K mg base CX0 (k+1) f fd ps sp:=by
 obtain⟨oc,od,kV,doc,pm,an,cdv,ct,osl,rfl,lk,hcd⟩:=F.ex;refine zlM lk hcd S len fun A outer s H vs Q E hr hsp=>?_;obtain⟨t,h,q⟩:=hbody cdv A outer s H vs Q E hr hsp;exact⟨t,h.nox,q⟩
theorem Fun.binds {x qual:Str}{st:Stmt}{f:Addr}{fd:FuncData}{ps:List Str} (F:Fun K x qual st f fd)
  (h:∀(kV doc pm:Value) (an:Option Addr) (cdv ct:Value) (us:List Value),us.length=ps.length->bindArgs (PySem.W.fnOf x qual (zp st) (zo st) (zg st) .none kV doc pm an cdv ct) ⟨us,[]⟩=pure (ps.zip us)):Binds K fd ps []:=by
 obtain⟨oc,od,kV,doc,pm,an,cdv,ct,osl,rfl,lk,hcd⟩:=F.ex;exact .all (h kV doc pm an cdv ct)
theorem zH {x qual:Str}{st:Stmt}{f:Addr}{oc:Value}{od an:Option Addr}{osl:Array (Option Value)}{kV doc pm cdv ct:Value} (l:K.lookup f=some ⟨oc,od,.func (PySem.W.fnOf x qual (zp st) (zo st) (zg st) .none kV doc pm an cdv ct),osl⟩)
  (c:PySem.W.codeIn K cdv qual=true) (k:PySem.W.keepIn K (.ref f)=true):Fun K x qual st f (PySem.W.fnOf x qual (zp st) (zo st) (zg st) .none kV doc pm an cdv ct):=⟨⟨oc,od,kV,doc,pm,an,cdv,ct,osl,rfl,l,c⟩,k⟩
end
theorem zdC {A:Around}{k:Nat} (hr:Room k A):A.units+1<cLine:=Nat.lt_of_le_of_lt (Nat.add_le_add_left (by decide:1<=64) _) hr.units
section
variable {X:Cx}
theorem pv (i:Nat) {x:Str}{pos:Pos} (hN:X.N[i]?=some x:=by rfl) (hv:Vis X.env.scope x:=by first | exact Or.inl rfl | exact Or.inr (Or.inl rfl) | exact Or.inr (Or.inr rfl)) (hd:(x == ("__debug__":Str))=false:=by decide)
  (hcd:(x == ("__classdict__":Str))=false:=by decide):PE X (.Name x pos) (tVar i):=zlb hN hv hd hcd
end
theorem iteF {A B:Prop} (h:B):if false=true then A else B:=by
 rw[if_neg Bool.false_ne_true];exact h
theorem iteT {A B:Prop} (h:A):if true=true then A else B:=by
 rw[if_pos rfl];exact h
theorem ite2 {c A B:Prop} [Decidable c] (h1:c->A) (h2:¬ c->B):if c then A else B:=by
 by_cases h:c
 ·rw[if_pos h]
  exact h1 h
 ·rw[if_neg h]
  exact h2 h
def Same (H H':Hp):Prop:=∀b o,H b=some o->H' b=some o
theorem Same.refl (H:Hp):Same H H:=fun _ _ h=>h
theorem Same.trans {H H1 H2:Hp} (a:Same H H1) (b:Same H1 H2):Same H H2:=fun c o h=>b c o (a c o h)
theorem Same.free {H H':Hp} (e:Same H H') {l:Addr} (h:H' l=Option.none):H l=Option.none:=by
 cases q:H l with
 | none=>rfl
 | some o=>
  rw[e l o q] at h;cases h
theorem Same.seq {K:PySem.W.Frag}{H H':Hp}{a:Addr}{xs:List V} (e:Same H H') (h:SqL K H a xs):SqL K H' a xs:=by
 rcases h with (h | ⟨o,h⟩) | h
 ·exact .inl (.inl (e _ _ h))
 ·exact .inl (.inr ⟨o,e _ _ h⟩)
 ·exact .inr h
section
variable {X:Cx}
end
section
variable {κ:Type} [DecidableEq κ]
end
end L2
end
section
namespace Tim
open PySem PyProof.Rows
def R (ρ:Keyed->Int) (xs:Array Keyed) (i:Nat):Int:=match xs[i]? with
 | some p=>ρ p
 | none=>0
theorem zaz {ρ:Keyed->Int}{xs ys:Array Keyed}{i j:Nat} (h:xs[i]?=ys[j]?):R ρ xs i=R ρ ys j:=by unfold R; rw[h]
theorem R_at {ρ:Keyed->Int}{xs:Array Keyed}{i:Nat}{p:Keyed} (h:xs[i]?=some p):R ρ xs i=ρ p:=by unfold R; rw[h]
def Srt (ρ:Keyed->Int) (xs:Array Keyed) (lo hi:Nat):Prop:=∀i j,lo<=i->i<=j->j<hi->R ρ xs i<=R ρ xs j
def Dsc (ρ:Keyed->Int) (xs:Array Keyed) (lo hi:Nat):Prop:=∀i j,lo<=i->i<=j->j<hi->R ρ xs j<=R ρ xs i
theorem zdk {ρ:Keyed->Int}{xs:Array Keyed}{i j:Nat} (hj:j<=xs.size) (k:Nat) :
  R ρ (mirror xs i j ((j - i) / 2)) k=if i<=k/\k<j then R ρ xs (i+j - 1 - k) else R ρ xs k:=by
 have e:=getElem?_mirror_all (i:=i) hj k
 by_cases h1:i<=k/\k<j
 ·rw[if_pos h1] at e ⊢; exact zaz e
 ·rw[if_neg h1] at e ⊢; exact zaz e
theorem zW {ρ:Keyed->Int}{xs:Array Keyed}{i j:Nat} (hj:j<=xs.size) (heq:∀k,i<=k->k<j->R ρ xs k=R ρ xs (j - 1)) (k:Nat) :
  R ρ (mirror xs i j ((j - i) / 2)) k=R ρ xs k:=by
 rw[zdk hj];split
 ·rw[heq _ (by omega) (by omega),heq k (by omega) (by omega)]
 ·rfl
theorem zfk {ρ:Keyed->Int}{xs:Array Keyed}{src d:Nat} (hs:src<xs.size) (hd:d<=src) (k:Nat) :
  R ρ (bubble xs src d) k=if k=src - d then R ρ xs src else if src - d<k/\k<=src then R ρ xs (k - 1) else R ρ xs k:=by
 have e:=getElem?_bubble hs d hd k
 by_cases h1:k=src - d
 ·rw[if_pos h1] at e ⊢; exact zaz e
 ·rw[if_neg h1] at e ⊢
  by_cases h2:src - d<k/\k<=src
  ·rw[if_pos h2] at e ⊢; exact zaz e
  ·rw[if_neg h2] at e ⊢; exact zaz e
structure Cmp (prog:Program) (w:World) (A:Around) (s:Shared) (κ:SortKind) (a₀:Array Keyed) (ρ:Keyed->Int):Prop where
 lt:∀x y,x∈a₀.toList->y∈a₀.toList->∀(Q:Bool->Shared->Prop) (E:Value->Shared->Prop),Q (decide (ρ x<ρ y)) s->wpAny (model prog w) A (keyLt' κ x.1 y.1) Q E s
structure B (κ:SortKind) (a₀:Array Keyed) (st:SortSt):Prop where
 perm:(arrOf st).Perm a₀
 kind:kindOf st=κ
 failed:failedOf st=none
theorem B.size {κ:SortKind}{a₀:Array Keyed}{st:SortSt} (h:B κ a₀ st):(arrOf st).size=a₀.size:=h.perm.size_eq
theorem B.setArr {κ:SortKind}{a₀:Array Keyed}{st:SortSt} (h:B κ a₀ st) {xs:Array Keyed} (hp:xs.Perm (arrOf st)):B κ a₀ (setArr st xs):=⟨hp.trans h.perm,h.kind,h.failed⟩
theorem B.mem {κ:SortKind}{a₀:Array Keyed}{st:SortSt} (h:B κ a₀ st) {p:Keyed} (hp:p∈(arrOf st).toList):p∈a₀.toList:=(Array.perm_iff_toList_perm.mp h.perm).mem_iff.mp hp
theorem zgd {xs:Array Keyed}{i:Nat} (hi:i<xs.size):∃p,xs[i]?=some p/\p∈xs.toList:=⟨xs[i],getElem?_pos _ i hi,by simp⟩
structure Pre (lo:Nat) (st st':SortSt):Prop where
 arr:∀k,k<lo->(arrOf st')[k]?=(arrOf st)[k]?
 pend:pendingOf st'=pendingOf st
theorem Pre.refl {lo:Nat}{st:SortSt}:Pre lo st st:=⟨fun _ _=>rfl,rfl⟩
theorem Pre.trans {lo:Nat}{a b c:SortSt} (x:Pre lo a b) (y:Pre lo b c):Pre lo a c:=⟨fun k h=>(y.arr k h).trans (x.arr k h),y.pend.trans x.pend⟩
theorem Pre.mir {lo i j:Nat}{st:SortSt} (hj:j<=(arrOf st).size) (hi:lo<=i):Pre lo st (setArr st (mirror (arrOf st) i j ((j - i) / 2))):=
 ⟨fun k h=>by show (mirror _ _ _ _)[k]?=_; rw[getElem?_mirror_all hj,if_neg (by omega)],rfl⟩
theorem Pre.bub {lo src d:Nat}{st:SortSt} (hs:src<(arrOf st).size) (hd:d<=src) (hl:lo<=src - d):Pre lo st (setArr st (bubble (arrOf st) src d)):=
 ⟨fun k h=>by show (bubble _ _ _)[k]?=_; rw[getElem?_bubble hs d hd,if_neg (by omega),if_neg (by omega)],rfl⟩
section
variable {prog:Program}{w:World}{A:Around}{E:Value->Shared->Prop}{s:Shared}{κ:SortKind}{a₀:Array Keyed}{ρ:Keyed->Int}
theorem zgz (C:Cmp prog w A s κ a₀ ρ) {st:SortSt} (hB:B κ a₀ st) {x y:Keyed} (hx:x∈a₀.toList) (hy:y∈a₀.toList) {Q:Option Bool->SortSt->Prop} (h:Q (some (decide (ρ x<ρ y))) st) :
  wpS (model prog w) A E s (lt' x y) Q st:=by
 rw[lt'_eq];refine wpS_bind (wpS_get ?_);rw[hB.kind];refine wpS_bind (wpS_lift (wpAny_attempt (C.lt x y hx hy _ _ ⟨rfl,?_⟩)));exact wpS_pure h
theorem zk {st:SortSt}{xs:Array Keyed}{i:Nat}{p:Keyed} (h:xs[i]?=some p) {Q:Keyed->SortSt->Prop} (hq:Q p st):wpS (model prog w) A E s (elem' xs i) Q st:=by
 rw[elem'_eq,h];exact wpS_pure hq
theorem zca (C:Cmp prog w A s κ a₀ ρ) {st:SortSt} (hB:B κ a₀ st) {i j:Nat} (hi:i<a₀.size) (hj:j<a₀.size) {Q:Option Bool->SortSt->Prop}
  (h:Q (some (decide (R ρ (arrOf st) i<R ρ (arrOf st) j))) st):wpS (model prog w) A E s (ltAt' i j) Q st:=by
 obtain⟨p,e1,m1⟩:=zgd (xs:=arrOf st) (i:=i) (by rw[hB.size]; exact hi);obtain⟨q,e2,m2⟩:=zgd (xs:=arrOf st) (i:=j) (by rw[hB.size]; exact hj);rw[ltAt'_eq];refine wpS_bind (wpS_get ?_);show wpS _ _ _ _ (do let x <- elem' (arrOf st) i; let y <- elem' (arrOf st) j; lt' x y) Q st;refine wpS_bind (zk e1 (wpS_bind (zk e2 (zgz C hB (hB.mem m1) (hB.mem m2) ?_))));rw[R_at e1,R_at e2] at h;exact h
def asc (lo a nrem:Nat):StateT SortSt Sem AscSt:=
 forIn [a:nrem] ((none,a):AscSt) fun _ __s=>do
  let __x <- ltAt' (lo+__s.snd) (lo+__s.snd - 1)
  match __x with
  | some smaller=>if smaller=true then pure (ForInStep.done (none,__s.snd)) else pure (ForInStep.yield (none,__s.snd+1))
  | _=>pure (ForInStep.done (some none,__s.snd))
def tl3 (lo n nrem:Nat):StateT SortSt Sem (Option Nat):=do
 reverseSlice' lo (lo+n)
 let __s <- asc lo n nrem
 match __s.fst with
 | some r=>pure r
 | none=>pure (some __s.snd)
def dsc (lo n nrem:Nat):StateT SortSt Sem DescSt:=
 forIn [n:nrem] ((none,n,0):DescSt) fun _ __s=>do
  let __x <- ltAt' (lo+__s.snd.fst) (lo+__s.snd.fst - 1)
  match __x with
  | some smaller=>
   if smaller=true then
    if __s.snd.snd > 0 then do
     reverseSlice' (lo+__s.snd.fst - (__s.snd.snd+1)) (lo+__s.snd.fst)
     pure (ForInStep.yield (none,__s.snd.fst+1,0))
    else pure (ForInStep.yield (none,__s.snd.fst+1,0))
   else do
    let __x <- ltAt' (lo+__s.snd.fst - 1) (lo+__s.snd.fst)
    match __x with
    | some larger=>
     if larger=true then pure (ForInStep.done (none,__s.snd.fst,__s.snd.snd))
     else pure (ForInStep.yield (none,__s.snd.fst+1,__s.snd.snd+1))
    | _=>pure (ForInStep.done (some none,__s.snd.fst,__s.snd.snd))
  | _=>pure (ForInStep.done (some none,__s.snd.fst,__s.snd.snd))
def zf4 (lo n nrem:Nat):StateT SortSt Sem (Option Nat):=do
 liftM (rule "list.sort.descending-run")
 let __s <- dsc lo (n+1) nrem
 match __s.fst with
 | some r=>pure r
 | none=>
  if __s.snd.snd > 0 then do
   reverseSlice' (lo+__s.snd.fst - (__s.snd.snd+1)) (lo+__s.snd.fst)
   tl3 lo __s.snd.fst nrem
  else tl3 lo __s.snd.fst nrem
theorem bindc {α β:Type}{m:StateT SortSt Sem α}{f g:α->StateT SortSt Sem β} (h:∀a,f a=g a):(m >>= f)=(m >>= g):=by
 have e:f=g:=funext h;rw[e]
theorem zel (lo nrem:Nat):countRun' lo nrem=(do
  let __s <- asc lo 1 nrem
  match __s.fst with
  | some r=>pure r
  | none=>
   if (__s.snd == nrem)=true then pure (some __s.snd)
   else if __s.snd > 1 then do
    let __x <- ltAt' lo (lo+__s.snd - 1)
    match __x with
    | some rose=>if rose=true then pure (some __s.snd) else do
      reverseSlice' lo (lo+__s.snd)
      zf4 lo __s.snd nrem
    | _=>pure none
   else zf4 lo __s.snd nrem):=by
 rw[countRun'_eq];unfold zf4 tl3 dsc asc;refine bindc fun s1=>?_;obtain⟨r,n⟩:=s1;cases r with
 | some r=>rfl
 | none=>
  dsimp only;split
  ·rfl
  ·split
   ·refine bindc fun x=>?_
    cases x with
    | none=>rfl
    | some rose=>
     dsimp only;split
     ·rfl
     ·refine bindc fun _r=>bindc fun _u=>bindc fun s2=>?_
      obtain⟨r2,n2,q2⟩:=s2;cases r2 with
      | some r2=>rfl
      | none=>
       dsimp only;split
       ·refine bindc fun _v=>bindc fun _w=>bindc fun s3=>?_
        obtain⟨r3,n3⟩:=s3; cases r3 <;> rfl
       ·refine bindc fun _w=>bindc fun s3=>?_
        obtain⟨r3,n3⟩:=s3; cases r3 <;> rfl
   ·refine bindc fun _u=>bindc fun s2=>?_
    obtain⟨r2,n2,q2⟩:=s2;cases r2 with
    | some r2=>rfl
    | none=>
     dsimp only;split
     ·refine bindc fun _v=>bindc fun _w=>bindc fun s3=>?_
      obtain⟨r3,n3⟩:=s3; cases r3 <;> rfl
     ·refine bindc fun _w=>bindc fun s3=>?_
      obtain⟨r3,n3⟩:=s3; cases r3 <;> rfl
theorem ziL (C:Cmp prog w A s κ a₀ ρ) {st:SortSt}{lo a nrem:Nat}{Q:AscSt->SortSt->Prop} (hn:lo+nrem<=a₀.size) (ha:1<=a) (han:a<=nrem) (hB:B κ a₀ st) (hs:Srt ρ (arrOf st) lo (lo+a))
  (h:∀n,a<=n->n<=nrem->Srt ρ (arrOf st) lo (lo+n)->(n=nrem \/ R ρ (arrOf st) (lo+n)<R ρ (arrOf st) (lo+n - 1))->Q (none,n) st) :
  wpS (model prog w) A E s (asc lo a nrem) Q st:=by
 unfold asc;refine wpS_forRange (I:=fun x c st'=>st'=st/\c=(none,x)/\Srt ρ (arrOf st) lo (lo+x)) ?step ?fin ⟨rfl,rfl,hs⟩
 case fin=>
  rintro c st' ⟨rfl,rfl,hs'⟩;rw[show max a nrem=nrem by omega] at hs' ⊢;exact h nrem han (Nat.le_refl _) hs' (.inl rfl)
 case step=>
  rintro x c st' hax hxn ⟨rfl,rfl,hs'⟩;dsimp only;refine wpS_bind (zca C hB (by omega) (by omega) ?_)
  by_cases hless:R ρ (arrOf st') (lo+x)<R ρ (arrOf st') (lo+x - 1)
  ·simp only[hless,decide_true,if_true]
   exact wpS_pure (h x hax (by omega) hs' (.inr hless))
  ·simp only[hless,decide_false,Bool.false_eq_true,if_false]
   refine wpS_pure ⟨rfl,rfl,fun i j hl hij hj=>?_⟩
   by_cases hjx:j<lo+x
   ·exact hs' i j hl hij hjx
   ·have hj':j=lo+x:=by omega
    subst hj'
    by_cases hi':i=lo+x
    ·subst hi'; exact Int.le_refl _
    ·exact Int.le_trans (hs' i (lo+x - 1) hl (by omega) (by omega)) (Int.not_lt.mp hless)
theorem ze3 {st:SortSt}{i j:Nat}{Q:Unit->SortSt->Prop} (h:Q () (setArr st (mirror (arrOf st) i j ((j - i) / 2)))):wpS (model prog w) A E s (reverseSlice' i j) Q st:=by
 rw[reverseSlice'_eq]; exact wpS_modify h
abbrev Got (κ:SortKind) (a₀:Array Keyed) (ρ:Keyed->Int) (lo nrem:Nat) (st:SortSt) (Q:Option Nat->SortSt->Prop):Prop:=
 ∀m st',B κ a₀ st'->Pre lo st st'->1<=m->m<=nrem->Srt ρ (arrOf st') lo (lo+m)->Q (some m) st'
theorem zi6 (C:Cmp prog w A s κ a₀ ρ) {st st₀:SortSt}{lo n nrem:Nat}{Q:Option Nat->SortSt->Prop} (hn:lo+nrem<=a₀.size) (h1:1<=n) (hnn:n<=nrem) (hB:B κ a₀ st) (hP:Pre lo st₀ st)
  (hs:Dsc ρ (arrOf st) lo (lo+n)) (h:Got κ a₀ ρ lo nrem st₀ Q):wpS (model prog w) A E s (tl3 lo n nrem) Q st:=by
 unfold tl3;have hsz:lo+n<=(arrOf st).size:=by rw[hB.size]; omega
 refine wpS_bind (ze3 ?_);have hB':B κ a₀ (setArr st (mirror (arrOf st) lo (lo+n) ((lo+n - lo) / 2))):=hB.setArr (mirror_perm _ _ _ _);refine wpS_bind (ziL C hn h1 hnn hB' ?_ fun m hm1 hm2 hsm _=>wpS_pure (h m _ hB' (hP.trans (.mir hsz (Nat.le_refl _))) (by omega) hm2 hsm));intro i j hl hij hj;show R ρ (mirror (arrOf st) lo (lo+n) ((lo+n - lo) / 2)) i<=R ρ (mirror (arrOf st) lo (lo+n) ((lo+n - lo) / 2)) j;rw[zdk hsz,zdk hsz,if_pos (by omega),if_pos (by omega)];exact hs _ _ (by omega) (by omega) (by omega)
theorem zlv (C:Cmp prog w A s κ a₀ ρ) {st st₀:SortSt}{lo n nrem:Nat}{Q:DescSt->SortSt->Prop} (hn:lo+nrem<=a₀.size) (h1:1<=n) (hnn:n<=nrem) (hB:B κ a₀ st) (hP:Pre lo st₀ st)
  (hs:Dsc ρ (arrOf st) lo (lo+n))
  (h:∀m neq st',B κ a₀ st'->Pre lo st₀ st'->n<=m->m<=nrem->Dsc ρ (arrOf st') lo (lo+m)->neq+1<=m->(∀i,lo+m - (neq+1)<=i->i<lo+m->R ρ (arrOf st') i=R ρ (arrOf st') (lo+m - 1))->Q (none,m,neq) st') :
  wpS (model prog w) A E s (dsc lo n nrem) Q st:=by
 unfold dsc;refine wpS_forRange (I:=fun x c st'=>∃neq,c=(none,x,neq)/\B κ a₀ st'/\Pre lo st₀ st'/\Dsc ρ (arrOf st') lo (lo+x)/\neq+1<=x/\
   (∀i,lo+x - (neq+1)<=i->i<lo+x->R ρ (arrOf st') i=R ρ (arrOf st') (lo+x - 1))) ?step ?fin ⟨0,rfl,hB,hP,hs,by omega,fun i h1 h2=>by congr 1; omega⟩
 case fin=>
  rintro c st' ⟨neq,rfl,hB',hP',hs',hq,he⟩;rw[show max n nrem=nrem by omega] at hs' hq he ⊢;exact h nrem neq st' hB' hP' hnn (Nat.le_refl _) hs' hq he
 case step=>
  rintro x c st' hax hxn ⟨neq,rfl,hB',hP',hs',hq,he⟩;dsimp only;have hsz:lo+x<=(arrOf st').size:=by rw[hB'.size]; omega
  refine wpS_bind (zca C hB' (by omega) (by omega) ?_)
  by_cases hless:R ρ (arrOf st') (lo+x)<R ρ (arrOf st') (lo+x - 1)
  ·simp only[hless,decide_true,if_true]
   have step1:∀xs:Array Keyed,(∀k,R ρ xs k=R ρ (arrOf st') k)->Dsc ρ xs lo (lo+(x+1)):=by
    intro xs hk i j hl hij hj;rw[hk,hk]
    by_cases hjx:j<lo+x
    ·exact hs' i j hl hij hjx
    ·have hj':j=lo+x:=by omega
     subst hj'
     by_cases hi':i=lo+x
     ·subst hi'; exact Int.le_refl _
     ·exact Int.le_trans (Int.le_of_lt hless) (hs' i (lo+x - 1) hl (by omega) (by omega))
   by_cases hneq:neq > 0
   ·rw[if_pos hneq]
    refine wpS_bind (ze3 (wpS_pure ⟨0,rfl,hB'.setArr (mirror_perm _ _ _ _),hP'.trans (.mir hsz (by omega)),step1 _ (zW hsz he),by omega,fun i h1 h2=>by congr 1; omega⟩))
   ·rw[if_neg hneq]
    exact wpS_pure ⟨0,rfl,hB',hP',step1 _ (fun _=>rfl),by omega,fun i h1 h2=>by congr 1; omega⟩
  ·simp only[hless,decide_false,Bool.false_eq_true,if_false]
   refine wpS_bind (zca C hB' (by omega) (by omega) ?_)
   by_cases hlarger:R ρ (arrOf st') (lo+x - 1)<R ρ (arrOf st') (lo+x)
   ·simp only[hlarger,decide_true,if_true]
    exact wpS_pure (h x neq st' hB' hP' hax (by omega) hs' hq he)
   ·simp only[hlarger,decide_false,Bool.false_eq_true,if_false]
    have heqx:R ρ (arrOf st') (lo+x)=R ρ (arrOf st') (lo+x - 1):=by omega
    refine wpS_pure ⟨neq+1,rfl,hB',hP',fun i j hl hij hj=>?_,by omega,fun i h1 h2=>?_⟩
    ·by_cases hjx:j<lo+x
     ·exact hs' i j hl hij hjx
     ·have hj':j=lo+x:=by omega
      subst hj'
      by_cases hi':i=lo+x
      ·subst hi'; exact Int.le_refl _
      ·rw[heqx]; exact hs' i (lo+x - 1) hl (by omega) (by omega)
    ·rw[show lo+(x+1) - 1=lo+x by omega]
     by_cases hix:i=lo+x
     ·subst hix; rfl
     ·rw[heqx]; exact he i (by omega) (by omega)
theorem zfr (C:Cmp prog w A s κ a₀ ρ) {st st₀:SortSt}{lo n nrem:Nat}{Q:Option Nat->SortSt->Prop} (hn:lo+nrem<=a₀.size) (hnn:n+1<=nrem) (hB:B κ a₀ st) (hP:Pre lo st₀ st)
  (hs:Dsc ρ (arrOf st) lo (lo+(n+1))) (h:Got κ a₀ ρ lo nrem st₀ Q):wpS (model prog w) A E s (zf4 lo n nrem) Q st:=by
 unfold zf4;refine wpS_bind (wpS_lift (wpAny_rule ⟨rfl,?_⟩));refine wpS_bind (zlv C hn (by omega) hnn hB hP hs fun m neq st' hB' hP' hm1 hm2 hs' hq he=>?_);dsimp only;have hsz:lo+m<=(arrOf st').size:=by rw[hB'.size]; omega
 by_cases hneq:neq > 0
 ·rw[if_pos hneq]
  refine wpS_bind (ze3 (zi6 C hn (by omega) hm2 (hB'.setArr (mirror_perm _ _ _ _)) (hP'.trans (.mir hsz (by omega))) ?_ h));intro i j hl hij hj;show R ρ (mirror (arrOf st') _ _ _) j<=R ρ (mirror (arrOf st') _ _ _) i;rw[zW hsz he,zW hsz he];exact hs' i j hl hij hj
 ·rw[if_neg hneq]
  exact zi6 C hn (by omega) hm2 hB' hP' hs' h
theorem zeR (C:Cmp prog w A s κ a₀ ρ) {st:SortSt}{lo nrem:Nat}{Q:Option Nat->SortSt->Prop} (hn:lo+nrem<=a₀.size) (h1:1<=nrem) (hB:B κ a₀ st)
  (h:Got κ a₀ ρ lo nrem st Q):wpS (model prog w) A E s (countRun' lo nrem) Q st:=by
 rw[zel];refine wpS_bind (ziL C hn (Nat.le_refl 1) h1 hB (fun i j hl hij hj=>by have:i=j:=(by omega); subst this; exact Int.le_refl _) fun n hn1 hn2 hsn hor=>?_);dsimp only
 by_cases hnn:n=nrem
 ·rw[if_pos (by simpa using hnn)]
  exact wpS_pure (h n st hB .refl hn1 hn2 hsn)
 ·rw[if_neg (by simpa using hnn)]
  have hlt:R ρ (arrOf st) (lo+n)<R ρ (arrOf st) (lo+n - 1):=hor.resolve_left hnn
  by_cases hgt:n > 1
  ·rw[if_pos hgt]
   refine wpS_bind (zca C hB (by omega) (by omega) ?_)
   by_cases hrose:R ρ (arrOf st) lo<R ρ (arrOf st) (lo+n - 1)
   ·simp only[hrose,decide_true,if_true]
    exact wpS_pure (h n st hB .refl hn1 hn2 hsn)
   ·simp only[hrose,decide_false,Bool.false_eq_true,if_false]
    have hsz:lo+n<=(arrOf st).size:=by rw[hB.size]; omega
    have hall:∀k,lo<=k->k<lo+n->R ρ (arrOf st) k=R ρ (arrOf st) (lo+n - 1):=by
     intro k hl hk;have a1:=hsn lo k (by omega) hl hk;have a2:=hsn k (lo+n - 1) hl (by omega) (by omega);omega
    refine wpS_bind (ze3 (zfr C hn (by omega) (hB.setArr (mirror_perm _ _ _ _)) (.mir hsz (Nat.le_refl _)) ?_ h));intro i j hl hij hj;show R ρ (mirror (arrOf st) _ _ _) j<=R ρ (mirror (arrOf st) _ _ _) i;rw[zW hsz hall,zW hsz hall]
    by_cases hjn:j<lo+n
    ·rw[hall i (by omega) (by omega),hall j (by omega) hjn]; exact Int.le_refl _
    ·have hj':j=lo+n:=by omega
     subst hj'
     by_cases hi':i=lo+n
     ·subst hi'; exact Int.le_refl _
     ·rw[hall i (by omega) (by omega)]; exact Int.le_of_lt hlt
  ·rw[if_neg hgt]
   have hn1':n=1:=by omega
   subst hn1';refine zfr C hn (by omega) hB .refl ?_ h;intro i j hl hij hj
   by_cases hi':i=j
   ·subst hi'; exact Int.le_refl _
   ·have hi0:i=lo:=by omega
    have hj1:j=lo+1:=by omega
    subst hi0; subst hj1;exact Int.le_of_lt hlt
theorem zc4 (C:Cmp prog w A s κ a₀ ρ) {st:SortSt}{lo n ok:Nat}{Q:Bool->SortSt->Prop} (hn:lo+n<=a₀.size) (hok:ok<=n) (hB:B κ a₀ st) (hs:Srt ρ (arrOf st) lo (lo+ok))
  (h:∀st',B κ a₀ st'->Pre lo st st'->Srt ρ (arrOf st') lo (lo+n)->Q true st'):wpS (model prog w) A E s (binarySort' lo n ok) Q st:=by
 rw[binarySort'_eq];refine wpS_bind (wpS_mono (wpS_forRange (I:=fun k c st'=>c=(none,())/\B κ a₀ st'/\Pre lo st st'/\Srt ρ (arrOf st') lo (lo+min k n))
  (Q:=fun c st'=>c=(none,())/\B κ a₀ st'/\Pre lo st st'/\Srt ρ (arrOf st') lo (lo+n)) ?step ?fin ?init) ?post)
 case post=>
  rintro c st' ⟨rfl,hB',hP',hs'⟩;exact wpS_pure (h st' hB' hP' hs')
 case init=>
  refine⟨rfl,hB,.refl,fun i j hl hij hj=>?_⟩
  by_cases h1:ok=0
  ·have:i=j:=by omega
   subst this; exact Int.le_refl _
  ·exact hs i j hl hij (by omega)
 case fin=>
  rintro c st' ⟨hc,hB',hP',hs'⟩;refine⟨hc,hB',hP',?_⟩
  rwa [show min (max (max ok 1) n) n=n by omega] at hs'
 case step=>
  rintro k c st' hak hkn ⟨rfl,hB',hP',hs'⟩;rw[show min k n=k by omega] at hs';have hk:lo+k<a₀.size:=by omega
  refine wpS_bind (wpS_mono (wpS_forRange (I:=fun x c st''=>st''=st'/\∃l r,c=(none,l,r)/\l<=r/\r<=k/\r - l<=k - x/\
    (∀i,i<l->R ρ (arrOf st') (lo+i)<=R ρ (arrOf st') (lo+k))/\(∀i,r<=i->i<k->R ρ (arrOf st') (lo+k)<R ρ (arrOf st') (lo+i)))
   (Q:=fun c st''=>st''=st'/\∃l r,c=(none,l,r)/\l<=k/\
    (∀i,i<l->R ρ (arrOf st') (lo+i)<=R ρ (arrOf st') (lo+k))/\(∀i,l<=i->i<k->R ρ (arrOf st') (lo+k)<R ρ (arrOf st') (lo+i))) ?istep ?ifin ?iinit) ?ipost)
  case iinit=>exact⟨rfl,0,k,rfl,by omega,by omega,by omega,fun i hi=>by omega,fun i h1 h2=>by omega⟩
  case ifin=>
   rintro c st'' ⟨rfl,l,r,rfl,hlr,hrk,hm,hlo,hhi⟩;have:l=r:=by omega
   subst this;exact⟨rfl,l,l,rfl,hrk,hlo,hhi⟩
  case istep=>
   rintro x c st'' _ hxk ⟨rfl,l,r,rfl,hlr,hrk,hm,hlo,hhi⟩;dsimp only
   by_cases hge:l ≥ r
   ·rw[if_pos hge]
    have:l=r:=by omega
    subst this;exact wpS_pure ⟨rfl,l,l,rfl,hrk,hlo,hhi⟩
   ·rw[if_neg hge]
    refine wpS_bind (zca C hB' hk (by omega) ?_)
    by_cases hless:R ρ (arrOf st'') (lo+k)<R ρ (arrOf st'') (lo+(l+r) / 2)
    ·simp only[hless,decide_true,if_true]
     refine wpS_pure ⟨rfl,l,(l+r) / 2,rfl,by omega,by omega,by omega,hlo,fun i h1 h2=>?_⟩;exact Int.lt_of_lt_of_le hless (hs' _ _ (by omega) (by omega) (by omega))
    ·simp only[hless,decide_false,Bool.false_eq_true,if_false]
     refine wpS_pure ⟨rfl,(l+r) / 2+1,r,rfl,by omega,by omega,by omega,fun i h1=>?_,hhi⟩;exact Int.le_trans (hs' (lo+i) (lo+(l+r) / 2) (by omega) (by omega) (by omega)) (Int.not_lt.mp hless)
  case ipost=>
   rintro c st'' ⟨rfl,l,r,rfl,hlk,hlo,hhi⟩;show wpS _ _ _ _ (do moveDown' (lo+k) (lo+l); pure (ForInStep.yield (none,()))) _ _;rw[moveDown'_eq];have hks:lo+k<(arrOf st'').size:=by rw[hB'.size]; exact hk
   refine wpS_bind (wpS_modify (wpS_pure ⟨rfl,hB'.setArr (bubble_perm _ _ _),hP'.trans (.bub hks (by omega) (by omega)),?_⟩));rw[show min (k+1) n=k+1 by omega];intro i j hl hij hj;show R ρ (bubble (arrOf st'') (lo+k) (lo+k - (lo+l))) i<=R ρ (bubble (arrOf st'') (lo+k) (lo+k - (lo+l))) j;rw[zfk hks (by omega),zfk hks (by omega),show lo+k - (lo+k - (lo+l))=lo+l by omega];have q1:∀i,lo<=i->i<lo+l->R ρ (arrOf st'') i<=R ρ (arrOf st'') (lo+k):=fun i h1 h2=>by
    have:=hlo (i - lo) (by omega); rwa [show lo+(i - lo)=i by omega] at this
   have q2:∀i,lo+l<=i->i<lo+k->R ρ (arrOf st'') (lo+k)<R ρ (arrOf st'') i:=fun i h1 h2=>by
    have:=hhi (i - lo) (by omega) (by omega); rwa [show lo+(i - lo)=i by omega] at this
   repeat' split
   all_goals first
    | (exfalso; omega)
    | exact Int.le_refl _
    | exact q1 _ (by omega) (by omega)
    | exact Int.le_of_lt (q2 _ (by omega) (by omega))
    | exact hs' _ _ (by omega) (by omega) (by omega)
end
end Tim
end
section
namespace Tim
open PySem PyProof.Rows
section
variable {prog:Program}{w:World}{A:Around}{E:Value->Shared->Prop}{s:Shared}{κ:SortKind}{a₀:Array Keyed}{ρ:Keyed->Int}
def gallop':Bool->Keyed->Array Keyed->Nat->Nat->Nat->StateT SortSt Sem (Option Nat):=sortPriv% PySem.Builtin.gallop
def bey (left:Bool) (k r:Int):Bool:=if left=true then decide (r<k) else !decide (k<r)
theorem zhZ {left:Bool}{k r r':Int} (h:r'<=r) (hb:bey left k r=true):bey left k r'=true:=by
 unfold bey at *;cases left with
 | true=>simp at *; omega
 | false=>simp at *; omega
theorem ze1 (C:Cmp prog w A s κ a₀ ρ) {st:SortSt} (hB:B κ a₀ st) {left:Bool}{key:Keyed}{arr:Array Keyed}{i:Nat} (hk:key∈a₀.toList) (ha:∃p,arr[i]?=some p/\p∈a₀.toList) {Q:Option Bool->SortSt->Prop}
  (h:Q (some (bey left (ρ key) (R ρ arr i))) st):wpS (model prog w) A E s (do
   let x <- elem' arr i
   if left=true then lt' x key
   else do
    let b <- lt' key x
    pure (Option.map (fun x=>!x) b)) Q st:=by
 obtain⟨p,e,hp⟩:=ha;rw[R_at e] at h;refine wpS_bind (zk e ?_);cases left with
 | true=>
  rw[if_pos rfl];exact zgz C hB hp hk h
 | false=>
  rw[if_neg Bool.false_ne_true];exact wpS_bind (zgz C hB hk hp (wpS_pure h))
theorem zF (C:Cmp prog w A s κ a₀ ρ) {st:SortSt} (hB:B κ a₀ st) {left:Bool}{key:Keyed}{arr:Array Keyed}{base n hint:Nat}{Q:Option Nat->SortSt->Prop}
  (hk:key∈a₀.toList) (ha:∀i,i<n->∃p,arr[base+i]?=some p/\p∈a₀.toList) (hs:∀i j,i<=j->j<n->R ρ arr (base+i)<=R ρ arr (base+j)) (hh:hint<n)
  (h:∀k,k<=n->(∀i,i<k->bey left (ρ key) (R ρ arr (base+i))=true)->(∀i,k<=i->i<n->bey left (ρ key) (R ρ arr (base+i))=false)->Q (some k) st) :
  wpS (model prog w) A E s (gallop' left key arr base n hint) Q st:=by
 have up:∀i j,i<=j->j<n->bey left (ρ key) (R ρ arr (base+j))=true->bey left (ρ key) (R ρ arr (base+i))=true:=fun i j h1 h2=>zhZ (hs i j h1 h2);have dn:∀i j,i<=j->j<n->bey left (ρ key) (R ρ arr (base+i))=false->bey left (ρ key) (R ρ arr (base+j))=false:=fun i j h1 h2 e=>by
  cases q:bey left (ρ key) (R ρ arr (base+j)) with
  | false=>rfl
  | true=>rw[up i j h1 h2 q] at e; cases e
 have last:∀(st':SortSt) (f:Nat->Option (Option Nat)×Nat×Nat->StateT SortSt Sem (ForInStep (Option (Option Nat)×Nat×Nat))) (lo hi:Nat),st'=st->lo<=hi->hi<=n->(∀i,i<lo->bey left (ρ key) (R ρ arr (base+i))=true)->(∀i,hi<=i->i<n->bey left (ρ key) (R ρ arr (base+i))=false)->
   (∀x lo hi (Q':ForInStep (Option (Option Nat)×Nat×Nat)->SortSt->Prop),(lo ≥ hi->Q' (.done (none,lo,hi)) st)->(lo<hi->hi<=n->Q' (.yield (if bey left (ρ key) (R ρ arr (base+(lo+(hi - lo) / 2)))=true then (none,lo+(hi - lo) / 2+1,hi) else (none,lo,lo+(hi - lo) / 2))) st)->hi<=n->wpS (model prog w) A E s (f x (none,lo,hi)) Q' st)->
   wpS (model prog w) A E s (forIn [0:n] (none,lo,hi) f) (fun c st'=>st'=st/\c.1=none/\Q (some c.2.2) st) st':=by
  intro st' f lo hi e0 h1 h2 h3 h4 hf;subst e0;refine wpS_forRange (I:=fun x c st''=>st''=st'/\∃l r,c=(none,l,r)/\l<=r/\r<=n/\r - l<=n - x/\(∀i,i<l->bey left (ρ key) (R ρ arr (base+i))=true)/\(∀i,r<=i->i<n->bey left (ρ key) (R ρ arr (base+i))=false)) ?step ?fin ⟨rfl,lo,hi,rfl,h1,h2,by omega,h3,h4⟩
  case fin=>
   rintro c st'' ⟨rfl,l,r,rfl,a1,a2,a3,a4,a5⟩;have:l=r:=by omega
   subst this;exact⟨rfl,rfl,h l a2 a4 a5⟩
  case step=>
   rintro x c st'' _ hx ⟨rfl,l,r,rfl,a1,a2,a3,a4,a5⟩;refine hf x l r _ (fun hge=>?_) (fun hlt hr=>?_) a2
   ·have:l=r:=by omega
    subst this;exact⟨rfl,rfl,h l a2 a4 a5⟩
   ·cases q:bey left (ρ key) (R ρ arr (base+(l+(r - l) / 2))) with
    | true=>exact⟨rfl,_,_,by rw[if_pos rfl],by omega,by omega,by omega,fun i hi=>up i _ (by omega) (by omega) q,a5⟩
    | false=>exact⟨rfl,_,_,by rw[if_neg Bool.false_ne_true],by omega,by omega,by omega,a4,fun i h1 h2=>dn _ i h1 h2 q⟩
 have body:∀(x lo hi:Nat) (Q':ForInStep (Option (Option Nat)×Nat×Nat)->SortSt->Prop),(lo ≥ hi->Q' (.done (none,lo,hi)) st)->(lo<hi->hi<=n->Q' (.yield (if bey left (ρ key) (R ρ arr (base+(lo+(hi - lo) / 2)))=true then (none,lo+(hi - lo) / 2+1,hi) else (none,lo,lo+(hi - lo) / 2))) st)->hi<=n->
   wpS (model prog w) A E s (if lo ≥ hi then pure (ForInStep.done (none,lo,hi)) else (do
    let x <- elem' arr (base+(lo+(hi - lo) / 2))
    if left=true then lt' x key
    else do
     let b <- lt' key x
     pure (Option.map (fun x=>!x) b)) >>= fun y=>match y with
    | some more=>if more=true then pure (ForInStep.yield (none,lo+(hi - lo) / 2+1,hi)) else pure (ForInStep.yield (none,lo,lo+(hi - lo) / 2))
    | x=>pure (ForInStep.done (some none,lo,hi))) Q' st:=by
  intro x lo hi Q' q1 q2 hn
  by_cases hge:lo ≥ hi
  ·rw[if_pos hge]
   exact wpS_pure (q1 hge)
  ·rw[if_neg hge]
   have q:=q2 (by omega) hn;refine wpS_bind (ze1 C hB hk (ha _ (by omega)) ?_);cases e:bey left (ρ key) (R ρ arr (base+(lo+(hi - lo) / 2))) with
   | true=>
    rw[e,if_pos rfl] at q;simp only[if_true];exact wpS_pure q
   | false=>
    rw[e,if_neg Bool.false_ne_true] at q;simp only[Bool.false_eq_true,if_false];exact wpS_pure q
 refine wpS_bind ?_;refine ze1 C hB hk (ha hint hh) ?_;cases right:bey left (ρ key) (R ρ arr (base+hint)) with
 | true=>
  dsimp only;rw[if_pos rfl];refine wpS_bind (wpS_mono (wpS_forRange (I:=fun x c st'=>st'=st/\∃l o,c=(none,l,o)/\l<o/\x+1<=o/\hint+l<n/\bey left (ρ key) (R ρ arr (base+(hint+l)))=true)
   (Q:=fun c st'=>st'=st/\∃l o,c=(none,l,o)/\l<o/\hint+l<n/\bey left (ρ key) (R ρ arr (base+(hint+l)))=true/\(n - hint<=o \/ (hint+o<n/\bey left (ρ key) (R ρ arr (base+(hint+o)))=false))) ?step ?fin ⟨rfl,0,1,rfl,by omega,by omega,by omega,right⟩) ?post)
  case fin=>
   rintro c st' ⟨rfl,l,o,rfl,a1,a2,a3,a4⟩;exact⟨rfl,l,o,rfl,a1,a3,a4,.inl (by omega)⟩
  case step=>
   rintro x c st' _ hx ⟨rfl,l,o,rfl,a1,a2,a3,a4⟩;dsimp only
   by_cases hge:o ≥ n - hint
   ·rw[if_pos hge]
    exact wpS_pure ⟨rfl,l,o,rfl,a1,a3,a4,.inl hge⟩
   ·rw[if_neg hge]
    refine wpS_bind (ze1 C hB hk (ha _ (by omega)) ?_);cases e:bey left (ρ key) (R ρ arr (base+(hint+o))) with
    | true=>
     simp only[Bool.not_true,Bool.false_eq_true,if_false];exact wpS_pure ⟨rfl,o,2*o+1,rfl,by omega,by omega,by omega,e⟩
    | false=>
     simp only[Bool.not_false,if_true];exact wpS_pure ⟨rfl,l,o,rfl,a1,a3,a4,.inr ⟨by omega,e⟩⟩
  case post=>
   rintro c st' ⟨rfl,l,o,rfl,a1,a3,a4,a5⟩;dsimp only;refine wpS_bind (wpS_mono (last _ _ _ _ rfl (by omega) (by omega) (fun i hi=>up i _ (by omega) (by omega) a4) (fun i h1 h2=>?_) body) ?fin2)
   case fin2=>rintro⟨c1,c2,c3⟩ st'' ⟨rfl,e,q⟩; dsimp only at e q ⊢; subst e; exact wpS_pure q
   rcases a5 with a5 | ⟨a5,a6⟩
   ·omega
   ·exact dn _ i (by omega) h2 a6
 | false=>
  dsimp only;rw[if_neg Bool.false_ne_true];refine wpS_bind (wpS_mono (wpS_forRange (I:=fun x c st'=>st'=st/\∃l o,c=(none,l,o)/\l<o/\x+1<=o/\l<=hint/\bey left (ρ key) (R ρ arr (base+(hint - l)))=false)
   (Q:=fun c st'=>st'=st/\∃l o,c=(none,l,o)/\l<o/\l<=hint/\bey left (ρ key) (R ρ arr (base+(hint - l)))=false/\(hint+1<=o \/ (o<=hint/\bey left (ρ key) (R ρ arr (base+(hint - o)))=true))) ?step ?fin ⟨rfl,0,1,rfl,by omega,by omega,by omega,right⟩) ?post)
  case fin=>
   rintro c st' ⟨rfl,l,o,rfl,a1,a2,a3,a4⟩;exact⟨rfl,l,o,rfl,a1,a3,a4,.inl (by omega)⟩
  case step=>
   rintro x c st' _ hx ⟨rfl,l,o,rfl,a1,a2,a3,a4⟩;dsimp only
   by_cases hge:o ≥ hint+1
   ·rw[if_pos hge]
    exact wpS_pure ⟨rfl,l,o,rfl,a1,a3,a4,.inl hge⟩
   ·rw[if_neg hge]
    refine wpS_bind (ze1 C hB hk (ha _ (by omega)) ?_);cases e:bey left (ρ key) (R ρ arr (base+(hint - o))) with
    | true=>
     simp only[if_true];exact wpS_pure ⟨rfl,l,o,rfl,a1,a3,a4,.inr ⟨by omega,e⟩⟩
    | false=>
     simp only[Bool.false_eq_true,if_false];exact wpS_pure ⟨rfl,o,2*o+1,rfl,by omega,by omega,by omega,e⟩
  case post=>
   rintro c st' ⟨rfl,l,o,rfl,a1,a3,a4,a5⟩;dsimp only;refine wpS_bind (wpS_mono (last _ _ _ _ rfl (by omega) (by omega) (fun i hi=>?_) (fun i h1 h2=>dn _ i (by omega) h2 a4) body) ?fin2)
   case fin2=>rintro⟨c1,c2,c3⟩ st'' ⟨rfl,e,q⟩; dsimp only at e q ⊢; subst e; exact wpS_pure q
   rcases a5 with a5 | ⟨a5,a6⟩
   ·omega
   ·exact up i _ (by omega) (by omega) a6
end
end Tim
end
section
namespace Tim
open PySem PyProof.Rows
abbrev Le (ρ:Keyed->Int) (l:List Keyed):Prop:=l.Pairwise fun x y=>ρ x<=ρ y
structure MI (ρ:Keyed->Int) (la lb out ra rb:List Keyed):Prop where
 perm:(out++(ra++rb)).Perm (la++lb)
 so:Le ρ out
 sa:Le ρ ra
 sb:Le ρ rb
 oa:∀x∈out,∀y∈ra,ρ x<=ρ y
 ob:∀x∈out,∀y∈rb,ρ x<=ρ y
theorem MI.takeA {ρ:Keyed->Int}{la lb out blk ra rb:List Keyed} (h:MI ρ la lb out (blk++ra) rb) (hb:∀x∈blk,∀y∈rb,ρ x<=ρ y):MI ρ la lb (out++blk) ra rb:=by
 obtain⟨p,so,sa,sb,oa,ob⟩:=h;have sa':=List.pairwise_append.mp sa;refine⟨by simpa[List.append_assoc] using p,List.pairwise_append.mpr ⟨so,sa'.1,fun x hx y hy=>oa x hx y (List.mem_append_left _ hy)⟩,sa'.2.1,sb,fun x hx y hy=>?_,fun x hx y hy=>?_⟩
 ·rcases List.mem_append.mp hx with hx | hx
  ·exact oa x hx y (List.mem_append_right _ hy)
  ·exact sa'.2.2 x hx y hy
 ·rcases List.mem_append.mp hx with hx | hx
  ·exact ob x hx y hy
  ·exact hb x hx y hy
theorem MI.takeB {ρ:Keyed->Int}{la lb out blk ra rb:List Keyed} (h:MI ρ la lb out ra (blk++rb)) (hb:∀x∈blk,∀y∈ra,ρ x<=ρ y):MI ρ la lb (out++blk) ra rb:=by
 obtain⟨p,so,sa,sb,oa,ob⟩:=h;have sb':=List.pairwise_append.mp sb;refine⟨?_,List.pairwise_append.mpr ⟨so,sb'.1,fun x hx y hy=>ob x hx y (List.mem_append_left _ hy)⟩,sa,sb'.2.1,fun x hx y hy=>?_,fun x hx y hy=>?_⟩
 ·refine List.Perm.trans ?_ p
  rw[List.append_assoc];refine List.Perm.append_left _ ?_;rw[<- List.append_assoc,<- List.append_assoc];exact List.Perm.append_right _ List.perm_append_comm
 ·rcases List.mem_append.mp hx with hx | hx
  ·exact oa x hx y hy
  ·exact hb x hx y hy
 ·rcases List.mem_append.mp hx with hx | hx
  ·exact ob x hx y (List.mem_append_right _ hy)
  ·exact sb'.2.2 x hx y hy
theorem MI.doneA {ρ:Keyed->Int}{la lb out ra rb:List Keyed} (h:MI ρ la lb out ra rb) (e:rb=[]):((out++ra)++rb).Perm (la++lb)/\Le ρ ((out++ra)++rb):=by
 subst e;refine⟨by simpa[List.append_assoc] using h.perm,?_⟩;rw[List.append_nil];exact List.pairwise_append.mpr ⟨h.so,h.sa,h.oa⟩
theorem MI.lastA {ρ:Keyed->Int}{la lb out ra rb:List Keyed} (h:MI ρ la lb out ra rb) (hz:∀x∈rb,∀y∈ra,ρ x<=ρ y):((out++rb)++ra).Perm (la++lb)/\Le ρ ((out++rb)++ra):=by
 have h2:=(show MI ρ la lb out ra (rb++[]) by rw[List.append_nil]; exact h).takeB hz;refine⟨by simpa using h2.perm,List.pairwise_append.mpr ⟨h2.so,h2.sa,h2.oa⟩⟩
theorem zgs {xs:Array Keyed}{i:Nat}{p:Keyed} (h:xs[i]?=some p):xs.toList.drop i=[p]++xs.toList.drop (i+1):=by
 have h':xs.toList[i]?=some p:=by simpa using h
 obtain⟨hi,e⟩:=List.getElem?_eq_some_iff.mp h';rw[List.drop_eq_getElem_cons hi,e]
 rfl
theorem za8 {xs:Array Keyed} (i k:Nat):xs.toList.drop i=(xs.extract i (i+k)).toList++xs.toList.drop (i+k):=by
 rw[Array.toList_extract,List.extract_eq_drop_take,Nat.add_sub_cancel_left,<- List.drop_drop,List.take_append_drop]
theorem zB {xs:Array Keyed}{i:Nat}{y:Keyed} (h:y∈xs.toList.drop i):∃j,i+j<xs.size/\xs[i+j]?=some y:=by
 obtain⟨j,hj,e⟩:=List.mem_iff_getElem.mp h;rw[List.length_drop,Array.length_toList] at hj;refine⟨j,by omega,?_⟩;rw[List.getElem_drop] at e;rw[getElem?_pos xs (i+j) (by omega),<- e];simp
theorem zbF {xs:Array Keyed}{i k:Nat}{y:Keyed} (h:y∈(xs.extract i (i+k)).toList):∃j,j<k/\i+j<xs.size/\xs[i+j]?=some y:=by
 obtain⟨j,hj,e⟩:=List.mem_iff_getElem.mp h;rw[Array.length_toList,Array.size_extract] at hj;refine⟨j,by omega,by omega,?_⟩;rw[getElem?_pos xs (i+j) (by omega),<- e];simp
theorem zdb (xs:Array Keyed) (i:Nat):(xs.extract i).toList=xs.toList.drop i:=by
 rw[Array.toList_extract,List.extract_eq_drop_take,List.take_of_length_le (by simp)]
theorem at_of {xs:Array Keyed}{i:Nat} (h:i<xs.size):∃p,xs[i]?=some p:=⟨xs[i],getElem?_pos _ i h⟩
theorem zy {xs:Array Keyed}{i:Nat}{p:Keyed} (h:xs[i]?=some p):p∈xs.toList:=by
 obtain⟨hi,rfl⟩:=Array.getElem?_eq_some_iff.mp h;simp
theorem zaQ {ρ:Keyed->Int}{xs:Array Keyed} (hs:Le ρ xs.toList) {i j:Nat}{p q:Keyed} (h1:xs[i]?=some p) (h2:xs[j]?=some q) (hij:i<=j):ρ p<=ρ q:=by
 obtain⟨hi,rfl⟩:=Array.getElem?_eq_some_iff.mp h1;obtain⟨hj,rfl⟩:=Array.getElem?_eq_some_iff.mp h2;rcases Nat.lt_or_eq_of_le hij with h | h
 ·have:=List.pairwise_iff_getElem.mp hs i j (by simpa using hi) (by simpa using hj) h
  simpa using this
 ·subst h; exact Int.le_refl _
theorem R_le {ρ:Keyed->Int}{xs:Array Keyed} (hs:Le ρ xs.toList) {i j:Nat} (hij:i<=j) (hj:j<xs.size):R ρ xs i<=R ρ xs j:=by
 obtain⟨p,e1⟩:=at_of (xs:=xs) (i:=i) (by omega);obtain⟨q,e2⟩:=at_of hj;rw[R_at e1,R_at e2];exact zaQ hs e1 e2 hij
structure Sm (st st':SortSt):Prop where
 arr:arrOf st'=arrOf st
 pend:pendingOf st'=pendingOf st
 kind:kindOf st'=kindOf st
 failed:failedOf st'=failedOf st
theorem Sm.refl {st:SortSt}:Sm st st:=⟨rfl,rfl,rfl,rfl⟩
theorem Sm.trans {a b c:SortSt} (x:Sm a b) (y:Sm b c):Sm a c:=⟨y.arr.trans x.arr,y.pend.trans x.pend,y.kind.trans x.kind,y.failed.trans x.failed⟩
theorem Sm.b {κ:SortKind}{a₀:Array Keyed}{st st':SortSt} (x:Sm st st') (h:B κ a₀ st):B κ a₀ st':=⟨by rw[x.arr]; exact h.perm,x.kind.trans h.kind,x.failed.trans h.failed⟩
def zju:Nat->StateT SortSt Sem Unit:=sortPriv% PySem.Builtin.setMinGallop
def zhF:Array Keyed->Array Keyed->StateT SortSt Sem (Array Keyed):=sortPriv% PySem.Builtin.mergeLo
def ziH:Array Keyed->Array Keyed->StateT SortSt Sem (Array Keyed):=sortPriv% PySem.Builtin.mergeHi
section
variable {prog:Program}{w:World}{A:Around}{E:Value->Shared->Prop}{s:Shared}{κ:SortKind}{a₀:Array Keyed}{ρ:Keyed->Int}
theorem zaI {st:SortSt}{g:Nat}{Q:Unit->SortSt->Prop} (h:∀st',Sm st st'->Q () st'):wpS (model prog w) A E s (zju g) Q st:=by
 refine wpS_modify (h _ ?_);exact⟨rfl,rfl,rfl,rfl⟩
abbrev Merged (ρ:Keyed->Int) (a b:Array Keyed) (st:SortSt) (r:Array Keyed) (st':SortSt):Prop:=Sm st st'/\r.toList.Perm (a.toList++b.toList)/\Le ρ r.toList
structure Jn (ρ:Keyed->Int) (a b:Array Keyed) (out:Array Keyed) (ia ib:Nat):Prop where
 mi:MI ρ a.toList b.toList out.toList (a.toList.drop ia) (b.toList.drop ib)
 la:ia+1<a.size
 lb:ib<b.size
theorem MI.pushB {ρ:Keyed->Int}{a b out:Array Keyed}{ia ib:Nat}{y:Keyed} (h:MI ρ a.toList b.toList out.toList (a.toList.drop ia) (b.toList.drop ib)) (e:b[ib]?=some y) (hy:∀x∈a.toList.drop ia,ρ y<=ρ x) :
  MI ρ a.toList b.toList (out.push y).toList (a.toList.drop ia) (b.toList.drop (ib+1)):=by
 rw[zgs e] at h;rw[Array.toList_push];exact h.takeB fun x hx z hz=>by rw[List.mem_singleton.mp hx]; exact hy z hz
theorem MI.pushA {ρ:Keyed->Int}{a b out:Array Keyed}{ia ib:Nat}{x:Keyed} (h:MI ρ a.toList b.toList out.toList (a.toList.drop ia) (b.toList.drop ib)) (e:a[ia]?=some x) (hy:∀y∈b.toList.drop ib,ρ x<=ρ y) :
  MI ρ a.toList b.toList (out.push x).toList (a.toList.drop (ia+1)) (b.toList.drop ib):=by
 rw[zgs e] at h;rw[Array.toList_push];exact h.takeA fun z hz y hy'=>by rw[List.mem_singleton.mp hz]; exact hy y hy'
theorem MI.blkA {ρ:Keyed->Int}{a b out:Array Keyed}{ia ib:Nat} (k:Nat) (h:MI ρ a.toList b.toList out.toList (a.toList.drop ia) (b.toList.drop ib)) (hy:∀x∈(a.extract ia (ia+k)).toList,∀y∈b.toList.drop ib,ρ x<=ρ y) :
  MI ρ a.toList b.toList (out++a.extract ia (ia+k)).toList (a.toList.drop (ia+k)) (b.toList.drop ib):=by
 rw[za8 ia k] at h;rw[Array.toList_append];exact h.takeA hy
theorem MI.blkB {ρ:Keyed->Int}{a b out:Array Keyed}{ia ib:Nat} (k:Nat) (h:MI ρ a.toList b.toList out.toList (a.toList.drop ia) (b.toList.drop ib)) (hy:∀x∈(b.extract ib (ib+k)).toList,∀y∈a.toList.drop ia,ρ x<=ρ y) :
  MI ρ a.toList b.toList (out++b.extract ib (ib+k)).toList (a.toList.drop ia) (b.toList.drop (ib+k)):=by
 rw[za8 ib k] at h;rw[Array.toList_append];exact h.takeB hy
theorem MI.fin {ρ:Keyed->Int}{a b out:Array Keyed}{ia ib:Nat} (h:MI ρ a.toList b.toList out.toList (a.toList.drop ia) (b.toList.drop ib)) (e:b.size<=ib) :
  (out++a.extract ia++b.extract ib).toList.Perm (a.toList++b.toList)/\Le ρ (out++a.extract ia++b.extract ib).toList:=by
 rw[Array.toList_append,Array.toList_append,zdb,zdb];exact h.doneA (List.drop_eq_nil_of_le (by simpa using e))
theorem MI.finL {ρ:Keyed->Int}{a b out:Array Keyed}{ia ib:Nat} (h:MI ρ a.toList b.toList out.toList (a.toList.drop ia) (b.toList.drop ib)) (hz:∀x∈b.toList.drop ib,∀y∈a.toList.drop ia,ρ x<=ρ y) :
  (out++b.extract ib++a.extract ia).toList.Perm (a.toList++b.toList)/\Le ρ (out++b.extract ib++a.extract ia).toList:=by
 rw[Array.toList_append,Array.toList_append,zdb,zdb];exact h.lastA hz
theorem zfC (C:Cmp prog w A s κ a₀ ρ) {st:SortSt} (hB:B κ a₀ st) {a b:Array Keyed}{Q:Array Keyed->SortSt->Prop} (ha:∀p∈a.toList,p∈a₀.toList) (hb:∀p∈b.toList,p∈a₀.toList)
  (sa:Le ρ a.toList) (sb:Le ρ b.toList) (na:1<=a.size) (nb:1<=b.size) (h0:∀x∈a.toList,∀y,b[0]?=some y->ρ y<=ρ x) (hz:∀z,a[a.size - 1]?=some z->∀y∈b.toList,ρ y<ρ z)
  (h:∀r st',Merged ρ a b st r st'->Q r st'):wpS (model prog w) A E s (zhF a b) Q st:=by
 obtain⟨z,ez⟩:=at_of (xs:=a) (i:=a.size - 1) (by omega);have hz':∀i j,a.size<=i+1->∀x∈b.toList.drop j,∀y∈a.toList.drop i,ρ x<=ρ y:=fun i j hi x hx y hy=>by
  obtain⟨k,k1,k2⟩:=zB hy;rw[show i+k=a.size - 1 by omega,ez] at k2;cases k2;exact Int.le_of_lt (hz _ ez x (List.mem_of_mem_drop hx))
 refine wpS_bind (wpS_lift (wpAny_rule ⟨rfl,?_⟩));obtain⟨y0,e0⟩:=at_of (xs:=b) (i:=0) (by omega);refine wpS_bind (zk e0 ?_);have M0:MI ρ a.toList b.toList (#[y0]:Array Keyed).toList (a.toList.drop 0) (b.toList.drop 1):=by
  have q:MI ρ a.toList b.toList (#[]:Array Keyed).toList (a.toList.drop 0) (b.toList.drop 0):=⟨by simp,by simp,by simpa using sa,by simpa using sb,by simp,by simp⟩;exact q.pushB e0 fun x hx=>h0 x (by simpa using hx) y0 e0
 dsimp only
 by_cases c1:(1 == b.size)=true
 ·rw[if_pos c1]
  have c1':1=b.size:=by simpa using c1
  exact wpS_pure (h _ _ ⟨.refl,M0.fin (by omega)⟩)
 rw[if_neg c1];have c1':1≠b.size:=by simpa using c1
 by_cases c2:(0+1 == a.size)=true
 ·rw[if_pos c2]
  have c2':0+1=a.size:=by simpa using c2
  exact wpS_pure (h _ _ ⟨.refl,M0.finL (hz' 0 1 (by omega))⟩)
 rw[if_neg c2];have c2':0+1≠a.size:=by simpa using c2
 refine wpS_bind (wpS_get ?_);refine wpS_bind (wpS_mono (wpS_forRange (I:=fun x c st'=>Sm st st'/\∃out ia ib mg,c=(none,out,ia,ib,mg)/\Jn ρ a b out ia ib/\x+1<=ia+ib)
  (Q:=fun c st'=>∃r,c.1=some r/\Merged ρ a b st r st') ?step ?fin ⟨.refl,_,0,1,_,rfl,⟨M0,by omega,by omega⟩,by omega⟩) ?post)
 case post=>
  rintro⟨c1,c2⟩ st' ⟨r,e,q⟩;dsimp only at e ⊢;subst e;exact wpS_pure (h _ _ q)
 case fin=>
  rintro c st' ⟨_,out,ia,ib,mg,_,J,hx⟩;have:=J.la; have:=J.lb;omega
 case step=>
  rintro x c st1 _ hx ⟨S1,out,ia,ib,mg,rfl,J,hp⟩;dsimp only;refine wpS_bind (wpS_mono (wpS_forRange (I:=fun t c st'=>st'=st1/\∃out ia' ib' ac bc,c=(none,out,ia',ib',ac,bc)/\Jn ρ a b out ia' ib'/\ia+ib+t<=ia'+ib')
   (Q:=fun c st'=>st'=st1/\((∃r,c.1=some r/\Merged ρ a b st r st') \/ ∃out ia' ib' ac bc,c=(none,out,ia',ib',ac,bc)/\Jn ρ a b out ia' ib'/\ia+ib+1<=ia'+ib')) ?istep ?ifin ⟨rfl,_,_,_,_,_,rfl,J,by omega⟩) ?ipost)
  case ifin=>
   rintro c st' ⟨rfl,out,ia',ib',ac,bc,rfl,J',hp'⟩;exact⟨rfl,.inr ⟨_,_,_,_,_,rfl,J',by omega⟩⟩
  case istep=>
   rintro t c st' _ ht ⟨rfl,out,ia',ib',ac,bc,rfl,J',hp'⟩;dsimp only;obtain⟨y,ey⟩:=at_of J'.lb;obtain⟨x,ex⟩:=at_of (Nat.lt_of_succ_lt J'.la);have la':=J'.la;have lb':=J'.lb;refine wpS_bind (zk ey (wpS_bind (zk ex (wpS_bind (zgz C (S1.b hB) (hb _ (zy ey)) (ha _ (zy ex)) ?_)))))
   by_cases hless:ρ y<ρ x
   ·simp only[hless,decide_true,if_true]
    refine wpS_bind (zk ey ?_);have M1:=J'.mi.pushB ey fun u hu=>by
     obtain⟨j,j1,j2⟩:=zB hu;exact Int.le_trans (Int.le_of_lt hless) (zaQ sa ex j2 (by omega))
    by_cases c3:(ib'+1 == b.size)=true
    ·rw[if_pos c3]
     have c3':ib'+1=b.size:=by simpa using c3
     exact wpS_pure ⟨rfl,.inl ⟨_,rfl,S1,M1.fin (by omega)⟩⟩
    ·rw[if_neg c3]
     have c3':ib'+1≠b.size:=by simpa using c3
     split
     ·exact wpS_pure ⟨rfl,.inr ⟨_,_,_,_,_,rfl,⟨M1,J'.la,by omega⟩,by omega⟩⟩
     ·exact wpS_pure ⟨rfl,_,_,_,_,_,rfl,⟨M1,J'.la,by omega⟩,by omega⟩
   ·simp only[hless,decide_false,Bool.false_eq_true,if_false]
    refine wpS_bind (zk ex ?_);have M1:=J'.mi.pushA ex fun u hu=>by
     obtain⟨j,j1,j2⟩:=zB hu;exact Int.le_trans (Int.not_lt.mp hless) (zaQ sb ey j2 (by omega))
    by_cases c3:(ia'+1+1 == a.size)=true
    ·rw[if_pos c3]
     have c3':ia'+1+1=a.size:=by simpa using c3
     exact wpS_pure ⟨rfl,.inl ⟨_,rfl,S1,M1.finL (hz' _ _ (by omega))⟩⟩
    ·rw[if_neg c3]
     have c3':ia'+1+1≠a.size:=by simpa using c3
     split
     ·exact wpS_pure ⟨rfl,.inr ⟨_,_,_,_,_,rfl,⟨M1,by omega,J'.lb⟩,by omega⟩⟩
     ·exact wpS_pure ⟨rfl,_,_,_,_,_,rfl,⟨M1,by omega,J'.lb⟩,by omega⟩
  case ipost=>
   rintro⟨c1,c2⟩ st' ⟨rfl,⟨r,e,q⟩ | ⟨out,ia',ib',ac,bc,e,J',hp'⟩⟩
   ·dsimp only at e ⊢
    subst e;exact wpS_pure ⟨r,rfl,q⟩
   ·cases e
    dsimp only;refine wpS_bind (wpS_lift (wpAny_rule ⟨rfl,?_⟩));refine wpS_bind (wpS_mono (wpS_forRange (I:=fun t c st'=>Sm st st'/\∃out ia'' ib'' mg ac bc,c=(none,out,ia'',ib'',mg,ac,bc)/\Jn ρ a b out ia'' ib''/\ia'+ib'<=ia''+ib'')
     (Q:=fun c st'=>((∃r,c.1=some r/\Merged ρ a b st r st') \/ Sm st st'/\∃out ia'' ib'' mg ac bc,c=(none,out,ia'',ib'',mg,ac,bc)/\Jn ρ a b out ia'' ib''/\ia'+ib'<=ia''+ib'')) ?gstep ?gfin ⟨S1,_,_,_,_,_,_,rfl,J',Nat.le_refl _⟩) ?gpost)
    case gfin=>
     rintro c st' q;exact .inr q
    case gpost=>
     rintro⟨c1,c2⟩ st' (⟨r,e,q⟩ | ⟨S2,out,ia'',ib'',mg,ac,bc,e,J2,hp2⟩)
     ·dsimp only at e ⊢
      subst e;exact wpS_pure ⟨r,rfl,q⟩
     ·cases e
      dsimp only;exact wpS_bind (zaI fun st3 S3=>wpS_pure ⟨S2.trans S3,_,_,_,_,rfl,J2,by omega⟩)
    case gstep=>
     rintro t c st2 _ ht ⟨S2,out,i,j,mg,ac,bc,rfl,J2,hp2⟩;dsimp only;have la2:=J2.la;have lb2:=J2.lb;obtain⟨y,ey⟩:=at_of J2.lb
     by_cases hm:mg > 1
     ·rw[if_pos hm]
      refine wpS_bind (zaI fun st3 S3=>?_);refine wpS_bind (zk ey ?_);refine wpS_bind (zF C ((S2.trans S3).b hB) (hb _ (zy ey)) (fun k hk=>?_) (fun k l h1 h2=>R_le sa (by omega) (by omega)) (by omega) fun k k1 k2 k3=>?_)
      ·obtain⟨p,e⟩:=at_of (xs:=a) (i:=i+k) (by omega)
       exact⟨p,e,ha _ (zy e)⟩
      dsimp only;have kz:i+k<a.size:=by
       rcases Nat.lt_or_ge (i+k) a.size with q | q
       ·exact q
       ·have q1:=k2 (a.size - 1 - i) (by omega)
        rw[show i+(a.size - 1 - i)=a.size - 1 by omega,R_at ez] at q1;have q2:=hz _ ez y (zy ey);simp[bey] at q1;omega
      have after:∀x∈a.toList.drop (i+k),ρ y<=ρ x:=fun u hu=>by
       obtain⟨d,d1,d2⟩:=zB hu;have q1:=k3 (k+d) (by omega) (by omega);rw[show i+(k+d)=i+k+d by omega,R_at d2] at q1;simp[bey] at q1;omega
      by_cases hk0:k > 0
      ·rw[if_pos hk0]
       have MB:=J2.mi.blkA k fun u hu v hv=>by
        obtain⟨d,d1,d2,d3⟩:=zbF hu;obtain⟨f,f1,f2⟩:=zB hv;have q1:=k2 d d1;rw[R_at d3] at q1;simp[bey] at q1;exact Int.le_trans q1 (zaQ sb ey f2 (by omega))
       by_cases c3:(i+k+1 == a.size)=true
       ·rw[if_pos c3]
        have c3':i+k+1=a.size:=by simpa using c3
        exact wpS_pure (.inl ⟨_,rfl,S2.trans S3,MB.finL (hz' _ _ (by omega))⟩)
       rw[if_neg c3];have c3':i+k+1≠a.size:=by simpa using c3
       rw[if_neg (show ¬ (i+k == a.size)=true by simp; omega)];refine wpS_bind (zk ey ?_);have M2:=MB.pushB ey after
       by_cases c4:(j+1 == b.size)=true
       ·rw[if_pos c4]
        have c4':j+1=b.size:=by simpa using c4
        exact wpS_pure (.inl ⟨_,rfl,S2.trans S3,M2.fin (by omega)⟩)
       rw[if_neg c4];have c4':j+1≠b.size:=by simpa using c4
       obtain⟨x,ex⟩:=at_of (xs:=a) (i:=i+k) (by omega);refine wpS_bind (zk ex ?_);refine wpS_bind (zF C ((S2.trans S3).b hB) (ha _ (zy ex)) (fun l hl=>?_) (fun l m h1 h2=>R_le sb (by omega) (by omega)) (by omega) fun l l1 l2 l3=>?_)
       ·obtain⟨p,e⟩:=at_of (xs:=b) (i:=j+1+l) (by omega)
        exact⟨p,e,hb _ (zy e)⟩
       dsimp only;have aft:∀y∈b.toList.drop (j+1+l),ρ x<=ρ y:=fun u hu=>by
        obtain⟨d,d1,d2⟩:=zB hu;have q1:=l3 (l+d) (by omega) (by omega);rw[show j+1+(l+d)=j+1+l+d by omega,R_at d2] at q1;simp[bey] at q1;omega
       by_cases hl0:l > 0
       ·rw[if_pos hl0]
        have M3:=M2.blkB l fun u hu v hv=>by
         obtain⟨d,d1,d2,d3⟩:=zbF hu;obtain⟨f,f1,f2⟩:=zB hv;have q1:=l2 d d1;rw[R_at d3] at q1;simp[bey] at q1;exact Int.le_trans (Int.le_of_lt q1) (zaQ sa ex f2 (by omega))
        by_cases c5:(j+1+l == b.size)=true
        ·rw[if_pos c5]
         have c5':j+1+l=b.size:=by simpa using c5
         exact wpS_pure (.inl ⟨_,rfl,S2.trans S3,M3.fin (by omega)⟩)
        rw[if_neg c5];have c5':j+1+l≠b.size:=by simpa using c5
        refine wpS_bind (zk ex ?_);have M4:=M3.pushA ex aft
        by_cases c6:(i+k+1+1 == a.size)=true
        ·rw[if_pos c6]
         have c6':i+k+1+1=a.size:=by simpa using c6
         exact wpS_pure (.inl ⟨_,rfl,S2.trans S3,M4.finL (hz' _ _ (by omega))⟩)
        rw[if_neg c6];have c6':i+k+1+1≠a.size:=by simpa using c6
        by_cases c7:(decide (k<7) && decide (l<7))=true
        ·rw[if_pos c7]
         exact wpS_pure (.inr ⟨S2.trans S3,_,_,_,_,_,_,rfl,⟨M4,by omega,by omega⟩,by omega⟩)
        ·rw[if_neg c7]
         exact wpS_pure ⟨S2.trans S3,_,_,_,_,_,_,rfl,⟨M4,by omega,by omega⟩,by omega⟩
       ·rw[if_neg hl0]
        have l0:l=0:=by omega
        rw[l0] at aft;refine wpS_bind (zk ex ?_);have M4:=M2.pushA ex aft
        by_cases c6:(i+k+1+1 == a.size)=true
        ·rw[if_pos c6]
         have c6':i+k+1+1=a.size:=by simpa using c6
         exact wpS_pure (.inl ⟨_,rfl,S2.trans S3,M4.finL (hz' _ _ (by omega))⟩)
        rw[if_neg c6];have c6':i+k+1+1≠a.size:=by simpa using c6
        by_cases c7:(decide (k<7) && decide (l<7))=true
        ·rw[if_pos c7]
         exact wpS_pure (.inr ⟨S2.trans S3,_,_,_,_,_,_,rfl,⟨M4,by omega,by omega⟩,by omega⟩)
        ·rw[if_neg c7]
         exact wpS_pure ⟨S2.trans S3,_,_,_,_,_,_,rfl,⟨M4,by omega,by omega⟩,by omega⟩
      ·rw[if_neg hk0]
       have k0:k=0:=by omega
       rw[k0] at after;refine wpS_bind (zk ey ?_);have M2:=J2.mi.pushB ey after
       by_cases c4:(j+1 == b.size)=true
       ·rw[if_pos c4]
        have c4':j+1=b.size:=by simpa using c4
        exact wpS_pure (.inl ⟨_,rfl,S2.trans S3,M2.fin (by omega)⟩)
       rw[if_neg c4];have c4':j+1≠b.size:=by simpa using c4
       obtain⟨x,ex⟩:=at_of (xs:=a) (i:=i) (by omega);refine wpS_bind (zk ex ?_);refine wpS_bind (zF C ((S2.trans S3).b hB) (ha _ (zy ex)) (fun l hl=>?_) (fun l m h1 h2=>R_le sb (by omega) (by omega)) (by omega) fun l l1 l2 l3=>?_)
       ·obtain⟨p,e⟩:=at_of (xs:=b) (i:=j+1+l) (by omega)
        exact⟨p,e,hb _ (zy e)⟩
       dsimp only;have aft:∀y∈b.toList.drop (j+1+l),ρ x<=ρ y:=fun u hu=>by
        obtain⟨d,d1,d2⟩:=zB hu;have q1:=l3 (l+d) (by omega) (by omega);rw[show j+1+(l+d)=j+1+l+d by omega,R_at d2] at q1;simp[bey] at q1;omega
       by_cases hl0:l > 0
       ·rw[if_pos hl0]
        have M3:=M2.blkB l fun u hu v hv=>by
         obtain⟨d,d1,d2,d3⟩:=zbF hu;obtain⟨f,f1,f2⟩:=zB hv;have q1:=l2 d d1;rw[R_at d3] at q1;simp[bey] at q1;exact Int.le_trans (Int.le_of_lt q1) (zaQ sa ex f2 (by omega))
        by_cases c5:(j+1+l == b.size)=true
        ·rw[if_pos c5]
         have c5':j+1+l=b.size:=by simpa using c5
         exact wpS_pure (.inl ⟨_,rfl,S2.trans S3,M3.fin (by omega)⟩)
        rw[if_neg c5];have c5':j+1+l≠b.size:=by simpa using c5
        refine wpS_bind (zk ex ?_);have M4:=M3.pushA ex aft
        by_cases c6:(i+1+1 == a.size)=true
        ·rw[if_pos c6]
         have c6':i+1+1=a.size:=by simpa using c6
         exact wpS_pure (.inl ⟨_,rfl,S2.trans S3,M4.finL (hz' _ _ (by omega))⟩)
        rw[if_neg c6];have c6':i+1+1≠a.size:=by simpa using c6
        by_cases c7:(decide (k<7) && decide (l<7))=true
        ·rw[if_pos c7]
         exact wpS_pure (.inr ⟨S2.trans S3,_,_,_,_,_,_,rfl,⟨M4,by omega,by omega⟩,by omega⟩)
        ·rw[if_neg c7]
         exact wpS_pure ⟨S2.trans S3,_,_,_,_,_,_,rfl,⟨M4,by omega,by omega⟩,by omega⟩
       ·rw[if_neg hl0]
        have l0:l=0:=by omega
        rw[l0] at aft;refine wpS_bind (zk ex ?_);have M4:=M2.pushA ex aft
        by_cases c6:(i+1+1 == a.size)=true
        ·rw[if_pos c6]
         have c6':i+1+1=a.size:=by simpa using c6
         exact wpS_pure (.inl ⟨_,rfl,S2.trans S3,M4.finL (hz' _ _ (by omega))⟩)
        rw[if_neg c6];have c6':i+1+1≠a.size:=by simpa using c6
        by_cases c7:(decide (k<7) && decide (l<7))=true
        ·rw[if_pos c7]
         exact wpS_pure (.inr ⟨S2.trans S3,_,_,_,_,_,_,rfl,⟨M4,by omega,by omega⟩,by omega⟩)
        ·rw[if_neg c7]
         exact wpS_pure ⟨S2.trans S3,_,_,_,_,_,_,rfl,⟨M4,by omega,by omega⟩,by omega⟩
     ·rw[if_neg hm]
      refine wpS_bind (zaI fun st3 S3=>?_);refine wpS_bind (zk ey ?_);refine wpS_bind (zF C ((S2.trans S3).b hB) (hb _ (zy ey)) (fun k hk=>?_) (fun k l h1 h2=>R_le sa (by omega) (by omega)) (by omega) fun k k1 k2 k3=>?_)
      ·obtain⟨p,e⟩:=at_of (xs:=a) (i:=i+k) (by omega)
       exact⟨p,e,ha _ (zy e)⟩
      dsimp only;have kz:i+k<a.size:=by
       rcases Nat.lt_or_ge (i+k) a.size with q | q
       ·exact q
       ·have q1:=k2 (a.size - 1 - i) (by omega)
        rw[show i+(a.size - 1 - i)=a.size - 1 by omega,R_at ez] at q1;have q2:=hz _ ez y (zy ey);simp[bey] at q1;omega
      have after:∀x∈a.toList.drop (i+k),ρ y<=ρ x:=fun u hu=>by
       obtain⟨d,d1,d2⟩:=zB hu;have q1:=k3 (k+d) (by omega) (by omega);rw[show i+(k+d)=i+k+d by omega,R_at d2] at q1;simp[bey] at q1;omega
      by_cases hk0:k > 0
      ·rw[if_pos hk0]
       have MB:=J2.mi.blkA k fun u hu v hv=>by
        obtain⟨d,d1,d2,d3⟩:=zbF hu;obtain⟨f,f1,f2⟩:=zB hv;have q1:=k2 d d1;rw[R_at d3] at q1;simp[bey] at q1;exact Int.le_trans q1 (zaQ sb ey f2 (by omega))
       by_cases c3:(i+k+1 == a.size)=true
       ·rw[if_pos c3]
        have c3':i+k+1=a.size:=by simpa using c3
        exact wpS_pure (.inl ⟨_,rfl,S2.trans S3,MB.finL (hz' _ _ (by omega))⟩)
       rw[if_neg c3];have c3':i+k+1≠a.size:=by simpa using c3
       rw[if_neg (show ¬ (i+k == a.size)=true by simp; omega)];refine wpS_bind (zk ey ?_);have M2:=MB.pushB ey after
       by_cases c4:(j+1 == b.size)=true
       ·rw[if_pos c4]
        have c4':j+1=b.size:=by simpa using c4
        exact wpS_pure (.inl ⟨_,rfl,S2.trans S3,M2.fin (by omega)⟩)
       rw[if_neg c4];have c4':j+1≠b.size:=by simpa using c4
       obtain⟨x,ex⟩:=at_of (xs:=a) (i:=i+k) (by omega);refine wpS_bind (zk ex ?_);refine wpS_bind (zF C ((S2.trans S3).b hB) (ha _ (zy ex)) (fun l hl=>?_) (fun l m h1 h2=>R_le sb (by omega) (by omega)) (by omega) fun l l1 l2 l3=>?_)
       ·obtain⟨p,e⟩:=at_of (xs:=b) (i:=j+1+l) (by omega)
        exact⟨p,e,hb _ (zy e)⟩
       dsimp only;have aft:∀y∈b.toList.drop (j+1+l),ρ x<=ρ y:=fun u hu=>by
        obtain⟨d,d1,d2⟩:=zB hu;have q1:=l3 (l+d) (by omega) (by omega);rw[show j+1+(l+d)=j+1+l+d by omega,R_at d2] at q1;simp[bey] at q1;omega
       by_cases hl0:l > 0
       ·rw[if_pos hl0]
        have M3:=M2.blkB l fun u hu v hv=>by
         obtain⟨d,d1,d2,d3⟩:=zbF hu;obtain⟨f,f1,f2⟩:=zB hv;have q1:=l2 d d1;rw[R_at d3] at q1;simp[bey] at q1;exact Int.le_trans (Int.le_of_lt q1) (zaQ sa ex f2 (by omega))
        by_cases c5:(j+1+l == b.size)=true
        ·rw[if_pos c5]
         have c5':j+1+l=b.size:=by simpa using c5
         exact wpS_pure (.inl ⟨_,rfl,S2.trans S3,M3.fin (by omega)⟩)
        rw[if_neg c5];have c5':j+1+l≠b.size:=by simpa using c5
        refine wpS_bind (zk ex ?_);have M4:=M3.pushA ex aft
        by_cases c6:(i+k+1+1 == a.size)=true
        ·rw[if_pos c6]
         have c6':i+k+1+1=a.size:=by simpa using c6
         exact wpS_pure (.inl ⟨_,rfl,S2.trans S3,M4.finL (hz' _ _ (by omega))⟩)
        rw[if_neg c6];have c6':i+k+1+1≠a.size:=by simpa using c6
        by_cases c7:(decide (k<7) && decide (l<7))=true
        ·rw[if_pos c7]
         exact wpS_pure (.inr ⟨S2.trans S3,_,_,_,_,_,_,rfl,⟨M4,by omega,by omega⟩,by omega⟩)
        ·rw[if_neg c7]
         exact wpS_pure ⟨S2.trans S3,_,_,_,_,_,_,rfl,⟨M4,by omega,by omega⟩,by omega⟩
       ·rw[if_neg hl0]
        have l0:l=0:=by omega
        rw[l0] at aft;refine wpS_bind (zk ex ?_);have M4:=M2.pushA ex aft
        by_cases c6:(i+k+1+1 == a.size)=true
        ·rw[if_pos c6]
         have c6':i+k+1+1=a.size:=by simpa using c6
         exact wpS_pure (.inl ⟨_,rfl,S2.trans S3,M4.finL (hz' _ _ (by omega))⟩)
        rw[if_neg c6];have c6':i+k+1+1≠a.size:=by simpa using c6
        by_cases c7:(decide (k<7) && decide (l<7))=true
        ·rw[if_pos c7]
         exact wpS_pure (.inr ⟨S2.trans S3,_,_,_,_,_,_,rfl,⟨M4,by omega,by omega⟩,by omega⟩)
        ·rw[if_neg c7]
         exact wpS_pure ⟨S2.trans S3,_,_,_,_,_,_,rfl,⟨M4,by omega,by omega⟩,by omega⟩
      ·rw[if_neg hk0]
       have k0:k=0:=by omega
       rw[k0] at after;refine wpS_bind (zk ey ?_);have M2:=J2.mi.pushB ey after
       by_cases c4:(j+1 == b.size)=true
       ·rw[if_pos c4]
        have c4':j+1=b.size:=by simpa using c4
        exact wpS_pure (.inl ⟨_,rfl,S2.trans S3,M2.fin (by omega)⟩)
       rw[if_neg c4];have c4':j+1≠b.size:=by simpa using c4
       obtain⟨x,ex⟩:=at_of (xs:=a) (i:=i) (by omega);refine wpS_bind (zk ex ?_);refine wpS_bind (zF C ((S2.trans S3).b hB) (ha _ (zy ex)) (fun l hl=>?_) (fun l m h1 h2=>R_le sb (by omega) (by omega)) (by omega) fun l l1 l2 l3=>?_)
       ·obtain⟨p,e⟩:=at_of (xs:=b) (i:=j+1+l) (by omega)
        exact⟨p,e,hb _ (zy e)⟩
       dsimp only;have aft:∀y∈b.toList.drop (j+1+l),ρ x<=ρ y:=fun u hu=>by
        obtain⟨d,d1,d2⟩:=zB hu;have q1:=l3 (l+d) (by omega) (by omega);rw[show j+1+(l+d)=j+1+l+d by omega,R_at d2] at q1;simp[bey] at q1;omega
       by_cases hl0:l > 0
       ·rw[if_pos hl0]
        have M3:=M2.blkB l fun u hu v hv=>by
         obtain⟨d,d1,d2,d3⟩:=zbF hu;obtain⟨f,f1,f2⟩:=zB hv;have q1:=l2 d d1;rw[R_at d3] at q1;simp[bey] at q1;exact Int.le_trans (Int.le_of_lt q1) (zaQ sa ex f2 (by omega))
        by_cases c5:(j+1+l == b.size)=true
        ·rw[if_pos c5]
         have c5':j+1+l=b.size:=by simpa using c5
         exact wpS_pure (.inl ⟨_,rfl,S2.trans S3,M3.fin (by omega)⟩)
        rw[if_neg c5];have c5':j+1+l≠b.size:=by simpa using c5
        refine wpS_bind (zk ex ?_);have M4:=M3.pushA ex aft
        by_cases c6:(i+1+1 == a.size)=true
        ·rw[if_pos c6]
         have c6':i+1+1=a.size:=by simpa using c6
         exact wpS_pure (.inl ⟨_,rfl,S2.trans S3,M4.finL (hz' _ _ (by omega))⟩)
        rw[if_neg c6];have c6':i+1+1≠a.size:=by simpa using c6
        by_cases c7:(decide (k<7) && decide (l<7))=true
        ·rw[if_pos c7]
         exact wpS_pure (.inr ⟨S2.trans S3,_,_,_,_,_,_,rfl,⟨M4,by omega,by omega⟩,by omega⟩)
        ·rw[if_neg c7]
         exact wpS_pure ⟨S2.trans S3,_,_,_,_,_,_,rfl,⟨M4,by omega,by omega⟩,by omega⟩
       ·rw[if_neg hl0]
        have l0:l=0:=by omega
        rw[l0] at aft;refine wpS_bind (zk ex ?_);have M4:=M2.pushA ex aft
        by_cases c6:(i+1+1 == a.size)=true
        ·rw[if_pos c6]
         have c6':i+1+1=a.size:=by simpa using c6
         exact wpS_pure (.inl ⟨_,rfl,S2.trans S3,M4.finL (hz' _ _ (by omega))⟩)
        rw[if_neg c6];have c6':i+1+1≠a.size:=by simpa using c6
        by_cases c7:(decide (k<7) && decide (l<7))=true
        ·rw[if_pos c7]
         exact wpS_pure (.inr ⟨S2.trans S3,_,_,_,_,_,_,rfl,⟨M4,by omega,by omega⟩,by omega⟩)
        ·rw[if_neg c7]
         exact wpS_pure ⟨S2.trans S3,_,_,_,_,_,_,rfl,⟨M4,by omega,by omega⟩,by omega⟩
end
end Tim
end
section
namespace Tim
open PySem PyProof.Rows
structure MH (ρ:Keyed->Int) (la lb ra rb o:List Keyed):Prop where
 perm:((ra++rb)++o).Perm (la++lb)
 so:Le ρ o
 sa:Le ρ ra
 sb:Le ρ rb
 ao:∀x∈ra,∀y∈o,ρ x<=ρ y
 bo:∀x∈rb,∀y∈o,ρ x<=ρ y
theorem MH.takeA {ρ:Keyed->Int}{la lb ra blk rb o:List Keyed} (h:MH ρ la lb (ra++blk) rb o) (hb:∀y∈rb,∀x∈blk,ρ y<=ρ x):MH ρ la lb ra rb (blk++o):=by
 obtain⟨p,so,sa,sb,ao,bo⟩:=h;have sa':=List.pairwise_append.mp sa;refine⟨?_,List.pairwise_append.mpr ⟨sa'.2.1,so,fun x hx y hy=>ao x (List.mem_append_right _ hx) y hy⟩,sa'.1,sb,fun x hx y hy=>?_,fun x hx y hy=>?_⟩
 ·refine List.Perm.trans ?_ p
  simp only[List.append_assoc];refine List.Perm.append_left _ ?_;rw[<- List.append_assoc,<- List.append_assoc];exact List.Perm.append_right _ List.perm_append_comm
 ·rcases List.mem_append.mp hy with hy | hy
  ·exact sa'.2.2 x hx y hy
  ·exact ao x (List.mem_append_left _ hx) y hy
 ·rcases List.mem_append.mp hy with hy | hy
  ·exact hb x hx y hy
  ·exact bo x hx y hy
theorem MH.takeB {ρ:Keyed->Int}{la lb ra blk rb o:List Keyed} (h:MH ρ la lb ra (rb++blk) o) (hb:∀y∈ra,∀x∈blk,ρ y<=ρ x):MH ρ la lb ra rb (blk++o):=by
 obtain⟨p,so,sa,sb,ao,bo⟩:=h;have sb':=List.pairwise_append.mp sb;refine⟨by simpa[List.append_assoc] using p,List.pairwise_append.mpr ⟨sb'.2.1,so,fun x hx y hy=>bo x (List.mem_append_right _ hx) y hy⟩,sa,sb'.1,fun x hx y hy=>?_,fun x hx y hy=>?_⟩
 ·rcases List.mem_append.mp hy with hy | hy
  ·exact hb x hx y hy
  ·exact ao x hx y hy
 ·rcases List.mem_append.mp hy with hy | hy
  ·exact sb'.2.2 x hx y hy
  ·exact bo x (List.mem_append_left _ hx) y hy
theorem MH.doneA {ρ:Keyed->Int}{la lb ra rb o:List Keyed} (h:MH ρ la lb ra rb o) (e:ra=[]):((ra++rb)++o).Perm (la++lb)/\Le ρ ((ra++rb)++o):=by
 subst e;exact⟨h.perm,List.pairwise_append.mpr ⟨h.sb,h.so,h.bo⟩⟩
theorem MH.firstB {ρ:Keyed->Int}{la lb ra rb o:List Keyed} (h:MH ρ la lb ra rb o) (hz:∀x∈rb,∀y∈ra,ρ x<=ρ y):((rb++ra)++o).Perm (la++lb)/\Le ρ ((rb++ra)++o):=by
 have h2:=(show MH ρ la lb ([]++ra) rb o from h).takeA hz;refine⟨by simpa[List.append_assoc] using (List.Perm.append_right o (List.perm_append_comm (l₁:=rb) (l₂:=ra))).trans h.perm,?_⟩;rw[List.append_assoc];exact List.pairwise_append.mpr ⟨h2.sb,h2.so,h2.bo⟩
theorem zhl {xs:Array Keyed}{i:Nat}{p:Keyed} (h:xs[i]?=some p):xs.toList.take (i+1)=xs.toList.take i++[p]:=by
 have h':xs.toList[i]?=some p:=by simpa using h
 rw[List.take_add_one,h']
 rfl
theorem zcO {xs:Array Keyed}{i k:Nat} (h:i<=k):xs.toList.take k=xs.toList.take i++(xs.extract i k).toList:=by
 rw[Array.toList_extract,List.extract_eq_drop_take];have e:xs.toList.take k=(xs.toList.take k).take i++(xs.toList.take k).drop i:=(List.take_append_drop i _).symm;rw[List.take_take,List.drop_take,Nat.min_eq_left h] at e;exact e
theorem zA {xs:Array Keyed}{i:Nat}{y:Keyed} (h:y∈xs.toList.take i):∃j,j<i/\j<xs.size/\xs[j]?=some y:=by
 obtain⟨j,hj,e⟩:=List.mem_iff_getElem.mp h;rw[List.length_take,Array.length_toList] at hj;refine⟨j,by omega,by omega,?_⟩;rw[List.getElem_take] at e;rw[getElem?_pos xs j (by omega),<- e];simp
theorem zaw {xs:Array Keyed}{i k:Nat}{y:Keyed} (h:y∈(xs.extract i k).toList):∃j,i<=j/\j<k/\j<xs.size/\xs[j]?=some y:=by
 obtain⟨j,hj,e⟩:=List.mem_iff_getElem.mp h;rw[Array.length_toList,Array.size_extract] at hj;refine⟨i+j,by omega,by omega,by omega,?_⟩;rw[getElem?_pos xs (i+j) (by omega),<- e];simp
theorem zbS (xs:Array Keyed) (i:Nat):(xs.extract 0 i).toList=xs.toList.take i:=by
 rw[Array.toList_extract,List.extract_eq_drop_take];simp
section
variable {prog:Program}{w:World}{A:Around}{E:Value->Shared->Prop}{s:Shared}{κ:SortKind}{a₀:Array Keyed}{ρ:Keyed->Int}
abbrev MHa (ρ:Keyed->Int) (a b out:Array Keyed) (na nb:Nat):Prop:=MH ρ a.toList b.toList (a.toList.take na) (b.toList.take nb) out.toList.reverse
structure Jh (ρ:Keyed->Int) (a b out:Array Keyed) (na nb:Nat):Prop where
 mi:MHa ρ a b out na nb
 la:1<=na
 lb:2<=nb
 za:na<=a.size
 zb:nb<=b.size
theorem MH.pushA {ρ:Keyed->Int}{a b out:Array Keyed}{na nb:Nat}{x:Keyed} (h:MHa ρ a b out na nb) (hn:1<=na) (e:a[na - 1]?=some x) (hy:∀y∈b.toList.take nb,ρ y<=ρ x):MHa ρ a b (out.push x) (na - 1) nb:=by
 obtain⟨n,rfl⟩:∃n,na=n+1:=⟨na - 1,by omega⟩;rw[Nat.add_sub_cancel] at e ⊢;unfold MHa at *;rw[zhl e] at h;rw[Array.toList_push,List.reverse_append];exact h.takeA fun y hy' z hz=>by rw[List.mem_singleton.mp hz]; exact hy y hy'
theorem MH.pushB {ρ:Keyed->Int}{a b out:Array Keyed}{na nb:Nat}{x:Keyed} (h:MHa ρ a b out na nb) (hn:1<=nb) (e:b[nb - 1]?=some x) (hy:∀y∈a.toList.take na,ρ y<=ρ x):MHa ρ a b (out.push x) na (nb - 1):=by
 obtain⟨n,rfl⟩:∃n,nb=n+1:=⟨nb - 1,by omega⟩;rw[Nat.add_sub_cancel] at e ⊢;unfold MHa at *;rw[zhl e] at h;rw[Array.toList_push,List.reverse_append];exact h.takeB fun y hy' z hz=>by rw[List.mem_singleton.mp hz]; exact hy y hy'
theorem MH.blkA {ρ:Keyed->Int}{a b out:Array Keyed}{na nb:Nat} (k:Nat) (hk:k<=na) (h:MHa ρ a b out na nb) (hy:∀y∈b.toList.take nb,∀x∈(a.extract k na).toList,ρ y<=ρ x):MHa ρ a b (out++(a.extract k na).reverse) k nb:=by
 unfold MHa at *;rw[zcO hk] at h;rw[Array.toList_append,List.reverse_append,Array.toList_reverse,List.reverse_reverse];exact h.takeA hy
theorem MH.blkB {ρ:Keyed->Int}{a b out:Array Keyed}{na nb:Nat} (k:Nat) (hk:k<=nb) (h:MHa ρ a b out na nb) (hy:∀y∈a.toList.take na,∀x∈(b.extract k nb).toList,ρ y<=ρ x):MHa ρ a b (out++(b.extract k nb).reverse) na k:=by
 unfold MHa at *;rw[zcO hk] at h;rw[Array.toList_append,List.reverse_append,Array.toList_reverse,List.reverse_reverse];exact h.takeB hy
theorem MH.fin {ρ:Keyed->Int}{a b out:Array Keyed}{na nb:Nat} (h:MHa ρ a b out na nb) (e:na=0) :
  (a.extract 0 na++b.extract 0 nb++out.reverse).toList.Perm (a.toList++b.toList)/\Le ρ (a.extract 0 na++b.extract 0 nb++out.reverse).toList:=by
 rw[Array.toList_append,Array.toList_append,zbS,zbS,Array.toList_reverse];exact MH.doneA h (by rw[e]; rfl)
theorem MH.finB {ρ:Keyed->Int}{a b out:Array Keyed}{na nb:Nat} (h:MHa ρ a b out na nb) (hz:∀x∈b.toList.take nb,∀y∈a.toList.take na,ρ x<=ρ y) :
  (b.extract 0 nb++a.extract 0 na++out.reverse).toList.Perm (a.toList++b.toList)/\Le ρ (b.extract 0 nb++a.extract 0 na++out.reverse).toList:=by
 rw[Array.toList_append,Array.toList_append,zbS,zbS,Array.toList_reverse];exact MH.firstB h hz
theorem zfX (C:Cmp prog w A s κ a₀ ρ) {st:SortSt} (hB:B κ a₀ st) {a b:Array Keyed}{Q:Array Keyed->SortSt->Prop} (ha:∀p∈a.toList,p∈a₀.toList) (hb:∀p∈b.toList,p∈a₀.toList)
  (sa:Le ρ a.toList) (sb:Le ρ b.toList) (na:1<=a.size) (nb:1<=b.size) (h0:∀x∈a.toList,∀y,b[0]?=some y->ρ y<ρ x) (hz:∀z,a[a.size - 1]?=some z->∀y∈b.toList,ρ y<ρ z)
  (h:∀r st',Merged ρ a b st r st'->Q r st'):wpS (model prog w) A E s (ziH a b) Q st:=by
 obtain⟨y0,e0⟩:=at_of (xs:=b) (i:=0) (by omega);have hz':∀i j,j<=1->∀x∈b.toList.take j,∀y∈a.toList.take i,ρ x<=ρ y:=fun i j hj x hx y hy=>by
  obtain⟨k,k1,k2,k3⟩:=zA hx;rw[show k=0 by omega,e0] at k3;cases k3;exact Int.le_of_lt (h0 y (List.mem_of_mem_take hy) _ e0)
 refine wpS_bind (wpS_lift (wpAny_rule ⟨rfl,?_⟩));obtain⟨z,ez⟩:=at_of (xs:=a) (i:=a.size - 1) (by omega);refine wpS_bind (zk ez ?_);have M0:MHa ρ a b #[z] (a.size - 1) b.size:=by
  have q:MHa ρ a b #[] a.size b.size:=by
   have e1:a.toList.take a.size=a.toList:=List.take_of_length_le (by simp);have e2:b.toList.take b.size=b.toList:=List.take_of_length_le (by simp);unfold MHa;rw[e1,e2];exact⟨by simp,by simp,sa,sb,by simp,by simp⟩
  exact MH.pushA (out:=#[]) q na ez fun y hy=>Int.le_of_lt (hz z ez y (List.mem_of_mem_take hy))
 dsimp only
 by_cases c1:(a.size - 1 == 0)=true
 ·rw[if_pos c1]
  have c1':a.size - 1=0:=by simpa using c1
  exact wpS_pure (h _ _ ⟨.refl,MH.fin M0 (by omega)⟩)
 rw[if_neg c1];have c1':a.size - 1≠0:=by simpa using c1
 by_cases c2:(b.size == 1)=true
 ·rw[if_pos c2]
  have c2':b.size=1:=by simpa using c2
  exact wpS_pure (h _ _ ⟨.refl,MH.finB M0 (hz' _ _ (by omega))⟩)
 rw[if_neg c2];have c2':b.size≠1:=by simpa using c2
 refine wpS_bind (wpS_get ?_);refine wpS_bind (wpS_mono (wpS_forRange (I:=fun x c st'=>Sm st st'/\∃na nb out mg,c=(none,na,nb,out,mg)/\Jh ρ a b out na nb/\x+1+(na+nb)<=a.size+b.size)
  (Q:=fun c st'=>∃r,c.1=some r/\Merged ρ a b st r st') ?step ?fin ⟨.refl,_,_,_,_,rfl,⟨M0,by omega,by omega,by omega,by omega⟩,by omega⟩) ?post)
 case post=>
  rintro⟨c1,c2⟩ st' ⟨r,e,q⟩;dsimp only at e ⊢;subst e;exact wpS_pure (h _ _ q)
 case fin=>
  rintro c st' ⟨_,na,nb,out,mg,_,J,hx⟩;have:=J.la; have:=J.lb;omega
 case step=>
  rintro x c st1 _ hx ⟨S1,ia,ib,out,mg,rfl,J,hp⟩;dsimp only;refine wpS_bind (wpS_mono (wpS_forRange (I:=fun t c st'=>st'=st1/\∃ia' ib' out ac bc,c=(none,ia',ib',out,ac,bc)/\Jh ρ a b out ia' ib'/\t+(ia'+ib')<=ia+ib)
   (Q:=fun c st'=>st'=st1/\((∃r,c.1=some r/\Merged ρ a b st r st') \/ ∃ia' ib' out ac bc,c=(none,ia',ib',out,ac,bc)/\Jh ρ a b out ia' ib'/\1+(ia'+ib')<=ia+ib)) ?istep ?ifin ⟨rfl,_,_,_,_,_,rfl,J,by omega⟩) ?ipost)
  case ifin=>
   rintro c st' ⟨rfl,ia',ib',out,ac,bc,rfl,J',hp'⟩;exact⟨rfl,.inr ⟨_,_,_,_,_,rfl,J',by omega⟩⟩
  case istep=>
   rintro t c st' _ ht ⟨rfl,ia',ib',out,ac,bc,rfl,J',hp'⟩;dsimp only;have la':=J'.la;have lb':=J'.lb;have za':=J'.za;have zb':=J'.zb;obtain⟨y,ey⟩:=at_of (xs:=b) (i:=ib' - 1) (by omega);obtain⟨x,ex⟩:=at_of (xs:=a) (i:=ia' - 1) (by omega);refine wpS_bind (zk ey (wpS_bind (zk ex (wpS_bind (zgz C (S1.b hB) (hb _ (zy ey)) (ha _ (zy ex)) ?_)))))
   by_cases hless:ρ y<ρ x
   ·simp only[hless,decide_true,if_true]
    refine wpS_bind (zk ex ?_);have M1:=MH.pushA J'.mi la' ex fun u hu=>by
     obtain⟨j,j1,j2,j3⟩:=zA hu;exact Int.le_trans (zaQ sb j3 ey (by omega)) (Int.le_of_lt hless)
    by_cases c3:(ia' - 1 == 0)=true
    ·rw[if_pos c3]
     have c3':ia' - 1=0:=by simpa using c3
     exact wpS_pure ⟨rfl,.inl ⟨_,rfl,S1,MH.fin M1 (by omega)⟩⟩
    ·rw[if_neg c3]
     have c3':ia' - 1≠0:=by simpa using c3
     split
     ·exact wpS_pure ⟨rfl,.inr ⟨_,_,_,_,_,rfl,⟨M1,by omega,lb',by omega,zb'⟩,by omega⟩⟩
     ·exact wpS_pure ⟨rfl,_,_,_,_,_,rfl,⟨M1,by omega,lb',by omega,zb'⟩,by omega⟩
   ·simp only[hless,decide_false,Bool.false_eq_true,if_false]
    refine wpS_bind (zk ey ?_);have M1:=MH.pushB J'.mi (by omega) ey fun u hu=>by
     obtain⟨j,j1,j2,j3⟩:=zA hu;exact Int.le_trans (zaQ sa j3 ex (by omega)) (Int.not_lt.mp hless)
    by_cases c3:(ib' - 1 == 1)=true
    ·rw[if_pos c3]
     have c3':ib' - 1=1:=by simpa using c3
     exact wpS_pure ⟨rfl,.inl ⟨_,rfl,S1,MH.finB M1 (hz' _ _ (by omega))⟩⟩
    ·rw[if_neg c3]
     have c3':ib' - 1≠1:=by simpa using c3
     split
     ·exact wpS_pure ⟨rfl,.inr ⟨_,_,_,_,_,rfl,⟨M1,la',by omega,za',by omega⟩,by omega⟩⟩
     ·exact wpS_pure ⟨rfl,_,_,_,_,_,rfl,⟨M1,la',by omega,za',by omega⟩,by omega⟩
  case ipost=>
   rintro⟨c1,c2⟩ st' ⟨rfl,⟨r,e,q⟩ | ⟨ia',ib',out,ac,bc,e,J',hp'⟩⟩
   ·dsimp only at e ⊢
    subst e;exact wpS_pure ⟨r,rfl,q⟩
   ·cases e
    dsimp only;refine wpS_bind (wpS_lift (wpAny_rule ⟨rfl,?_⟩));refine wpS_bind (wpS_mono (wpS_forRange (I:=fun t c st'=>Sm st st'/\∃ia'' ib'' out mg ac bc,c=(none,ia'',ib'',out,mg,ac,bc)/\Jh ρ a b out ia'' ib''/\ia''+ib''<=ia'+ib')
     (Q:=fun c st'=>((∃r,c.1=some r/\Merged ρ a b st r st') \/ Sm st st'/\∃ia'' ib'' out mg ac bc,c=(none,ia'',ib'',out,mg,ac,bc)/\Jh ρ a b out ia'' ib''/\ia''+ib''<=ia'+ib')) ?gstep ?gfin ⟨S1,_,_,_,_,_,_,rfl,J',Nat.le_refl _⟩) ?gpost)
    case gfin=>
     rintro c st' q;exact .inr q
    case gpost=>
     rintro⟨c1,c2⟩ st' (⟨r,e,q⟩ | ⟨S2,ia'',ib'',out,mg,ac,bc,e,J2,hp2⟩)
     ·dsimp only at e ⊢
      subst e;exact wpS_pure ⟨r,rfl,q⟩
     ·cases e
      dsimp only;exact wpS_bind (zaI fun st3 S3=>wpS_pure ⟨S2.trans S3,_,_,_,_,rfl,J2,by omega⟩)
    case gstep=>
     rintro t c st2 _ ht ⟨S2,i,j,out,mg,ac,bc,rfl,J2,hp2⟩;dsimp only;have la2:=J2.la;have lb2:=J2.lb;have za2:=J2.za;have zb2:=J2.zb;obtain⟨y,ey⟩:=at_of (xs:=b) (i:=j - 1) (by omega)
     by_cases hm:mg > 1
     ·rw[if_pos hm]
      refine wpS_bind (zaI fun st3 S3=>?_);refine wpS_bind (zk ey ?_);refine wpS_bind (zF C ((S2.trans S3).b hB) (hb _ (zy ey)) (fun k hk=>?_) (fun k l h1 h2=>R_le sa (by omega) (by omega)) (by omega) fun k k1 k2 k3=>?_)
      ·obtain⟨p,e⟩:=at_of (xs:=a) (i:=0+k) (by omega)
       exact⟨p,e,ha _ (zy e)⟩
      dsimp only;have after:∀x∈a.toList.take k,ρ x<=ρ y:=fun u hu=>by
       obtain⟨d,d1,d2,d3⟩:=zA hu;have q1:=k2 d d1;rw[Nat.zero_add,R_at d3] at q1;simp[bey] at q1;omega
      by_cases hk0:i - k > 0
      ·rw[if_pos hk0]
       have MB:=MH.blkA k k1 J2.mi fun v hv u hu=>by
        obtain⟨d,d1,d2,d3,d4⟩:=zaw hu;obtain⟨f,f1,f2,f3⟩:=zA hv;have q1:=k3 d d1 d2;rw[Nat.zero_add,R_at d4] at q1;simp[bey] at q1;exact Int.le_trans (zaQ sb f3 ey (by omega)) (by omega)
       by_cases c3:(k == 0)=true
       ·rw[if_pos c3]
        have c3':k=0:=by simpa using c3
        exact wpS_pure (.inl ⟨_,rfl,S2.trans S3,MH.fin MB c3'⟩)
       rw[if_neg c3];have c3':k≠0:=by simpa using c3
       refine wpS_bind (zk ey ?_);have M2:=MH.pushB MB (by omega) ey after
       by_cases c4:(j - 1 == 1)=true
       ·rw[if_pos c4]
        have c4':j - 1=1:=by simpa using c4
        exact wpS_pure (.inl ⟨_,rfl,S2.trans S3,MH.finB M2 (hz' _ _ (by omega))⟩)
       rw[if_neg c4];have c4':j - 1≠1:=by simpa using c4
       obtain⟨x,ex⟩:=at_of (xs:=a) (i:=k - 1) (by omega);refine wpS_bind (zk ex ?_);refine wpS_bind (zF C ((S2.trans S3).b hB) (ha _ (zy ex)) (fun l hl=>?_) (fun l m h1 h2=>R_le sb (by omega) (by omega)) (by omega) fun l l1 l2 l3=>?_)
       ·obtain⟨p,e⟩:=at_of (xs:=b) (i:=0+l) (by omega)
        exact⟨p,e,hb _ (zy e)⟩
       dsimp only;have lz:1<=l:=by
        rcases Nat.lt_or_ge 0 l with q | q
        ·exact q
        ·have q1:=l3 0 (by omega) (by omega)
         rw[R_at e0] at q1;have q2:=h0 x (zy ex) y0 e0;simp[bey] at q1;omega
       have aft:∀y∈b.toList.take l,ρ y<=ρ x:=fun u hu=>by
        obtain⟨d,d1,d2,d3⟩:=zA hu;have q1:=l2 d d1;rw[Nat.zero_add,R_at d3] at q1;simp[bey] at q1;omega
       by_cases hl0:j - 1 - l > 0
       ·rw[if_pos hl0]
        have M3:=MH.blkB l (by omega) M2 fun v hv u hu=>by
         obtain⟨d,d1,d2,d3,d4⟩:=zaw hu;obtain⟨f,f1,f2,f3⟩:=zA hv;have q1:=l3 d d1 d2;rw[Nat.zero_add,R_at d4] at q1;simp[bey] at q1;exact Int.le_trans (zaQ sa f3 ex (by omega)) (by omega)
        by_cases c5:(l == 1)=true
        ·rw[if_pos c5]
         have c5':l=1:=by simpa using c5
         exact wpS_pure (.inl ⟨_,rfl,S2.trans S3,MH.finB M3 (hz' _ _ (by omega))⟩)
        rw[if_neg c5];have c5':l≠1:=by simpa using c5
        rw[if_neg (show ¬ (l == 0)=true by simp; omega)];refine wpS_bind (zk ex ?_);have M4:=MH.pushA M3 (by omega) ex aft
        by_cases c6:(k - 1 == 0)=true
        ·rw[if_pos c6]
         have c6':k - 1=0:=by simpa using c6
         exact wpS_pure (.inl ⟨_,rfl,S2.trans S3,MH.fin M4 (by omega)⟩)
        rw[if_neg c6];have c6':k - 1≠0:=by simpa using c6
        by_cases c7:(decide (i - k<7) && decide (j - 1 - l<7))=true
        ·rw[if_pos c7]
         exact wpS_pure (.inr ⟨S2.trans S3,_,_,_,_,_,_,rfl,⟨M4,by omega,by omega,by omega,by omega⟩,by omega⟩)
        ·rw[if_neg c7]
         exact wpS_pure ⟨S2.trans S3,_,_,_,_,_,_,rfl,⟨M4,by omega,by omega,by omega,by omega⟩,by omega⟩
       ·rw[if_neg hl0]
        have l0:l=j - 1:=by omega
        rw[l0] at aft;refine wpS_bind (zk ex ?_);have M4:=MH.pushA M2 (by omega) ex aft
        by_cases c6:(k - 1 == 0)=true
        ·rw[if_pos c6]
         have c6':k - 1=0:=by simpa using c6
         exact wpS_pure (.inl ⟨_,rfl,S2.trans S3,MH.fin M4 (by omega)⟩)
        rw[if_neg c6];have c6':k - 1≠0:=by simpa using c6
        by_cases c7:(decide (i - k<7) && decide (j - 1 - l<7))=true
        ·rw[if_pos c7]
         exact wpS_pure (.inr ⟨S2.trans S3,_,_,_,_,_,_,rfl,⟨M4,by omega,by omega,by omega,by omega⟩,by omega⟩)
        ·rw[if_neg c7]
         exact wpS_pure ⟨S2.trans S3,_,_,_,_,_,_,rfl,⟨M4,by omega,by omega,by omega,by omega⟩,by omega⟩
      ·rw[if_neg hk0]
       have k0:k=i:=by omega
       rw[k0] at after;refine wpS_bind (zk ey ?_);have M2:=MH.pushB J2.mi (by omega) ey after
       by_cases c4:(j - 1 == 1)=true
       ·rw[if_pos c4]
        have c4':j - 1=1:=by simpa using c4
        exact wpS_pure (.inl ⟨_,rfl,S2.trans S3,MH.finB M2 (hz' _ _ (by omega))⟩)
       rw[if_neg c4];have c4':j - 1≠1:=by simpa using c4
       obtain⟨x,ex⟩:=at_of (xs:=a) (i:=i - 1) (by omega);refine wpS_bind (zk ex ?_);refine wpS_bind (zF C ((S2.trans S3).b hB) (ha _ (zy ex)) (fun l hl=>?_) (fun l m h1 h2=>R_le sb (by omega) (by omega)) (by omega) fun l l1 l2 l3=>?_)
       ·obtain⟨p,e⟩:=at_of (xs:=b) (i:=0+l) (by omega)
        exact⟨p,e,hb _ (zy e)⟩
       dsimp only;have lz:1<=l:=by
        rcases Nat.lt_or_ge 0 l with q | q
        ·exact q
        ·have q1:=l3 0 (by omega) (by omega)
         rw[R_at e0] at q1;have q2:=h0 x (zy ex) y0 e0;simp[bey] at q1;omega
       have aft:∀y∈b.toList.take l,ρ y<=ρ x:=fun u hu=>by
        obtain⟨d,d1,d2,d3⟩:=zA hu;have q1:=l2 d d1;rw[Nat.zero_add,R_at d3] at q1;simp[bey] at q1;omega
       by_cases hl0:j - 1 - l > 0
       ·rw[if_pos hl0]
        have M3:=MH.blkB l (by omega) M2 fun v hv u hu=>by
         obtain⟨d,d1,d2,d3,d4⟩:=zaw hu;obtain⟨f,f1,f2,f3⟩:=zA hv;have q1:=l3 d d1 d2;rw[Nat.zero_add,R_at d4] at q1;simp[bey] at q1;exact Int.le_trans (zaQ sa f3 ex (by omega)) (by omega)
        by_cases c5:(l == 1)=true
        ·rw[if_pos c5]
         have c5':l=1:=by simpa using c5
         exact wpS_pure (.inl ⟨_,rfl,S2.trans S3,MH.finB M3 (hz' _ _ (by omega))⟩)
        rw[if_neg c5];have c5':l≠1:=by simpa using c5
        rw[if_neg (show ¬ (l == 0)=true by simp; omega)];refine wpS_bind (zk ex ?_);have M4:=MH.pushA M3 (by omega) ex aft
        by_cases c6:(i - 1 == 0)=true
        ·rw[if_pos c6]
         have c6':i - 1=0:=by simpa using c6
         exact wpS_pure (.inl ⟨_,rfl,S2.trans S3,MH.fin M4 (by omega)⟩)
        rw[if_neg c6];have c6':i - 1≠0:=by simpa using c6
        by_cases c7:(decide (i - k<7) && decide (j - 1 - l<7))=true
        ·rw[if_pos c7]
         exact wpS_pure (.inr ⟨S2.trans S3,_,_,_,_,_,_,rfl,⟨M4,by omega,by omega,by omega,by omega⟩,by omega⟩)
        ·rw[if_neg c7]
         exact wpS_pure ⟨S2.trans S3,_,_,_,_,_,_,rfl,⟨M4,by omega,by omega,by omega,by omega⟩,by omega⟩
       ·rw[if_neg hl0]
        have l0:l=j - 1:=by omega
        rw[l0] at aft;refine wpS_bind (zk ex ?_);have M4:=MH.pushA M2 (by omega) ex aft
        by_cases c6:(i - 1 == 0)=true
        ·rw[if_pos c6]
         have c6':i - 1=0:=by simpa using c6
         exact wpS_pure (.inl ⟨_,rfl,S2.trans S3,MH.fin M4 (by omega)⟩)
        rw[if_neg c6];have c6':i - 1≠0:=by simpa using c6
        by_cases c7:(decide (i - k<7) && decide (j - 1 - l<7))=true
        ·rw[if_pos c7]
         exact wpS_pure (.inr ⟨S2.trans S3,_,_,_,_,_,_,rfl,⟨M4,by omega,by omega,by omega,by omega⟩,by omega⟩)
        ·rw[if_neg c7]
         exact wpS_pure ⟨S2.trans S3,_,_,_,_,_,_,rfl,⟨M4,by omega,by omega,by omega,by omega⟩,by omega⟩
     ·rw[if_neg hm]
      refine wpS_bind (zaI fun st3 S3=>?_);refine wpS_bind (zk ey ?_);refine wpS_bind (zF C ((S2.trans S3).b hB) (hb _ (zy ey)) (fun k hk=>?_) (fun k l h1 h2=>R_le sa (by omega) (by omega)) (by omega) fun k k1 k2 k3=>?_)
      ·obtain⟨p,e⟩:=at_of (xs:=a) (i:=0+k) (by omega)
       exact⟨p,e,ha _ (zy e)⟩
      dsimp only;have after:∀x∈a.toList.take k,ρ x<=ρ y:=fun u hu=>by
       obtain⟨d,d1,d2,d3⟩:=zA hu;have q1:=k2 d d1;rw[Nat.zero_add,R_at d3] at q1;simp[bey] at q1;omega
      by_cases hk0:i - k > 0
      ·rw[if_pos hk0]
       have MB:=MH.blkA k k1 J2.mi fun v hv u hu=>by
        obtain⟨d,d1,d2,d3,d4⟩:=zaw hu;obtain⟨f,f1,f2,f3⟩:=zA hv;have q1:=k3 d d1 d2;rw[Nat.zero_add,R_at d4] at q1;simp[bey] at q1;exact Int.le_trans (zaQ sb f3 ey (by omega)) (by omega)
       by_cases c3:(k == 0)=true
       ·rw[if_pos c3]
        have c3':k=0:=by simpa using c3
        exact wpS_pure (.inl ⟨_,rfl,S2.trans S3,MH.fin MB c3'⟩)
       rw[if_neg c3];have c3':k≠0:=by simpa using c3
       refine wpS_bind (zk ey ?_);have M2:=MH.pushB MB (by omega) ey after
       by_cases c4:(j - 1 == 1)=true
       ·rw[if_pos c4]
        have c4':j - 1=1:=by simpa using c4
        exact wpS_pure (.inl ⟨_,rfl,S2.trans S3,MH.finB M2 (hz' _ _ (by omega))⟩)
       rw[if_neg c4];have c4':j - 1≠1:=by simpa using c4
       obtain⟨x,ex⟩:=at_of (xs:=a) (i:=k - 1) (by omega);refine wpS_bind (zk ex ?_);refine wpS_bind (zF C ((S2.trans S3).b hB) (ha _ (zy ex)) (fun l hl=>?_) (fun l m h1 h2=>R_le sb (by omega) (by omega)) (by omega) fun l l1 l2 l3=>?_)
       ·obtain⟨p,e⟩:=at_of (xs:=b) (i:=0+l) (by omega)
        exact⟨p,e,hb _ (zy e)⟩
       dsimp only;have lz:1<=l:=by
        rcases Nat.lt_or_ge 0 l with q | q
        ·exact q
        ·have q1:=l3 0 (by omega) (by omega)
         rw[R_at e0] at q1;have q2:=h0 x (zy ex) y0 e0;simp[bey] at q1;omega
       have aft:∀y∈b.toList.take l,ρ y<=ρ x:=fun u hu=>by
        obtain⟨d,d1,d2,d3⟩:=zA hu;have q1:=l2 d d1;rw[Nat.zero_add,R_at d3] at q1;simp[bey] at q1;omega
       by_cases hl0:j - 1 - l > 0
       ·rw[if_pos hl0]
        have M3:=MH.blkB l (by omega) M2 fun v hv u hu=>by
         obtain⟨d,d1,d2,d3,d4⟩:=zaw hu;obtain⟨f,f1,f2,f3⟩:=zA hv;have q1:=l3 d d1 d2;rw[Nat.zero_add,R_at d4] at q1;simp[bey] at q1;exact Int.le_trans (zaQ sa f3 ex (by omega)) (by omega)
        by_cases c5:(l == 1)=true
        ·rw[if_pos c5]
         have c5':l=1:=by simpa using c5
         exact wpS_pure (.inl ⟨_,rfl,S2.trans S3,MH.finB M3 (hz' _ _ (by omega))⟩)
        rw[if_neg c5];have c5':l≠1:=by simpa using c5
        rw[if_neg (show ¬ (l == 0)=true by simp; omega)];refine wpS_bind (zk ex ?_);have M4:=MH.pushA M3 (by omega) ex aft
        by_cases c6:(k - 1 == 0)=true
        ·rw[if_pos c6]
         have c6':k - 1=0:=by simpa using c6
         exact wpS_pure (.inl ⟨_,rfl,S2.trans S3,MH.fin M4 (by omega)⟩)
        rw[if_neg c6];have c6':k - 1≠0:=by simpa using c6
        by_cases c7:(decide (i - k<7) && decide (j - 1 - l<7))=true
        ·rw[if_pos c7]
         exact wpS_pure (.inr ⟨S2.trans S3,_,_,_,_,_,_,rfl,⟨M4,by omega,by omega,by omega,by omega⟩,by omega⟩)
        ·rw[if_neg c7]
         exact wpS_pure ⟨S2.trans S3,_,_,_,_,_,_,rfl,⟨M4,by omega,by omega,by omega,by omega⟩,by omega⟩
       ·rw[if_neg hl0]
        have l0:l=j - 1:=by omega
        rw[l0] at aft;refine wpS_bind (zk ex ?_);have M4:=MH.pushA M2 (by omega) ex aft
        by_cases c6:(k - 1 == 0)=true
        ·rw[if_pos c6]
         have c6':k - 1=0:=by simpa using c6
         exact wpS_pure (.inl ⟨_,rfl,S2.trans S3,MH.fin M4 (by omega)⟩)
        rw[if_neg c6];have c6':k - 1≠0:=by simpa using c6
        by_cases c7:(decide (i - k<7) && decide (j - 1 - l<7))=true
        ·rw[if_pos c7]
         exact wpS_pure (.inr ⟨S2.trans S3,_,_,_,_,_,_,rfl,⟨M4,by omega,by omega,by omega,by omega⟩,by omega⟩)
        ·rw[if_neg c7]
         exact wpS_pure ⟨S2.trans S3,_,_,_,_,_,_,rfl,⟨M4,by omega,by omega,by omega,by omega⟩,by omega⟩
      ·rw[if_neg hk0]
       have k0:k=i:=by omega
       rw[k0] at after;refine wpS_bind (zk ey ?_);have M2:=MH.pushB J2.mi (by omega) ey after
       by_cases c4:(j - 1 == 1)=true
       ·rw[if_pos c4]
        have c4':j - 1=1:=by simpa using c4
        exact wpS_pure (.inl ⟨_,rfl,S2.trans S3,MH.finB M2 (hz' _ _ (by omega))⟩)
       rw[if_neg c4];have c4':j - 1≠1:=by simpa using c4
       obtain⟨x,ex⟩:=at_of (xs:=a) (i:=i - 1) (by omega);refine wpS_bind (zk ex ?_);refine wpS_bind (zF C ((S2.trans S3).b hB) (ha _ (zy ex)) (fun l hl=>?_) (fun l m h1 h2=>R_le sb (by omega) (by omega)) (by omega) fun l l1 l2 l3=>?_)
       ·obtain⟨p,e⟩:=at_of (xs:=b) (i:=0+l) (by omega)
        exact⟨p,e,hb _ (zy e)⟩
       dsimp only;have lz:1<=l:=by
        rcases Nat.lt_or_ge 0 l with q | q
        ·exact q
        ·have q1:=l3 0 (by omega) (by omega)
         rw[R_at e0] at q1;have q2:=h0 x (zy ex) y0 e0;simp[bey] at q1;omega
       have aft:∀y∈b.toList.take l,ρ y<=ρ x:=fun u hu=>by
        obtain⟨d,d1,d2,d3⟩:=zA hu;have q1:=l2 d d1;rw[Nat.zero_add,R_at d3] at q1;simp[bey] at q1;omega
       by_cases hl0:j - 1 - l > 0
       ·rw[if_pos hl0]
        have M3:=MH.blkB l (by omega) M2 fun v hv u hu=>by
         obtain⟨d,d1,d2,d3,d4⟩:=zaw hu;obtain⟨f,f1,f2,f3⟩:=zA hv;have q1:=l3 d d1 d2;rw[Nat.zero_add,R_at d4] at q1;simp[bey] at q1;exact Int.le_trans (zaQ sa f3 ex (by omega)) (by omega)
        by_cases c5:(l == 1)=true
        ·rw[if_pos c5]
         have c5':l=1:=by simpa using c5
         exact wpS_pure (.inl ⟨_,rfl,S2.trans S3,MH.finB M3 (hz' _ _ (by omega))⟩)
        rw[if_neg c5];have c5':l≠1:=by simpa using c5
        rw[if_neg (show ¬ (l == 0)=true by simp; omega)];refine wpS_bind (zk ex ?_);have M4:=MH.pushA M3 (by omega) ex aft
        by_cases c6:(i - 1 == 0)=true
        ·rw[if_pos c6]
         have c6':i - 1=0:=by simpa using c6
         exact wpS_pure (.inl ⟨_,rfl,S2.trans S3,MH.fin M4 (by omega)⟩)
        rw[if_neg c6];have c6':i - 1≠0:=by simpa using c6
        by_cases c7:(decide (i - k<7) && decide (j - 1 - l<7))=true
        ·rw[if_pos c7]
         exact wpS_pure (.inr ⟨S2.trans S3,_,_,_,_,_,_,rfl,⟨M4,by omega,by omega,by omega,by omega⟩,by omega⟩)
        ·rw[if_neg c7]
         exact wpS_pure ⟨S2.trans S3,_,_,_,_,_,_,rfl,⟨M4,by omega,by omega,by omega,by omega⟩,by omega⟩
       ·rw[if_neg hl0]
        have l0:l=j - 1:=by omega
        rw[l0] at aft;refine wpS_bind (zk ex ?_);have M4:=MH.pushA M2 (by omega) ex aft
        by_cases c6:(i - 1 == 0)=true
        ·rw[if_pos c6]
         have c6':i - 1=0:=by simpa using c6
         exact wpS_pure (.inl ⟨_,rfl,S2.trans S3,MH.fin M4 (by omega)⟩)
        rw[if_neg c6];have c6':i - 1≠0:=by simpa using c6
        by_cases c7:(decide (i - k<7) && decide (j - 1 - l<7))=true
        ·rw[if_pos c7]
         exact wpS_pure (.inr ⟨S2.trans S3,_,_,_,_,_,_,rfl,⟨M4,by omega,by omega,by omega,by omega⟩,by omega⟩)
        ·rw[if_neg c7]
         exact wpS_pure ⟨S2.trans S3,_,_,_,_,_,_,rfl,⟨M4,by omega,by omega,by omega,by omega⟩,by omega⟩
end
end Tim
end
section
namespace Tim
open PySem PyProof.Rows
def putAll (xs:Array Keyed) (sa:Nat) (m:List Keyed) (j0:Nat):Array Keyed:=List.foldl (fun a x=>a.setIfInBounds (sa+x.snd) x.fst) xs (m.zipIdx j0)
theorem zbG:∀(m:List Keyed) (xs:Array Keyed) (sa j0:Nat),sa+j0+m.length<=xs.size->∀k,(putAll xs sa m j0)[k]?=if sa+j0<=k/\k<sa+j0+m.length then m[k - (sa+j0)]? else xs[k]?
 | [],xs,sa,j0,_,k=>by
  show xs[k]?=_;rw[if_neg (by rw[List.length_nil]; omega)]
 | p::m,xs,sa,j0,h,k=>by
  rw[List.length_cons] at h;have ih:=zbG m (xs.setIfInBounds (sa+j0) p) sa (j0+1) (by rw[Array.size_setIfInBounds]; omega) k;show (putAll (xs.setIfInBounds (sa+j0) p) sa m (j0+1))[k]?=_;rw[ih,List.length_cons]
  by_cases h1:k=sa+j0
  ·subst h1
   rw[if_neg (by omega),if_pos (by omega),Array.getElem?_setIfInBounds_self_of_lt (by omega)];simp
  ·by_cases h2:sa+(j0+1)<=k/\k<sa+(j0+1)+m.length
   ·rw[if_pos h2,if_pos (by omega)]
    obtain⟨d,hd⟩:∃d,k - (sa+j0)=d+1:=⟨k - (sa+j0) - 1,by omega⟩;rw[hd,List.getElem?_cons_succ]
    congr 1
    omega
   ·rw[if_neg h2,if_neg (by omega),Array.getElem?_setIfInBounds_ne (by omega)]
theorem zeH {m:List Keyed}{xs:Array Keyed}{sa:Nat} (h:sa+m.length<=xs.size):(putAll xs sa m 0).toList=xs.toList.take sa++(m++xs.toList.drop (sa+m.length)):=by
 apply List.ext_getElem?;intro k;have e:=zbG m xs sa 0 (by omega) k;rw[Array.getElem?_toList,e]
 by_cases h1:k<sa
 ·rw[if_neg (by omega),List.getElem?_append_left (by rw[List.length_take,Array.length_toList]; omega),List.getElem?_take_of_lt h1]
  simp
 ·rw[List.getElem?_append_right (by rw[List.length_take,Array.length_toList]; omega)]
  rw[show (xs.toList.take sa).length=sa by rw[List.length_take,Array.length_toList]; omega]
  by_cases h2:k<sa+m.length
  ·rw[if_pos (by omega),List.getElem?_append_left (by omega),Nat.add_zero]
  ·rw[if_neg (by omega),List.getElem?_append_right (by omega),List.getElem?_drop]
   rw[show sa+m.length+(k - sa - m.length)=k by omega];simp
def Seg (ρ:Keyed->Int) (xs:Array Keyed):Nat->List (Nat×Nat×Nat)->Nat->Prop
 | lo,[],hi=>lo=hi
 | lo,(s,n,_)::r,hi=>s=lo/\1<=n/\Srt ρ xs lo (lo+n)/\Seg ρ xs (lo+n) r hi
theorem Seg.le {ρ:Keyed->Int}{xs:Array Keyed}:∀{l:List (Nat×Nat×Nat)}{lo hi:Nat},Seg ρ xs lo l hi->lo+l.length<=hi
 | [],_,_,h=>by have:_=_:=h; simp; omega
 | (s,n,p)::r,lo,hi,h=>by
  obtain⟨_,h1,_,h2⟩:=h;have:=Seg.le h2;rw[List.length_cons];omega
theorem Seg.congr {ρ:Keyed->Int}{xs ys:Array Keyed}:∀{l:List (Nat×Nat×Nat)}{lo hi:Nat},Seg ρ xs lo l hi->(∀k,lo<=k->k<hi->ys[k]?=xs[k]?)->Seg ρ ys lo l hi
 | [],_,_,h,_=>h
 | (s,n,p)::r,lo,hi,h,hk=>by
  obtain⟨h0,h1,h2,h3⟩:=h;have:=Seg.le h3;refine⟨h0,h1,fun i j a b c=>?_,h3.congr fun k a b=>hk k (by omega) b⟩;rw[zaz (hk i (by omega) (by omega)),zaz (hk j (by omega) (by omega))];exact h2 i j a b c
theorem Seg.app {ρ:Keyed->Int}{xs:Array Keyed}:∀{l r:List (Nat×Nat×Nat)}{lo hi:Nat},Seg ρ xs lo (l++r) hi ↔ ∃m,Seg ρ xs lo l m/\Seg ρ xs m r hi
 | [],r,lo,hi=>⟨fun h=>⟨lo,rfl,h⟩,fun ⟨m,h1,h2⟩=>by have e:lo=m:=h1; subst e; exact h2⟩
 | (s,n,p)::l,r,lo,hi=>by
  constructor
  ·rintro⟨h0,h1,h2,h3⟩
   obtain⟨m,h4,h5⟩:=Seg.app.mp h3;exact⟨m,⟨h0,h1,h2,h4⟩,h5⟩
  ·rintro⟨m,⟨h0,h1,h2,h4⟩,h5⟩
   exact⟨h0,h1,h2,Seg.app.mpr ⟨m,h4,h5⟩⟩
theorem ziD {α:Type}{l:List α}{i:Nat}{x y:α} (h1:l[i]?=some x) (h2:l[i+1]?=some y):∃pre post,l=pre++x::y::post/\pre.length=i:=by
 obtain⟨a1,e1⟩:=List.getElem?_eq_some_iff.mp h1;obtain⟨a2,e2⟩:=List.getElem?_eq_some_iff.mp h2;refine⟨l.take i,l.drop (i+2),?_,by rw[List.length_take]; omega⟩
 conv=>lhs; rw[<- List.take_append_drop i l]
 rw[List.drop_eq_getElem_cons a1,List.drop_eq_getElem_cons a2,e1,e2]
theorem zfW {α:Type}{pd:Array α}{i:Nat}{x y z:α}{pre post:List α} (h:pd.toList=pre++x::y::post) (hi:pre.length=i):((pd.setIfInBounds i z).eraseIdxIfInBounds (i+1)).toList=pre++z::post:=by
 subst hi;rw[Array.toList_eraseIdxIfInBounds,Array.toList_setIfInBounds,h,List.set_append_right _ _ (Nat.le_refl _),Nat.sub_self,List.set_cons_zero,List.eraseIdx_append_of_length_le (by omega)];rw[show pre.length+1 - pre.length=1 by omega]
 rfl
section
variable {prog:Program}{w:World}{A:Around}{E:Value->Shared->Prop}{s:Shared}{κ:SortKind}{a₀:Array Keyed}{ρ:Keyed->Int}
theorem zjC {M:Model}{σ:Type}{st st':σ}{Q:PUnit->σ->Prop} (h:Q ⟨⟩ st'):wpS M A E s (set st':StateT σ Sem PUnit) Q st:=by
 unfold wpS; rw[StateT.run_set]; exact wpAny_pure ⟨rfl,h⟩
theorem zi8 {xs:Array Keyed}{lo hi:Nat} (h:Srt ρ xs lo hi) (hz:hi<=xs.size):Le ρ (xs.extract lo hi).toList:=by
 rw[Le,List.pairwise_iff_getElem];intro i j hi' hj' hij;rw[Array.length_toList,Array.size_extract] at hi' hj';have q:=h (lo+i) (lo+j) (by omega) (by omega) (by omega);rw[R_at (getElem?_pos xs (lo+i) (by omega)),R_at (getElem?_pos xs (lo+j) (by omega))] at q
 simpa using q
theorem ziN {xs:Array Keyed}{lo hi i:Nat} (h:lo+i<hi) (hz:hi<=xs.size):(xs.extract lo hi)[i]?=xs[lo+i]?:=by
 rw[Array.getElem?_extract,if_pos (by omega)]
theorem zbE (C:Cmp prog w A s κ a₀ ρ) {st:SortSt} (hB:B κ a₀ st) {i hi:Nat}{Q:Bool->SortSt->Prop} (hS:Seg ρ (arrOf st) 0 (pendingOf st).toList hi) (hz:hi<=a₀.size) (hi1:i+1<(pendingOf st).size)
  (h:∀st',B κ a₀ st'->Seg ρ (arrOf st') 0 (pendingOf st').toList hi->(pendingOf st').size+1=(pendingOf st).size->(∀k,hi<=k->(arrOf st')[k]?=(arrOf st)[k]?)->Q true st'):wpS (model prog w) A E s (mergeAt' i) Q st:=by
 obtain⟨⟨sa,na,p⟩,g1⟩:∃x,(pendingOf st)[i]?=some x:=⟨_,getElem?_pos _ i (by omega)⟩;obtain⟨⟨sb,nb,q⟩,g2⟩:∃x,(pendingOf st)[i+1]?=some x:=⟨_,getElem?_pos _ (i+1) hi1⟩;obtain⟨pre,post,el,hpre⟩:=ziD (l:=(pendingOf st).toList) (by rw[Array.getElem?_toList]; exact g1) (by rw[Array.getElem?_toList]; exact g2);have hS':=hS;rw[el] at hS';obtain⟨m,S1,e1,n1,r1,e2,n2,r2,S2⟩:=Seg.app.mp hS';subst e1 e2;have hl2:=S2.le;have hsz:=hB.size;have fin:∀st',B κ a₀ st'->pendingOf st'=((pendingOf st).setIfInBounds i (sa,na+nb,p)).eraseIdxIfInBounds (i+1)->(∀k,(k<sa \/ sa+na+nb<=k)->(arrOf st')[k]?=(arrOf st)[k]?)->
   Srt ρ (arrOf st') sa (sa+na+nb)->Q true st':=fun st' hB' hP hk hs=>by
  have hl:=zfW (z:=(sa,na+nb,p)) el hpre;refine h st' hB' ?_ ?_ fun k hk'=>hk k (.inr (by omega))
  ·rw[hP,hl]
   refine Seg.app.mpr ⟨sa,S1.congr fun k _ b=>hk k (.inl b),rfl,by omega,by rw[<- Nat.add_assoc]; exact hs,?_⟩;rw[<- Nat.add_assoc];exact S2.congr fun k a _=>hk k (.inr (by omega))
  ·rw[hP,<- Array.length_toList,hl,<- Array.length_toList,el]
   simp;omega
 refine wpS_bind (wpS_get ?_);rw[g1,g2];dsimp only;refine wpS_bind (zjC ?_);show wpS _ _ _ _ _ _ (SortSt.mk' (kindOf st) (arrOf st) (((pendingOf st).setIfInBounds i (sa,na+nb,p)).eraseIdxIfInBounds (i+1)) (gallopOf st) (failedOf st));generalize e2:((SortSt.mk' (kindOf st) (arrOf st) (((pendingOf st).setIfInBounds i (sa,na+nb,p)).eraseIdxIfInBounds (i+1)) (gallopOf st) (failedOf st)):SortSt)=st2;have a2:arrOf st2=arrOf st:=by rw[<- e2]
 have p2:pendingOf st2=((pendingOf st).setIfInBounds i (sa,na+nb,p)).eraseIdxIfInBounds (i+1):=by rw[<- e2]
 have hB2:B κ a₀ st2:=⟨by rw[a2]; exact hB.perm,by rw[<- e2]; exact hB.kind,by rw[<- e2]; exact hB.failed⟩;have pt:∀k,k<(arrOf st).size->∃x,(arrOf st)[k]?=some x/\x∈a₀.toList:=fun k hk=>by
  obtain⟨x,e,m⟩:=zgd hk;exact⟨x,e,hB.mem m⟩
 obtain⟨y0,ey,my⟩:=pt (sa+na) (by omega);refine wpS_bind (zk ey ?_);refine wpS_bind (zF (base:=sa) (n:=na) (hint:=0) (arr:=arrOf st) C hB2 my (fun k hk=>pt _ (by omega)) (fun k l h1 h2=>r1 _ _ (by omega) (by omega) (by omega)) (by omega) fun k k1 k2 k3=>?_);dsimp only;have kle:∀d,d<k->R ρ (arrOf st) (sa+d)<=ρ y0:=fun d hd=>by
  have q1:=k2 d hd;simp[bey] at q1;exact q1
 have kgt:∀d,k<=d->d<na->ρ y0<R ρ (arrOf st) (sa+d):=fun d h1 h2=>by
  have q1:=k3 d h1 h2;simp[bey] at q1;exact q1
 by_cases c1:(na - k == 0)=true
 ·rw[if_pos c1]
  have c1':na - k=0:=by simpa using c1
  refine wpS_pure (fin st2 hB2 p2 (fun k _=>by rw[a2]) ?_);rw[a2];intro x y h1 h2 h3
  by_cases hy:y<sa+na
  ·exact r1 x y h1 h2 hy
  ·by_cases hx:sa+na<=x
   ·exact r2 x y hx h2 h3
   ·have q1:=kle (x - sa) (by omega)
    rw[show sa+(x - sa)=x by omega] at q1;have q2:=r2 (sa+na) y (by omega) (by omega) h3;rw[R_at ey] at q2;omega
 rw[if_neg c1];have c1':na - k≠0:=by simpa using c1
 obtain⟨z,ez,mz⟩:=pt (sa+k+(na - k) - 1) (by omega);refine wpS_bind (zk ez ?_);refine wpS_bind (zF (base:=sa+na) (n:=nb) (hint:=nb - 1) (arr:=arrOf st) C hB2 mz (fun l hl=>pt _ (by omega)) (fun l l' h1 h2=>r2 _ _ (by omega) (by omega) (by omega)) (by omega) fun l l1 l2 l3=>?_);dsimp only;have ez':(arrOf st)[sa+na - 1]?=some z:=by rw[show sa+na - 1=sa+k+(na - k) - 1 by omega]; exact ez
 have llt:∀d,d<l->R ρ (arrOf st) (sa+na+d)<ρ z:=fun d hd=>by
  have q1:=l2 d hd;simp[bey] at q1;exact q1
 have lge:∀d,l<=d->d<nb->ρ z<=R ρ (arrOf st) (sa+na+d):=fun d h1 h2=>by
  have q1:=l3 d h1 h2;simp[bey] at q1;exact q1
 have yz:ρ y0<ρ z:=by
  have q1:=kgt (na - 1) (by omega) (by omega);rw[show sa+(na - 1)=sa+na - 1 by omega,R_at ez'] at q1;exact q1
 have lz:1<=l:=by
  rcases Nat.lt_or_ge 0 l with q1 | q1
  ·exact q1
  ·have q2:=lge 0 (by omega) (by omega)
   rw[Nat.add_zero,R_at ey] at q2;omega
 rw[if_neg (show ¬ (l == 0)=true by simp; omega)];have sA:(( arrOf st).extract (sa+k) (sa+na)).size=na - k:=by rw[Array.size_extract]; omega
 have sBz:(( arrOf st).extract (sa+na) (sa+na+l)).size=l:=by rw[Array.size_extract]; omega
 have memA:∀x∈((arrOf st).extract (sa+k) (sa+na)).toList,x∈a₀.toList/\ρ y0<ρ x/\ρ x<=ρ z:=fun x hx=>by
  obtain⟨d,d1,d2,d3,d4⟩:=zaw hx;have q1:=kgt (d - sa) (by omega) (by omega);rw[show sa+(d - sa)=d by omega,R_at d4] at q1;have q2:=r1 d (sa+na - 1) (by omega) (by omega) (by omega);rw[R_at d4,R_at ez'] at q2;exact⟨hB.mem (zy d4),q1,q2⟩
 have memB:∀x∈((arrOf st).extract (sa+na) (sa+na+l)).toList,x∈a₀.toList/\ρ y0<=ρ x/\ρ x<ρ z:=fun x hx=>by
  obtain⟨d,d1,d2,d3,d4⟩:=zaw hx;have q1:=llt (d - (sa+na)) (by omega);rw[show sa+na+(d - (sa+na))=d by omega,R_at d4] at q1;have q2:=r2 (sa+na) d (by omega) (by omega) (by omega);rw[R_at d4,R_at ey] at q2;exact⟨hB.mem (zy d4),q2,q1⟩
 have lA:Le ρ ((arrOf st).extract (sa+k) (sa+na)).toList:=zi8 (fun x y h1 h2 h3=>r1 x y (by omega) h2 h3) (by omega);have lB:Le ρ ((arrOf st).extract (sa+na) (sa+na+l)).toList:=zi8 (fun x y h1 h2 h3=>r2 x y h1 h2 (by omega)) (by omega);have hb0:∀x∈((arrOf st).extract (sa+k) (sa+na)).toList,∀y,((arrOf st).extract (sa+na) (sa+na+l))[0]?=some y->ρ y<ρ x:=fun x hx y hy=>by
  rw[ziN (by omega) (by omega),Nat.add_zero,ey] at hy;cases hy;exact (memA x hx).2.1
 have hzz:∀z',((arrOf st).extract (sa+k) (sa+na))[((arrOf st).extract (sa+k) (sa+na)).size - 1]?=some z'->∀y∈((arrOf st).extract (sa+na) (sa+na+l)).toList,ρ y<ρ z':=fun z' hz' y hy=>by
  rw[sA,ziN (by omega) (by omega),show sa+k+(na - k - 1)=sa+na - 1 by omega,ez'] at hz';cases hz';exact (memB y hy).2.2
 have done:∀(r:Array Keyed) (st3:SortSt),Merged ρ ((arrOf st).extract (sa+k) (sa+na)) ((arrOf st).extract (sa+na) (sa+na+l)) st2 r st3->
   Q true (setArr st3 (putAll (arrOf st3) (sa+k) r.toList 0)):=fun r st3 ⟨S3,pm,ls⟩=>by
  have a3:arrOf st3=arrOf st:=S3.arr.trans a2;have rl:r.toList.length=na - k+l:=by
   have:=pm.length_eq;rw[List.length_append] at this;simp only[Array.length_toList] at this ⊢;rw[sA,sBz] at this;exact this
  have get:∀x,(putAll (arrOf st) (sa+k) r.toList 0)[x]?=if sa+k<=x/\x<sa+na+l then r.toList[x - (sa+k)]? else (arrOf st)[x]?:=fun x=>by
   have:=zbG r.toList (arrOf st) (sa+k) 0 (by omega) x;rw[this,Nat.add_zero,rl,show sa+k+(na - k+l)=sa+na+l by omega]
  have rm:∀x∈r.toList,ρ y0<=ρ x/\ρ x<=ρ z:=fun x hx=>by
   rcases List.mem_append.mp (pm.mem_iff.mp hx) with q1 | q1
   ·exact⟨Int.le_of_lt (memA x q1).2.1,(memA x q1).2.2⟩
   ·exact⟨(memB x q1).2.1,Int.le_of_lt (memB x q1).2.2⟩
  rw[a3];refine fin _ ?_ (S3.pend.trans p2) (fun x hx=>?_) ?_
  ·have hb3:=S3.b hB2
   refine hb3.setArr ?_;rw[Array.perm_iff_toList_perm,zeH (by omega),a3];have e4:(arrOf st).toList=(arrOf st).toList.take (sa+k)++((((arrOf st).extract (sa+k) (sa+na)).toList++((arrOf st).extract (sa+na) (sa+na+l)).toList)++(arrOf st).toList.drop (sa+k+r.toList.length)):=by
    conv=>lhs; rw[<- List.take_append_drop (sa+k) (arrOf st).toList]
    rw[za8 (sa+k) (na - k),za8 (sa+k+(na - k)) l,show sa+k+(na - k)=sa+na by omega,show sa+k+r.toList.length=sa+na+l by omega,List.append_assoc]
   conv=>rhs; rw[e4]
   exact List.Perm.append_left _ (List.Perm.append_right _ pm)
  ·show (putAll (arrOf st) (sa+k) r.toList 0)[x]?=_
   rw[get,if_neg (by omega)]
  ·show Srt ρ (putAll (arrOf st) (sa+k) r.toList 0) sa (sa+na+nb)
   have RO:∀x,¬ (sa+k<=x/\x<sa+na+l)->R ρ (putAll (arrOf st) (sa+k) r.toList 0) x=R ρ (arrOf st) x:=fun x hx=>zaz (by rw[get,if_neg hx]);have RI:∀x,sa+k<=x->x<sa+na+l->∃u,r.toList[x - (sa+k)]?=some u/\u∈r.toList/\R ρ (putAll (arrOf st) (sa+k) r.toList 0) x=ρ u:=fun x h1 h2=>by
    have hlt:x - (sa+k)<r.toList.length:=by omega
    exact⟨r.toList[x - (sa+k)],getElem?_pos r.toList _ hlt,List.getElem_mem hlt,R_at (by rw[get,if_pos ⟨h1,h2⟩]; exact getElem?_pos r.toList _ hlt)⟩
   have low:∀x,sa<=x->x<sa+k->R ρ (arrOf st) x<=ρ y0:=fun x h1 h2=>by
    have q1:=kle (x - sa) (by omega);rw[show sa+(x - sa)=x by omega] at q1;exact q1
   have high:∀x,sa+na+l<=x->x<sa+na+nb->ρ z<=R ρ (arrOf st) x:=fun x h1 h2=>by
    have q1:=lge (x - (sa+na)) (by omega) (by omega);rw[show sa+na+(x - (sa+na))=x by omega] at q1;exact q1
   intro x y h1 h2 h3
   by_cases x1:x<sa+k
   ·rw[RO x (by omega)]
    have q1:=low x h1 x1
    by_cases y1:y<sa+k
    ·rw[RO y (by omega)]
     exact r1 x y h1 h2 (by omega)
    ·by_cases y2:y<sa+na+l
     ·obtain⟨u,_,mu,eu⟩:=RI y (by omega) y2
      rw[eu];exact Int.le_trans q1 (rm u mu).1
     ·rw[RO y (by omega)]
      have:=high y (by omega) h3;omega
   ·by_cases x2:x<sa+na+l
    ·obtain⟨u,gu,mu,eu⟩:=RI x (by omega) x2
     rw[eu]
     by_cases y2:y<sa+na+l
     ·obtain⟨v,gv,mv,ev⟩:=RI y (by omega) y2
      rw[ev];exact zaQ ls (by rw[<- Array.getElem?_toList]; exact gu) (by rw[<- Array.getElem?_toList]; exact gv) (by omega)
     ·rw[RO y (by omega)]
      exact Int.le_trans (rm u mu).2 (high y (by omega) h3)
    ·rw[RO x (by omega),RO y (by omega)]
     exact r2 x y (by omega) h2 h3
 by_cases c3:na - k<=l
 ·rw[if_pos c3]
  refine wpS_bind (zfC C hB2 (fun x hx=>(memA x hx).1) (fun x hx=>(memB x hx).1) lA lB (show 1<=((arrOf st).extract (sa+k) (sa+na)).size by rw[sA]; omega) (show 1<=((arrOf st).extract (sa+na) (sa+na+l)).size by rw[sBz]; omega) (fun x hx y hy=>Int.le_of_lt (hb0 x hx y hy)) hzz fun r st3 hr=>?_);refine wpS_bind (wpS_modify (wpS_bind (wpS_get (wpS_pure ?_))));have hf:failedOf st3=none:=(hr.1.b hB2).failed;show Q (failedOf st3).isNone _;rw[hf];exact done r st3 hr
 ·rw[if_neg c3]
  refine wpS_bind (zfX C hB2 (fun x hx=>(memA x hx).1) (fun x hx=>(memB x hx).1) lA lB (show 1<=((arrOf st).extract (sa+k) (sa+na)).size by rw[sA]; omega) (show 1<=((arrOf st).extract (sa+na) (sa+na+l)).size by rw[sBz]; omega) hb0 hzz fun r st3 hr=>?_);refine wpS_bind (wpS_modify (wpS_bind (wpS_get (wpS_pure ?_))));have hf:failedOf st3=none:=(hr.1.b hB2).failed;show Q (failedOf st3).isNone _;rw[hf];exact done r st3 hr
end
end Tim
end
section
namespace Tim
open PySem PyProof.Rows
theorem Seg.pow {ρ:Keyed->Int}{xs:Array Keyed}:∀{l l':List (Nat×Nat×Nat)}{lo hi:Nat},Seg ρ xs lo l hi->l'.map (fun x=>(x.1,x.2.1))=l.map (fun x=>(x.1,x.2.1))->Seg ρ xs lo l' hi
 | [],[],_,_,h,_=>h
 | [],_::_,_,_,_,e=>by simp at e
 | _::_,[],_,_,_,e=>by simp at e
 | (s,n,p)::l,(s',n',p')::l',lo,hi,h,e=>by
  simp only[List.map_cons,List.cons.injEq,Prod.mk.injEq] at e;obtain⟨⟨rfl,rfl⟩,e⟩:=e;exact⟨h.1,h.2.1,h.2.2.1,h.2.2.2.pow e⟩
theorem zcH (pd:Array (Nat×Nat×Nat)) (i pw:Nat):(pd.modify i fun x=>(x.1,x.2.1,pw)).toList.map (fun x=>(x.1,x.2.1))=pd.toList.map (fun x=>(x.1,x.2.1)):=by
 rw[Array.toList_modify];apply List.ext_getElem?;intro k;rw[List.getElem?_map,List.getElem?_map,List.getElem?_modify];cases e:pd.toList[k]? with
 | none=>simp
 | some x=>
  simp only[Option.map_some];split <;> rfl
theorem Seg.one {ρ:Keyed->Int}{xs:Array Keyed}{l:List (Nat×Nat×Nat)}{hi:Nat} (h:Seg ρ xs 0 l hi) (hl:l.length<=1):Srt ρ xs 0 hi:=by
 match l,h,hl with
 | [],h,_=>
  have e:0=hi:=h;subst e;intro i j _ _ hj;omega
 | [(s,n,p)],h,_=>
  obtain⟨_,_,h2,h3⟩:=h;have e:0+n=hi:=h3;subst e;exact h2
section
variable {prog:Program}{w:World}{A:Around}{E:Value->Shared->Prop}{s:Shared}{κ:SortKind}{a₀:Array Keyed}{ρ:Keyed->Int}
theorem zez (C:Cmp prog w A s κ a₀ ρ) {st:SortSt}{Q:Unit->SortSt->Prop} (hB:B κ a₀ st) (hp:pendingOf st=#[])
  (h:∀st',B κ a₀ st'->Srt ρ (arrOf st') 0 a₀.size->Q () st'):wpS (model prog w) A E s sortRuns' Q st:=by
 rw[sortRuns'_eq];refine wpS_bind (wpS_get ?_);dsimp only;simp only[hB.size];refine wpS_bind (wpS_mono (wpS_forRange
  (I:=fun x c st'=>∃lo,c=(none,lo)/\B κ a₀ st'/\Seg ρ (arrOf st') 0 (pendingOf st').toList lo/\lo<=a₀.size/\x<=lo)
  (Q:=fun c st'=>c=(none,a₀.size)/\B κ a₀ st'/\Seg ρ (arrOf st') 0 (pendingOf st').toList a₀.size) ?step ?fin ⟨0,rfl,hB,by rw[hp]; exact rfl,by omega,by omega⟩) ?post)
 case fin=>
  rintro c st' ⟨lo,rfl,hB',hS,h1,h2⟩;have e:lo=a₀.size:=by omega
  subst e;exact⟨rfl,hB',hS⟩
 case step=>
  rintro x c st1 _ hx ⟨lo,rfl,hB1,hS1,h1,h2⟩;dsimp only
  by_cases hge:lo ≥ a₀.size
  ·rw[if_pos hge]
   have e:lo=a₀.size:=by omega
   subst e;exact wpS_pure ⟨rfl,hB1,hS1⟩
  rw[if_neg hge];refine wpS_bind (zeR C (by omega) (by omega) hB1 fun m st2 hB2 P2 m1 m2 sr2=>?_);dsimp only;have hS2:Seg ρ (arrOf st2) 0 (pendingOf st2).toList lo:=by rw[P2.pend]; exact hS1.congr fun k _ b=>P2.arr k b
  have tail:∀(n:Nat) (st3:SortSt) (Q':ForInStep (Option Unit×Nat)->SortSt->Prop),B κ a₀ st3->Seg ρ (arrOf st3) 0 (pendingOf st3).toList lo->1<=n->lo+n<=a₀.size->Srt ρ (arrOf st3) lo (lo+n)->
    (∀st',B κ a₀ st'->Seg ρ (arrOf st') 0 (pendingOf st').toList (lo+n)->Q' (.yield (none,lo+n)) st')->
    (∀st',B κ a₀ st'->Seg ρ (arrOf st') 0 (pendingOf st').toList lo->Srt ρ (arrOf st') lo (lo+n)->wpS (model prog w) A E s (do
     modify fun s=>setPending s ((pendingOf s).push (lo,n,0))
     pure (ForInStep.yield (none,lo+n))) Q' st'):=by
   intro n st3 Q' _ _ n1 n2 _ hq st' hB' hS' sr';refine wpS_bind (wpS_modify (wpS_pure (hq _ ⟨hB'.perm,hB'.kind,hB'.failed⟩ ?_)));show Seg ρ (arrOf st') 0 ((pendingOf st').push (lo,n,0)).toList (lo+n);rw[Array.toList_push];exact Seg.app.mpr ⟨lo,hS',rfl,n1,sr',rfl⟩
  have inner:∀(n pw:Nat) (st3:SortSt) (f:Nat->Option Unit×Unit->StateT SortSt Sem (ForInStep (Option Unit×Unit))),B κ a₀ st3->Seg ρ (arrOf st3) 0 (pendingOf st3).toList lo->Srt ρ (arrOf st3) lo (lo+n)->lo+n<=a₀.size->
    (∀x st' (Q':ForInStep (Option Unit×Unit)->SortSt->Prop),B κ a₀ st'->Seg ρ (arrOf st') 0 (pendingOf st').toList lo->Q' (.done (none,())) st'->
     (∀st'',B κ a₀ st''->Seg ρ (arrOf st'') 0 (pendingOf st'').toList lo->(∀k,lo<=k->(arrOf st'')[k]?=(arrOf st')[k]?)->Q' (.yield (none,())) st'')->wpS (model prog w) A E s (f x (none,())) Q' st')->
    wpS (model prog w) A E s (forIn [0:a₀.size] (none,()) f) (fun c st'=>c=(none,())/\B κ a₀ st'/\Seg ρ (arrOf st') 0 (pendingOf st').toList lo/\Srt ρ (arrOf st') lo (lo+n)) st3:=by
   intro n pw st3 f hB3 hS3 sr3 hz hf;refine wpS_forRange (I:=fun _ c st'=>c=(none,())/\B κ a₀ st'/\Seg ρ (arrOf st') 0 (pendingOf st').toList lo/\Srt ρ (arrOf st') lo (lo+n)) ?_ (fun _ _ q=>q) ⟨rfl,hB3,hS3,sr3⟩;rintro x c st' _ _ ⟨rfl,hB',hS',sr'⟩;refine hf x st' _ hB' hS' ⟨rfl,hB',hS',sr'⟩ fun st'' hB'' hS'' hk=>⟨rfl,hB'',hS'',fun i j a b c=>?_⟩;rw[zaz (hk i a),zaz (hk j (by omega))];exact sr' i j a b c
  have whole:∀(n:Nat) (st3:SortSt),B κ a₀ st3->Seg ρ (arrOf st3) 0 (pendingOf st3).toList lo->1<=n->lo+n<=a₀.size->Srt ρ (arrOf st3) lo (lo+n)->True:=fun _ _ _ _ _ _ _=>trivial;have fin2:∀n st',1<=n->lo+n<=a₀.size->B κ a₀ st'->Seg ρ (arrOf st') 0 (pendingOf st').toList (lo+n)->∃lo',((none,lo+n):Option Unit×Nat)=(none,lo')/\B κ a₀ st'/\Seg ρ (arrOf st') 0 (pendingOf st').toList lo'/\lo'<=a₀.size/\x+1<=lo':=
   fun n st' n1 n2 b sg=>⟨_,rfl,b,sg,n2,by omega⟩
  by_cases hlt:m<minRun' a₀.size a₀.size 0
  ·rw[if_pos hlt]
   refine wpS_bind (wpS_lift (wpAny_rule ⟨rfl,?_⟩));refine wpS_bind (zc4 C (by omega) (by omega) hB2 sr2 fun st3 hB3 P3 sr3=>?_);simp only[Bool.not_true,Bool.false_eq_true,if_false];have hS3:Seg ρ (arrOf st3) 0 (pendingOf st3).toList lo:=by rw[P3.pend]; exact hS2.congr fun k _ b=>P3.arr k b
   refine wpS_bind (wpS_get ?_);cases hb:(pendingOf st3).back? with
   | none=>
    dsimp only;exact tail _ st3 _ hB3 hS3 (by omega) (by omega) sr3 (fun st' b sg=>fin2 _ st' (by omega) (by omega) b sg) st3 hB3 hS3 sr3
   | some y=>
    obtain⟨s1,n1,p1⟩:=y;dsimp only;refine wpS_bind (wpS_mono (inner _ 0 st3 _ hB3 hS3 sr3 (by omega) ?_) ?_)
    ·intro x st' Q' hB' hS' q1 q2
     refine wpS_bind (wpS_get ?_)
     by_cases hsz:(pendingOf st').size > 1
     ·rw[if_pos hsz]
      obtain⟨⟨o1,o2,o3⟩,eo⟩:∃y,(pendingOf st')[(pendingOf st').size - 2]?=some y:=⟨_,getElem?_pos _ _ (by omega)⟩;rw[eo];dsimp only;split
      ·exact wpS_pure q1
      ·refine wpS_bind (zbE C hB' hS' h1 (by omega) fun st'' hB'' hS'' _ hk=>?_)
       simp only[Bool.not_true,Bool.false_eq_true,if_false];exact wpS_pure (q2 st'' hB'' hS'' hk)
     ·rw[if_neg hsz]
      exact wpS_pure q1
    ·rintro c st4 ⟨rfl,hB4,hS4,sr4⟩
     dsimp only;refine wpS_bind (wpS_modify ?_);refine tail _ st3 _ hB3 hS3 (by omega) (by omega) sr3 (fun st' b sg=>fin2 _ st' (by omega) (by omega) b sg) _ ⟨hB4.perm,hB4.kind,hB4.failed⟩ ?_ sr4;exact hS4.pow (zcH _ _ _)
  ·rw[if_neg hlt]
   refine wpS_bind (wpS_get ?_);cases hb:(pendingOf st2).back? with
   | none=>
    dsimp only;exact tail _ st2 _ hB2 hS2 m1 (by omega) sr2 (fun st' b sg=>fin2 _ st' m1 (by omega) b sg) st2 hB2 hS2 sr2
   | some y=>
    obtain⟨s1,n1,p1⟩:=y;dsimp only;refine wpS_bind (wpS_mono (inner _ 0 st2 _ hB2 hS2 sr2 (by omega) ?_) ?_)
    ·intro x st' Q' hB' hS' q1 q2
     refine wpS_bind (wpS_get ?_)
     by_cases hsz:(pendingOf st').size > 1
     ·rw[if_pos hsz]
      obtain⟨⟨o1,o2,o3⟩,eo⟩:∃y,(pendingOf st')[(pendingOf st').size - 2]?=some y:=⟨_,getElem?_pos _ _ (by omega)⟩;rw[eo];dsimp only;split
      ·exact wpS_pure q1
      ·refine wpS_bind (zbE C hB' hS' h1 (by omega) fun st'' hB'' hS'' _ hk=>?_)
       simp only[Bool.not_true,Bool.false_eq_true,if_false];exact wpS_pure (q2 st'' hB'' hS'' hk)
     ·rw[if_neg hsz]
      exact wpS_pure q1
    ·rintro c st4 ⟨rfl,hB4,hS4,sr4⟩
     dsimp only;refine wpS_bind (wpS_modify ?_);refine tail _ st2 _ hB2 hS2 m1 (by omega) sr2 (fun st' b sg=>fin2 _ st' m1 (by omega) b sg) _ ⟨hB4.perm,hB4.kind,hB4.failed⟩ ?_ sr4;exact hS4.pow (zcH _ _ _)
 case post=>
  rintro c st' ⟨rfl,hB',hS'⟩;dsimp only;refine wpS_bind (wpS_mono (wpS_forRange (I:=fun x c st''=>c=(none,())/\B κ a₀ st''/\Seg ρ (arrOf st'') 0 (pendingOf st'').toList a₀.size/\((pendingOf st'').size<=1 \/ (pendingOf st'').size+x<=a₀.size))
   (Q:=fun c st''=>c=(none,())/\B κ a₀ st''/\Srt ρ (arrOf st'') 0 a₀.size) ?fstep ?ffin ⟨rfl,hB',hS',.inr ?_⟩) ?fpost)
  case ffin=>
   rintro c st'' ⟨rfl,hB2,hS2,hh⟩;exact⟨rfl,hB2,hS2.one (by rw[Array.length_toList]; omega)⟩
  case fpost=>
   rintro c st'' ⟨rfl,hB2,sr⟩;exact wpS_pure (h _ hB2 sr)
  case fstep=>
   rintro x c st'' _ hx ⟨rfl,hB2,hS2,hh⟩;refine wpS_bind (wpS_get ?_)
   by_cases hsz:(pendingOf st'').size<=1
   ·rw[if_pos hsz]
    exact wpS_pure ⟨rfl,hB2,hS2.one (by rw[Array.length_toList]; omega)⟩
   ·rw[if_neg hsz]
    refine wpS_bind (zbE C hB2 hS2 (Nat.le_refl _) ?_ fun st3 hB3 hS3 hl3 _=>?_)
    ·repeat' split
     all_goals omega
    ·simp only[Bool.not_true,Bool.false_eq_true,if_false]
     exact wpS_pure ⟨rfl,hB3,hS3,by omega⟩
  ·have:=hS'.le
   rw[Array.length_toList] at this;omega
end
end Tim
end
section
namespace Srt
open PySem PyProof.Rows HT
theorem zek:∀a:List Int,lexLt a a=false
 | []=>rfl
 | x::a=>by rw[zM,if_pos rfl]; exact zek a
theorem zat:∀{a b c:List Int},lexLt a b=true->lexLt b c=true->lexLt a c=true
 | [],[],_,h,_=>by cases h
 | [],_::_,[],_,h=>by cases h
 | [],_::_,_::_,_,_=>rfl
 | _::_,[],_,h,_=>by cases h
 | _::_,_::_,[],_,h=>by cases h
 | x::a,y::b,z::c,h1,h2=>by
  rw[zM] at h1 h2 ⊢
  by_cases e1:x=y
  ·rw[if_pos e1] at h1
   by_cases e2:y=z
   ·rw[if_pos e2] at h2
    rw[if_pos (e1.trans e2)];exact zat h1 h2
   ·rw[if_neg e2] at h2
    rw[if_neg (by omega)];have:=of_decide_eq_true h2;exact decide_eq_true (by omega)
  ·rw[if_neg e1] at h1
   have q1:=of_decide_eq_true h1
   by_cases e2:y=z
   ·rw[if_neg (by omega)]
    exact decide_eq_true (by omega)
   ·rw[if_neg e2] at h2
    have q2:=of_decide_eq_true h2;rw[if_neg (by omega)];exact decide_eq_true (by omega)
theorem zf5:∀{a b:List Int},lexLt a b=false->lexLt b a=false->a=b
 | [],[],_,_=>rfl
 | [],_::_,h,_=>by cases h
 | _::_,[],_,h=>by cases h
 | x::a,y::b,h1,h2=>by
  rw[zM] at h1 h2
  by_cases e:x=y
  ·subst e
   rw[if_pos rfl] at h1 h2;rw[zf5 h1 h2]
  ·rw[if_neg e] at h1
   rw[if_neg (Ne.symm e)] at h2;have:=of_decide_eq_false h1;have:=of_decide_eq_false h2;omega
def rk (ls:List (List Int)) (l:List Int):Int:=((ls.filter fun m=>lexLt m l).length:Nat)
theorem zkD {ls:List (List Int)}{l m:List Int} (hl:l∈ls) (hm:m∈ls):decide (rk ls l<rk ls m)=lexLt l m:=by
 have mono:∀{a b:List Int},(∀x,lexLt x a=true->lexLt x b=true)->∀k:List (List Int),(k.filter fun x=>lexLt x a).length<=(k.filter fun x=>lexLt x b).length:=by
  intro a b hab k
  induction k with
  | nil=>exact Nat.le_refl _
  | cons x k ih=>
   rw[List.filter_cons,List.filter_cons]
   by_cases q:lexLt x a=true
   ·rw[if_pos q,if_pos (hab x q),List.length_cons,List.length_cons]; omega
   ·rw[if_neg q]
    split
    ·rw[List.length_cons]; omega
    ·exact ih
 have strict:∀{a b:List Int},(∀x,lexLt x a=true->lexLt x b=true)->lexLt a b=true->∀k:List (List Int),a∈k->(k.filter fun x=>lexLt x a).length<(k.filter fun x=>lexLt x b).length:=by
  intro a b hab h k
  induction k with
  | nil=>intro q; cases q
  | cons x k ih=>
   intro hk;rw[List.filter_cons,List.filter_cons];rcases List.mem_cons.mp hk with e | e
   ·subst e
    rw[if_neg (by rw[zek]; exact Bool.false_ne_true),if_pos h,List.length_cons];have:=mono hab k;omega
   ·have:=ih e
    by_cases q:lexLt x a=true
    ·rw[if_pos q,if_pos (hab x q),List.length_cons,List.length_cons]; omega
    ·rw[if_neg q]
     split
     ·rw[List.length_cons]; omega
     ·exact this
 unfold rk;cases q:lexLt l m with
 | true=>
  have:=strict (a:=l) (b:=m) (fun x hx=>zat hx q) q ls hl;exact decide_eq_true (by omega)
 | false=>
  have:=mono (a:=m) (b:=l) (fun x hx=>by
   cases z:lexLt x l with
   | true=>rfl
   | false=>
    cases z2:lexLt l x with
    | true=>rw[zat z2 hx] at q; cases q
    | false=>rw[zf5 z z2] at hx; rw[hx] at q; cases q) ls
  exact decide_eq_false (by omega)
structure By (prog:Program) (w:World) (A:Around) (good:Heap->Prop) (us:List Value) (ls:List (List Int)):Prop where
 len:us.length=ls.length
 fn:∀(i j:Nat) u l m,us[i]?=some u->us[j]?=some u->ls[i]?=some l->ls[j]?=some m->l=m
 ask:2<=us.length->∃κ:SortKind,(∀(s:Shared) (Q:SortKind->Shared->Prop) (E:Value->Shared->Prop),good s.heap->Q κ s->wpAny (model prog w) A (keyKind' us.toArray) Q E s)/\
  ∀(i j:Nat) u v l m,us[i]?=some u->us[j]?=some v->ls[i]?=some l->ls[j]?=some m->∀(s:Shared) (Q:Bool->Shared->Prop) (E:Value->Shared->Prop),good s.heap->Q (lexLt l m) s->wpAny (model prog w) A (keyLt' κ u v) Q E s
open Classical in
noncomputable def lof (us:List Value) (ls:List (List Int)) (u:Value):List Int:=if h:∃l,∃i:Nat,us[i]?=some u/\ls[i]?=some l then h.choose else []
theorem zdx {us:List Value}{ls:List (List Int)} (fn:∀(i j:Nat) u l m,us[i]?=some u->us[j]?=some u->ls[i]?=some l->ls[j]?=some m->l=m) {i:Nat}{u:Value}{l:List Int} (h1:us[i]?=some u) (h2:ls[i]?=some l):lof us ls u=l:=by
 unfold lof;have h:∃l,∃i:Nat,us[i]?=some u/\ls[i]?=some l:=⟨l,i,h1,h2⟩;rw[dif_pos h];obtain⟨j,e1,e2⟩:=h.choose_spec;exact fn j i u _ l e1 h1 e2 h2
noncomputable def zfT (us:List Value) (ls:List (List Int)) (p:Keyed):Int:=rk ls (lof us ls p.1)
section
variable {prog:Program}{w:World}{A:Around}{E:Value->Shared->Prop}{s:Shared}{good:Heap->Prop}{us vs:List Value}{ls:List (List Int)}
theorem zft (h:us.length=vs.length) {p:Keyed} (hp:p∈(us.toArray.zip vs.toArray).toList):∃i:Nat,us[i]?=some p.1/\vs[i]?=some p.2:=by
 have e:(us.toArray.zip vs.toArray).toList=us.zip vs:=by simp
 rw[e] at hp;obtain⟨i,hi,e2⟩:=List.mem_iff_getElem.mp hp;rw[List.getElem_zip] at e2;rw[List.length_zip] at hi;refine⟨i,?_,?_⟩
 ·rw[List.getElem?_eq_getElem (by omega),<- e2]
 ·rw[List.getElem?_eq_getElem (by omega),<- e2]
theorem zkH (B:By prog w A good us ls) (hl:us.length=vs.length) (hg:good s.heap) {κ:SortKind} (h2:2<=us.length) (h64:us.length<1000)
  (hk:∀(i j:Nat) u v l m,us[i]?=some u->us[j]?=some v->ls[i]?=some l->ls[j]?=some m->∀(s:Shared) (Q:Bool->Shared->Prop) (E:Value->Shared->Prop),good s.heap->Q (lexLt l m) s->wpAny (model prog w) A (keyLt' κ u v) Q E s)
  {Q:Unit->SortSt->Prop} (h:∀st',(arrOf st').Perm (us.toArray.zip vs.toArray)->failedOf st'=none->Tim.Srt (zfT us ls) (arrOf st') 0 vs.length->Q () st') :
  wpS (model prog w) A E s sortRuns' Q (SortSt.mk' κ (us.toArray.zip vs.toArray) #[] 7 none):=by
 have hz:(us.toArray.zip vs.toArray).size=vs.length:=by simp; omega
 refine Tim.zez (κ:=κ) (a₀:=us.toArray.zip vs.toArray) (ρ:=zfT us ls) ⟨fun x y hx hy Q' E' hq=>?_⟩ ⟨Array.Perm.refl _,rfl,rfl⟩ rfl fun st' b sr=>h st' b.perm b.failed (by rw[<- hz]; exact sr);obtain⟨i,e1,_⟩:=zft hl hx;obtain⟨j,e2,_⟩:=zft hl hy;have hi:i<ls.length:=by rw[<- B.len]; exact (List.getElem?_eq_some_iff.mp e1).1
 have hj:j<ls.length:=by rw[<- B.len]; exact (List.getElem?_eq_some_iff.mp e2).1
 have f1:ls[i]?=some ls[i]:=List.getElem?_eq_getElem hi;have f2:ls[j]?=some ls[j]:=List.getElem?_eq_getElem hj;refine hk i j _ _ _ _ e1 e2 f1 f2 s Q' E' hg ?_;unfold zfT at hq;rw[zdx B.fn e1 f1,zdx B.fn e2 f2,zkD (List.getElem_mem hi) (List.getElem_mem hj)] at hq;exact hq
theorem zipget {α β:Type}:∀(l:List α) (m:List β) (i:Nat),(l.zip m)[i]?=(l[i]?).bind fun x=>(m[i]?).map fun y=>(x,y)
 | [],m,i=>by simp
 | x::l,[],i=>by cases h:(x::l)[i]? <;> simp
 | x::l,y::m,0=>rfl
 | x::l,y::m,i+1=>by
  rw[List.zip_cons_cons,List.getElem?_cons_succ,List.getElem?_cons_succ,List.getElem?_cons_succ];exact zipget l m i
theorem zkI (B:By prog w A good us ls) (hl:us.length=vs.length) {xs:Array Keyed} (hp:xs.Perm (us.toArray.zip vs.toArray)) (hs:Tim.Srt (zfT us ls) xs 0 vs.length) :
  ∃ps:List (List Int×Value),ps.Perm (ls.zip vs)/\xs.toList.map (·.2)=ps.map (·.2)/\ps.Pairwise fun (a b:List Int×Value)=>HT.lexLt b.1 a.1=false:=by
 have pl:xs.toList.Perm (us.zip vs):=by
  have:=Array.perm_iff_toList_perm.mp hp
  simpa using this
 refine⟨xs.toList.map fun p=>(lof us ls p.1,p.2),?_,by rw[List.map_map]; rfl,?_⟩
 ·have e:(us.zip vs).map (fun p:Keyed=>(lof us ls p.1,p.2))=ls.zip vs:=by
   apply List.ext_getElem?;intro i;rw[List.getElem?_map,zipget,zipget];cases e1:us[i]? with
   | none=>
    have:ls[i]?=none:=List.getElem?_eq_none (by rw[<- B.len]; exact List.getElem?_eq_none_iff.mp e1);rw[this]; rfl
   | some u=>
    have hi:i<ls.length:=by rw[<- B.len]; exact (List.getElem?_eq_some_iff.mp e1).1
    have f1:ls[i]?=some ls[i]:=List.getElem?_eq_getElem hi;rw[f1];cases e2:vs[i]? with
    | none=>rfl
    | some v=>
     show some (lof us ls u,v)=some (ls[i],v);rw[zdx B.fn e1 f1]
  rw[<- e];exact pl.map _
 ·rw[List.pairwise_map,List.pairwise_iff_getElem]
  intro i j hi hj hij;have hsz:xs.size=vs.length:=by
   have:=pl.length_eq;rw[Array.length_toList,List.length_zip] at this;omega
  rw[Array.length_toList] at hi hj;have q:=hs i j (Nat.zero_le _) (Nat.le_of_lt hij) (by omega);have a1:xs[i]?=some xs[i]:=getElem?_pos xs i hi;have a2:xs[j]?=some xs[j]:=getElem?_pos xs j hj;rw[Tim.R_at a1,Tim.R_at a2] at q;simp only[Array.getElem_toList];obtain⟨i',g1,_⟩:=zft hl (p:=xs[i]) (by
   have:=pl.mem_iff.mp (show xs[i]∈xs.toList by simp)
   simpa using this)
  obtain⟨j',g2,_⟩:=zft hl (p:=xs[j]) (by
   have:=pl.mem_iff.mp (show xs[j]∈xs.toList by simp)
   simpa using this)
  have hi':i'<ls.length:=by rw[<- B.len]; exact (List.getElem?_eq_some_iff.mp g1).1
  have hj':j'<ls.length:=by rw[<- B.len]; exact (List.getElem?_eq_some_iff.mp g2).1
  have f1:ls[i']?=some ls[i']:=List.getElem?_eq_getElem hi';have f2:ls[j']?=some ls[j']:=List.getElem?_eq_getElem hj';unfold zfT at q;rw[zdx B.fn g1 f1,zdx B.fn g2 f2] at q ⊢;have:=zkD (ls:=ls) (List.getElem_mem hj') (List.getElem_mem hi');rw[<- this];exact decide_eq_false (by omega)
end
end Srt
end
section
namespace Srt
open PySem PyProof.Rows PySem.W
section
variable {prog:Program}{w:World}{A:Around}{E:Value->Shared->Prop}{s:Shared}{good:Heap->Prop}{us vs:List Value}{ls:List (List Int)}
theorem zjS {ns:List Int} (hi:IntsAre us ns):By prog w A (fun _=>True) us (ns.map fun n=>[n]):=by
 have hlen:=hi.length;have at_:∀(i:Nat) u l,us[i]?=some u->(ns.map fun n=>[n])[i]?=some l->∃n t,u=.int n t/\l=[n]:=fun i u l h1 h2=>by
  obtain⟨t,e⟩:=IntsAre.int_at hi i u h1;rw[List.getElem?_map] at h2;cases e2:ns[i]? with
  | none=>rw[e2] at h2; cases h2
  | some n=>
   rw[e2] at h2;have e3:ns.getD i 0=n:=by rw[List.getD_eq_getElem?_getD,e2]; rfl
   rw[e3] at e;exact⟨n,t,e,(Option.some.inj h2).symm⟩
 refine⟨by rw[List.length_map,hlen],fun i j u l m h1 h2 h3 h4=>?_,fun h2=>⟨oneType',fun s Q E _ hq=>?_,fun i j u v l m h1 h2 h3 h4 s Q E _ hq=>?_⟩⟩
 ·obtain⟨n,t,e1,rfl⟩:=at_ i u l h1 h3
  obtain⟨n',t',e2,rfl⟩:=at_ j u m h2 h4;rw[e1] at e2;cases e2
  rfl
 ·match us,hi,h2 with
  | [],_,h2=>simp at h2
  | [_],_,h2=>simp at h2
  | v₁::v₂::rest,hi,_=>
   rw[keyKind_ints hi];exact wpAny_pure hq
 ·obtain⟨n,t,rfl,rfl⟩:=at_ i u l h1 h3
  obtain⟨n',t',rfl,rfl⟩:=at_ j v m h2 h4;refine kat_lt_int ?_;have:HT.lexLt [n] [n']=decide (n<n'):=by
   rw[HT.zM]
   by_cases e:n=n'
   ·rw[if_pos e,HT.zbq]; exact (decide_eq_false (by omega)).symm
   ·rw[if_neg e]
  rw[this] at hq;exact hq
def IsPr (h:Heap) (u:Value) (l:List Int):Prop:=∃(a b:Addr) (n:Int) (t:Tok) (its:List Value) (ps:List Int),u=.ref a/\l=n::ps/\IsTup h a #[.int n t,.ref b]/\IsTup h b its.toArray/\IntsAre its ps
theorem IsTup.inj {h:Heap}{a:Addr}{xs ys:Array Value} (h1:IsTup h a xs) (h2:IsTup h a ys):xs=ys:=by
 obtain⟨o,e,_,n,d⟩:=h1;obtain⟨o',e',_,n',d'⟩:=h2;rw[e] at e'; cases e';rw[d] at d';injection d'
theorem IntsAre.inj {vs:List Value}{ns ms:List Int} (h:IntsAre vs ns) (g:IntsAre vs ms):ns=ms:=by
 induction h generalizing ms with
 | nil=>cases g; rfl
 | cons n t h ih=>cases g with | cons _ _ h'=>rw[ih h']
theorem IsPr.inj {h:Heap}{u:Value}{l m:List Int} (h1:IsPr h u l) (h2:IsPr h u m):l=m:=by
 obtain⟨a,b,n,t,its,ps,rfl,rfl,t1,t2,i1⟩:=h1;obtain⟨a',b',n',t',its',ps',e,rfl,t1',t2',i1'⟩:=h2;cases e;have:=Srt.IsTup.inj t1 t1';cases this;have e2:=Srt.IsTup.inj t2 t2';have e3:its=its':=by simpa using e2
 subst e3;rw[IntsAre.inj i1 i1']
theorem zlH {x y:Value}{l m:List Int}{Q:Bool->Shared->Prop} (h1:IsPr s.heap x l) (h2:IsPr s.heap y m) (hu:A.units<cLine) (hq:Q (HT.lexLt l m) s):wpAny (model prog w) A (keyLt' (tuples' true) x y) Q E s:=by
 obtain⟨a,b,n,t,its,ps,rfl,rfl,t1,t2,i1⟩:=h1;obtain⟨a',b',n',t',its',ps',rfl,rfl,t1',t2',i1'⟩:=h2;obtain⟨o,e,hc,k,d⟩:=id t1;obtain⟨o',e',hc',k',d'⟩:=id t1';refine kat_lt e d e' d' ?_;show KatLex prog w A true (decide (2<2)) Q [(.int n t,.int n' t'),(.ref b,.ref b')] 0 s;rw[HT.zM] at hq;refine kat_cons (wpAny_mono (SeqAt.EqAt.int_int n t n' t' prog w (fun _ _=>False) _ ⟨rfl,rfl⟩:wpAny (model prog w) A (eqBool (.int n t) (.int n' t')) (fun e s'=>e=(n == n')/\s'=s) (fun _ _=>False) s) (fun e1 s1 he=>?_) fun _ _ z=>z);obtain⟨rfl,rfl⟩:=he
 by_cases en:n=n'
 ·have eb:(n == n')=true:=by simpa using en
  rw[eb];rw[if_pos en] at hq;refine kat_yes (kat_cons ?_);have ktup:∀{c:Addr} {cs:List Value} {qs:List Int},IsTup s1.heap c cs.toArray->IntsAre cs qs->IsTupleKey (L2.zv prog w) s1.heap (qs.map Sum.inl) c:=fun {c cs qs} hc hi=>by
   obtain⟨o,e,hcl,k,d⟩:=hc;refine⟨o,cs.toArray,k,e,hcl,d,?_⟩;have:∀{cs:List Value} {qs:List Int},IntsAre cs qs->ItemsAre (L2.zv prog w) (qs.map Sum.inl) cs:=by
    intro cs qs hi
    induction hi with
    | nil=>exact .nil
    | cons n t h ih=>exact .cons (L2.zbh prog w n t) ih
   simpa using this hi
  refine wpAny_eqBool_tuple (knd:=L2.zv prog w) hu (ktup t2 i1) (ktup t2' i1') ?_
  by_cases ep:ps=ps'
  ·subst ep
   rw[decide_eq_true rfl];rw[zek] at hq;exact kat_yes (kat_nil hq)
  ·have:¬ (ps.map Sum.inl:List L2.Key)=ps'.map Sum.inl:=fun z=>ep (List.map_inj_right (f:=(Sum.inl:Int->L2.Key)) (fun x y h=>Sum.inl.inj h) |>.mp z)
   rw[decide_eq_false this];refine kat_no ?_;show wpAny (model prog w) A (oneLt' false (.ref b) (.ref b')) Q (fun _ _=>False) s1;exact kat_one _ _ (HT.zfO t2 t2' (by simpa using i1) (by simpa using i1') hu hq)
 ·have eb:(n == n')=false:=by simpa using en
  rw[eb];rw[if_neg en] at hq;refine kat_no ?_;show wpAny (model prog w) A (oneLt' true (.int n t) (.int n' t')) Q (fun _ _=>False) s1;exact oneLt_int hq
theorem zgC {h:Heap}:∀{us:List Value}{ls:List (List Int)},us.length=ls.length->(∀(i:Nat) u l,us[i]?=some u->ls[i]?=some l->IsPr h u l)->∃fs,KatTups h us fs/\fs.length=us.length/\∀f∈fs,∃n t,f=Value.int n t
 | [],[],_,_=>⟨[],.nil,rfl,fun f hf=>nomatch hf⟩
 | u::us,l::ls,hl,hp=>by
  obtain⟨fs,a1,a2,a3⟩:=zgC (us:=us) (ls:=ls) (by simpa using hl) fun i u l h1 h2=>hp (i+1) u l (by simpa using h1) (by simpa using h2);obtain⟨a,b,n,t,its,ps,rfl,rfl,t1,t2,i1⟩:=hp 0 u l rfl rfl;obtain⟨o,e,hc,k,d⟩:=id t1;refine⟨.int n t::fs,.cons e hc d rfl a1,by simp[a2],fun f hf=>?_⟩;rcases List.mem_cons.mp hf with rfl | hf
  ·exact⟨n,t,rfl⟩
  ·exact a3 f hf
 | [],_::_,h,_=>by simp at h
 | _::_,[],h,_=>by simp at h
theorem zja (hl:us.length=ls.length) (hu:A.units<cLine) (hg:∃h,good h) (hp:∀h,good h->∀(i:Nat) u l,us[i]?=some u->ls[i]?=some l->IsPr h u l):By prog w A good us ls:=by
 refine⟨hl,fun i j u l m h1 h2 h3 h4=>?_,fun h2=>⟨tuples' true,fun s Q E gs hq=>?_,fun i j u v l m h1 h2 h3 h4 s Q E gs hq=>?_⟩⟩
 ·obtain⟨h,gh⟩:=hg
  exact (hp h gh i u l h1 h3).inj (hp h gh j u m h2 h4)
 ·obtain⟨fs,a1,a2,a3⟩:=zgC hl (hp _ gs)
  refine kat_kind (T:=.type "int") a1 (by omega) (fun f hf=>?_) (by decide) hq;obtain⟨n,t,rfl⟩:=a3 f hf;exact Looks.of_pure rfl
 ·exact zlH (hp _ gs i u l h1 h3) (hp _ gs j v m h2 h4) hu hq
end
end Srt
end
section
namespace Srt
open PySem PyProof.Rows PySem.W
def Out (ls:List (List Int)) (vs out:List Value):Prop:=∃ps:List (List Int×Value),ps.Perm (ls.zip vs)/\out=ps.map (·.2)/\ps.Pairwise fun (a b:List Int×Value)=>HT.lexLt b.1 a.1=false
section
variable {prog:Program}{w:World}{A:Around}{E:Value->Shared->Prop}{s:Shared}{good:Heap->Prop}{us vs:List Value}{ls:List (List Int)}
theorem zgF (hl:ls.length=vs.length) (hu:us.length=vs.length) (h2:vs.length<2):Out ls vs ((us.toArray.zip vs.toArray).map (·.2)).toList:=by
 have e:((us.toArray.zip vs.toArray).map (·.2)).toList=vs:=by
  rw[Array.toList_map,show (us.toArray.zip vs.toArray).toList=us.zip vs by simp,List.map_snd_zip (by omega)]
 rw[e];refine⟨ls.zip vs,List.Perm.refl _,by rw[List.map_snd_zip (by omega)],?_⟩;have hz:(ls.zip vs).length<2:=by rw[List.length_zip]; omega
 match ls.zip vs,hz with
 | [],_=>exact List.Pairwise.nil
 | [x],_=>simp
 | _::_::_,h=>simp only[List.length_cons] at h; omega
theorem zfd (B:By prog w A good us ls) (hl:us.length=vs.length) (h64:vs.length<1000) (hg:good s.heap) {P:PySem.Fin->Shared->Prop}{G:Unit×SortSt->Sem PySem.Fin}
  (h:∀st',Out ls vs ((arrOf st').map (·.2)).toList->(arrOf st').size=vs.length->failedOf st'=none->wpAny (model prog w) A (G (PUnit.unit,st')) P E s) :
  wpAny (model prog w) A (if vs.toArray.size<2 then (pure general' >>= fun kind=>(if vs.toArray.size<2 then pure () else sortRuns').run (SortSt.mk' kind (us.toArray.zip vs.toArray) #[] 7 none) >>= G)
   else (keyKind' us.toArray >>= fun kind=>(if vs.toArray.size<2 then pure () else sortRuns').run (SortSt.mk' kind (us.toArray.zip vs.toArray) #[] 7 none) >>= G)) P E s:=by
 have hzs:(us.toArray.zip vs.toArray).size=vs.length:=by rw[Array.size_zip,List.size_toArray,List.size_toArray]; omega
 by_cases h2:vs.toArray.size<2
 ·rw[if_pos h2]
  refine wpAny_bind (wpAny_pure ?_);rw[if_pos h2];rw[StateT.run_pure];refine wpAny_bind (wpAny_pure ?_)
  try dsimp only
  rw[List.size_toArray] at h2;exact h (SortSt.mk' general' (us.toArray.zip vs.toArray) #[] 7 none) (zgF (by rw[<- B.len]; exact hl) hl h2) hzs rfl
 ·rw[if_neg h2,if_neg h2]
  rw[List.size_toArray] at h2;obtain⟨κ,k1,k2⟩:=B.ask (by omega);refine wpAny_bind (k1 s _ E hg ?_);refine wpAny_bind (wpAny_mono (zkH (Q:=fun _ st'=>(arrOf st').Perm (us.toArray.zip vs.toArray)/\failedOf st'=none/\Tim.Srt (zfT us ls) (arrOf st') 0 vs.length) B hl hg (by omega) (by omega) k2 fun st' a1 a2 a3=>⟨a1,a2,a3⟩) ?_ fun _ _ e=>e);rintro⟨⟨⟩,st'⟩ s' ⟨rfl,hp,hf,hs⟩
  try dsimp only
  exact h st' (by
   obtain⟨ps,a1,a2,a3⟩:=zkI B hl hp hs;exact⟨ps,a1,by rw[Array.toList_map]; exact a2,a3⟩) (by rw[hp.size_eq]; exact hzs) hf
theorem zdO {a:Addr}{n:Nat}{P:PySem.Fin->Shared->Prop} (ho:s.heap.get? a=some (seqObj "list" vs.toArray n)) (B:By prog w A good vs ls)
  (hg:∀h',(∀b o,b≠a->s.heap.get? b=some o->h'.get? b=some o)->good h') (hz:vs.length<=sizeLine) (h64:vs.length<1000)
  (h:∀out:Array Value,Out ls vs out.toList->P (.done (.ret .none)) { s with heap:=sortedHeap s.heap a vs out }) :
  wpAny (model prog w) A (Builtin.«list.sort» ⟨[.ref a],[]⟩) P E s:=by
 rw[list_sort_plain];have ha:a<s.heap.objs.size:=Heap.lt_size ho;refine wpAny_bind (listItems_at ho rfl ?_);refine wpAny_bind (listUpdate_at ho rfl ?_ (by rw[List.size_toArray]; exact hz) (Nat.zero_le _));obtain⟨e1,ho1⟩:∃e1,(s.heap.update a (Obj.mapSeq fun _=>#[])).get? a=some (seqObj "list" #[] e1):=⟨_,get?_update_seq ho (fun _=>#[])⟩;refine wpAny_bind (seqEpoch_at ho1 rfl ?_);refine wpAny_bind (wpAny_newTuple ?_ (by show vs.length<=_; exact hz));refine wpAny_bind (wpAny_newList ?_ (Nat.zero_le _));refine wpAny_holding ?_;have ho6:(((s.heap.update a (Obj.mapSeq fun _=>#[])).push (seqObj "tuple" vs.toArray 0)).push (seqObj "list" #[] 0)).get? a=some (seqObj "list" #[] e1):=by
  rw[Heap.get?_push_ne _ _ _ (by rw[size_push',Heap.size_update]; exact Nat.ne_of_lt (Nat.lt_succ_of_lt ha)),Heap.get?_push_ne _ _ _ (by rw[Heap.size_update]; exact Nat.ne_of_lt ha)];exact ho1
 show wpAny (model prog w) A _ P E { s with heap:=((s.heap.update a (Obj.mapSeq fun _=>#[])).push (seqObj "tuple" vs.toArray 0)).push (seqObj "list" #[] 0) };dsimp only;refine zfd (s:={ s with heap:=((s.heap.update a (Obj.mapSeq fun _=>#[])).push (seqObj "tuple" vs.toArray 0)).push (seqObj "list" #[] 0) }) B rfl h64 (hg _ fun b o hb e=>Heap.get?_push_of_some _ (Heap.get?_push_of_some _ (by rw[Heap.get?_update_ne _ _ _ _ hb]; exact e))) fun st' ho hsz hf=>?_;dsimp only;refine wpAny_bind (seqEpoch_at ho6 rfl ?_);refine wpAny_bind (listUpdate_at ho6 rfl ?_ (Nat.zero_le _) (Nat.le_trans (Nat.le_of_eq ((Array.size_map ..).trans hsz)) (Nat.le_succ_of_le hz)));rw[hf];simp only[bne_self_eq_false,Bool.false_eq_true,if_false];exact wpAny_pure (h _ ho)
theorem zdK {l:Addr}{Q:Value->Shared->Prop} (hl:s.heap.IsList l vs.toArray) (B:By prog w A.in1.in1 good vs ls)
  (hg:∀h',(∀b o,s.heap.get? b=some o->h'.get? b=some o)->good h') (hz:vs.length<=sizeLine) (h64:vs.length<1000)
  (h:∀out:Array Value,Out ls vs out.toList->Q (.ref (s.heap.objs.size+1)) { s with heap:=sortedAll s.heap vs out }) :
  wpAny (model prog w) A (call (.builtin "sorted") [.ref l]) Q E s:=by
 refine Calls.call_function_entry kind_sorted plain_sorted entry_sorted (args_sorted1 _) ?_;unfold Builtin.«sorted»;refine wpAny_bind (m:=checkCount "sorted" 1 1 _) (wpAny_pure ?_);refine wpAny_bind (collect_list hl ?_ hz);refine wpAny_bind (wpAny_newList ?_ hz);have hsz:((s.heap.push (seqObj "list" #[] 0)).update s.heap.objs.size (Obj.mapSeq (·++vs.toArray))).objs.size=s.heap.objs.size+1:=by
  rw[Heap.size_update,size_push']
 have hoL:(((s.heap.push (seqObj "list" #[] 0)).update s.heap.objs.size (Obj.mapSeq (·++vs.toArray))).push (seqObj "list" vs.toArray 0)).get? (s.heap.objs.size+1)=some (seqObj "list" vs.toArray 0):=by
  rw[<- hsz]; exact Heap.get?_push_size _ rfl
 have keep:∀b o,s.heap.get? b=some o->(((s.heap.push (seqObj "list" #[] 0)).update s.heap.objs.size (Obj.mapSeq (·++vs.toArray))).push (seqObj "list" vs.toArray 0)).get? b=some o:=fun b o q=>by
  have hlt:b<s.heap.objs.size:=Heap.lt_size q;rw[Heap.get?_push_ne _ _ _ (by rw[hsz]; exact Nat.ne_of_lt (Nat.lt_succ_of_lt hlt)),Heap.get?_update_ne _ _ _ _ (Nat.ne_of_lt hlt),Heap.get?_push_ne _ _ _ (Nat.ne_of_lt hlt)];exact q
 show wpAny _ _ _ _ _ { s with heap:=((s.heap.push (seqObj "list" #[] 0)).update s.heap.objs.size (Obj.mapSeq (·++vs.toArray))).push (seqObj "list" vs.toArray 0) };rw[hsz];refine wpAny_bind (wpAny_holding (wpAny_call_entry slot_list_sort ⟨_,hoL,rfl⟩ entry_list_sort (zdO (s:={ s with heap:=((s.heap.push (seqObj "list" #[] 0)).update s.heap.objs.size (Obj.mapSeq (·++vs.toArray))).push (seqObj "list" vs.toArray 0) }) hoL B (fun h' hk=>hg h' fun b o q=>hk b o (Nat.ne_of_lt (Nat.lt_succ_of_lt (Heap.lt_size q))) (keep b o q)) hz h64 fun out ho=>⟨_,rfl,?_⟩) (args_list_sort _)));exact wpAny_pure ⟨_,rfl,h out ho⟩
theorem zjr {a kS:Addr}{keys:Array Value}{e e1:Nat}{st:SortSt}{P:PySem.Fin->Shared->Prop} (nk:s.heap.get? kS=some (seqObj "list" keys e)) (na:s.heap.get? a=some (seqObj "list" #[] e1)) (hka:kS≠a)
  (hks:keys.size<=sizeLine) (ho:Out ls vs ((arrOf st).map (·.2)).toList) (hsz:(arrOf st).size=vs.length) (hz:vs.length<=sizeLine) (hfl:failedOf st=none)
  (h:∀h' out c,(∀b o,b≠kS->b≠a->s.heap.get? b=some o->h'.get? b=some o)->h'.get? a=some (seqObj "list" out c)->(∃o,h'.get? kS=some o)->Out ls vs out.toList->h'.objs.size=s.heap.objs.size->P (.done (.ret .none)) { s with heap:=h' }) :
  wpAny (model prog w) A (ksk_tail a false e1 (.ref kS) st) P E s:=by
 have s1:=Heap.SameBut.update s.heap kS (Obj.mapSeq fun _=>(#[]:Array Value));have na1:(s.heap.update kS (Obj.mapSeq fun _=>(#[]:Array Value))).get? a=some (seqObj "list" #[] e1):=(s1.2 a hka.symm).trans na;have s2:=Heap.SameBut.update (s.heap.update kS (Obj.mapSeq fun _=>(#[]:Array Value))) a (Obj.mapSeq fun _=>(arrOf st).map (·.2));obtain⟨c2,hc2⟩:∃c2,((s.heap.update kS (Obj.mapSeq fun _=>(#[]:Array Value))).update a (Obj.mapSeq fun _=>(arrOf st).map (·.2))).get? a=some (seqObj "list" ((arrOf st).map (·.2)) c2):=
  ⟨_,get?_update_seq na1 fun _=>(arrOf st).map (·.2)⟩
 unfold ksk_tail
 try dsimp only
 simp only[Bool.false_eq_true,if_false];refine wpAny_bind (listUpdate_at nk rfl ?_ hks (Nat.zero_le _));refine wpAny_bind (wpAny_letGo ?_);refine wpAny_bind (seqEpoch_at na1 rfl ?_);refine wpAny_bind (listUpdate_at na1 rfl ?_ (Nat.zero_le _) (Nat.le_trans (Nat.le_of_eq ((Array.size_map ..).trans hsz)) (Nat.le_succ_of_le hz)));rw[hfl];simp only[bne_self_eq_false,Bool.false_eq_true,if_false];refine wpAny_pure (h _ _ c2 (fun b o h1 h2 q=>(s2.2 b h2).trans ((s1.2 b h1).trans q)) hc2 ⟨_,(s2.2 kS hka).trans (get?_update_seq nk fun _=>#[])⟩ ho (by rw[Heap.size_update,Heap.size_update]))
end
end Srt
end
section
namespace L2
open PySem PySem.Spec PyProof.Rows
def clOf (cells:List (Str×Addr)):List (Str×NameKind)->List (Str×Addr)->List (Str×Addr)
 | [],acc=>acc
 | (n,k)::r,acc=>if (k == .free)=true then clOf cells r ((n,(cells.lookup n).getD 0)::acc) else clOf cells r acc
theorem zgi {env:Env}:∀(names:List (Str×NameKind)) (acc:List (Str×Addr)),(∀x∈names,x.2=.free->∃c,env.cells.lookup x.1=some c)->
  (forIn names acc fun x (r:List (Str×Addr))=>if (x.2 == .free)=true then do let c <- cellOf env x.1; pure (ForInStep.yield ((x.1,c)::r)) else pure (ForInStep.yield r):Sem (List (Str×Addr)))=pure (clOf env.cells names acc)
 | [],acc,_=>rfl
 | (n,k)::r,acc,h=>by
  rw[List.forIn_cons];have ih:=fun a=>zgi (env:=env) r a fun x hx=>h x (List.mem_cons_of_mem _ hx);unfold clOf
  by_cases hk:(k == NameKind.free)=true
  ·have hk':k=.free:=by cases k <;> first | rfl | cases hk
   obtain⟨c,hc⟩:=h (n,k) List.mem_cons_self hk';simp only[hk,if_true];unfold cellOf;rw[hc];simp only[pure_bind,Option.getD_some];exact ih _
  ·simp only[hk,Bool.false_eq_true,if_false,pure_bind]
   exact ih _
theorem zcy {scope:Scope}{env:Env} (h:∀x∈scope.names,x.2=.free->∃c,env.cells.lookup x.1=some c):closureFor scope env=pure (clOf env.cells scope.names []):=by
 rw[<- zgi scope.names [] h];unfold closureFor;simp
theorem zeI {cells:List (Str×Addr)}{x:Str}{c:Addr}:∀{names:List (Str×NameKind)}{acc:List (Str×Addr)},(∀y∈names,y.2=.free->∃d,cells.lookup y.1=some d)->(∀p∈acc,cells.lookup p.1=some p.2)->(clOf cells names acc).lookup x=some c->cells.lookup x=some c
 | [],acc,_,ha,h=>ha (x,c) (PySem.mem_of_lookup h)
 | (n,k)::r,acc,hn,ha,h=>by
  unfold clOf at h;have hn':∀y∈r,y.2=.free->∃d,cells.lookup y.1=some d:=fun y hy=>hn y (List.mem_cons_of_mem _ hy)
  by_cases hk:(k == NameKind.free)=true
  ·have hk':k=.free:=by cases k <;> first | rfl | cases hk
   obtain⟨d,hd⟩:=hn (n,k) List.mem_cons_self hk';rw[if_pos hk] at h;refine zeI hn' (fun p hp=>?_) h;rcases List.mem_cons.mp hp with rfl | hp
   ·show cells.lookup n=some ((cells.lookup n).getD 0)
    have hd':cells.lookup n=some d:=hd;rw[hd']; rfl
   ·exact ha p hp
  ·rw[if_neg hk] at h
   exact zeI hn' ha h
theorem zE {x:Str}{c:Addr}:∀{l:List (Str×Addr)},(x,c)∈l->∃d,l.lookup x=some d
 | [],h=>nomatch h
 | (y,d)::l,h=>by
  rw[List.lookup_cons]
  by_cases e:x=y
  ·subst e; exact⟨d,by simp⟩
  ·have hb:(x == y)=false:=by simpa using e
   rw[hb];rcases List.mem_cons.mp h with q | q
   ·cases q; exact absurd rfl e
   ·exact zE q
theorem za4 {cells:List (Str×Addr)}{x:Str}:∀{names:List (Str×NameKind)}{acc:List (Str×Addr)},((x,NameKind.free)∈names \/ ∃c,(x,c)∈acc)->∃c,(x,c)∈clOf cells names acc
 | [],acc,h=>h.elim (fun q=>nomatch q) id
 | (n,k)::r,acc,h=>by
  unfold clOf
  by_cases hk:(k == NameKind.free)=true
  ·rw[if_pos hk]
   refine za4 ?_;rcases h with h | ⟨c,h⟩
   ·rcases List.mem_cons.mp h with q | q
    ·cases q; exact .inr ⟨_,List.mem_cons_self⟩
    ·exact .inl q
   ·exact .inr ⟨c,List.mem_cons_of_mem _ h⟩
  ·rw[if_neg hk]
   refine za4 ?_;rcases h with h | h
   ·rcases List.mem_cons.mp h with q | q
    ·cases q; exact absurd rfl hk
    ·exact .inl q
   ·exact .inr h
def cxC (X:Cx) (scope:Scope) (N:List Str) (cl:List (Str×Addr)) (C:Addr) (s₀:Shared) (H₀:Hp) (ex:List Addr):Cx where
 prog:=X.prog
 w:=X.w
 K:=X.K
 mg:=X.mg
 base:=X.base
 A:=X.A
 N:=N
 s₀:=s₀
 H₀:=H₀
 env:=compEnvC scope cl C X.env
 outer:=X.stack
 stack:=X.stack
 ex:=ex
 fn:=fun _=>false
 calm:=X.calm
 pn:=X.pn
 xe:=fun _ _=>False
def PTL (X:Cx) (ifs:List Expr) (t:TT):Prop:=
 ∀(pins:List (Addr×Obj)) (s:Shared) (σ:St) (H:Hp) (Q:Bool->Hp->Prop),Inv X pins σ H s->t σ H Q->
  wpAny (model X.prog X.w) X.A (forIn ifs true fun c r=>if r=true then do let ok <- isTrue c X.env (eval c X.env); pure (ForInStep.yield ok) else pure (ForInStep.yield r)) (TP X pins σ Q) X.xe s
def tYes:TT:=fun _ H Q=>Q true H
theorem zas {X:Cx}:PTL X [] tYes:=fun _ _ _ H _ I h=>wpAny_tests_nil ⟨H,I,h⟩
theorem zbk {X:Cx}{c:Expr}{t:TT} (h:PT X c t):PTL X [c] t:=fun pins s σ H Q I hw=>wpAny_tests_one (h pins s σ H Q I hw)
def zcS (caps:List (Option Nat)) (σ:St):St:=caps.map fun c=>match c with
 | none=>none
 | some j=>(σ[j]?).getD none
def zau (J:It) (g:TG) (tc:TT) (te:TE) (σ:St) (H1:Hp) (D:Addr) (Q:VK):Prop:=
 ∃W:Nat->Nat->St->Hp->Prop,(∃m,W 0 m σ (upd H1 D (.lst [])))/\
 ∀i m σ2 H2,W i m σ2 H2->(J.stop i H2/\Q (.ref D) H2) \/ (J.go i H2/\∀x H3,J.yld i H2 x H3->g x σ2 H3 fun σ3 H4=>tc σ3 H4 fun b H5=>
  if b=true then te σ3 H5 fun y H6=>∃ys m',H6 D=some (.lst ys)/\ys.length<sizeLine/\m'<m/\W (i+1) m' σ3 (upd H6 D (.lst (ys++[y])))
  else ∃m',m'<m/\W (i+1) m' σ3 H5)
def tLC (wi:TI) (caps:List (Option Nat)) (g:TG) (tc:TT) (te:TE):TE:=fun σ H Q=>wi σ H fun J H1=>∀D,H1 D=none->zau J g tc te (zcS caps σ) H1 D Q
def zfR (N N':List Str) (caps:List (Option Nat)) (scope:Scope):Prop:=
 caps.length=N'.length/\∀i j:Nat,caps[i]?=some (some j)->∃x:Str,N'[i]?=some x/\N[j]?=some x/\scope.names.lookup x=some .free
section
variable {X:Cx}{scope:Scope}{N':List Str}{caps:List (Option Nat)}{tg iter elt:Expr}{ifs:List Expr}{wi:TI}{g:TG}{tc:TT}{te:TE}{pos:Pos}
theorem zax {scope:Scope}{env:Env}{x:Str}:∀{names:List (Str×NameKind)},(names.lookup x=some .free \/ names.lookup x=some .cell)->
  ((names.map fun (n,k)=>if (k == NameKind.free && env.scope.kind == .function && env.kindOf n == some .cell) then (n,NameKind.cell) else (n,k)).lookup x=some .free \/
   (names.map fun (n,k)=>if (k == NameKind.free && env.scope.kind == .function && env.kindOf n == some .cell) then (n,NameKind.cell) else (n,k)).lookup x=some .cell)
 | [],h=>by simp at h
 | (n,k)::r,h=>by
  have ih:=@zax scope env x r;show List.lookup x ((if (k == NameKind.free && env.scope.kind == .function && env.kindOf n == some .cell)=true then (n,NameKind.cell) else (n,k))::_)=_ \/ List.lookup x ((if (k == NameKind.free && env.scope.kind == .function && env.kindOf n == some .cell)=true then (n,NameKind.cell) else (n,k))::_)=_;cases hx:x == n with
  | true=>
   simp only[List.lookup_cons,hx] at h
   by_cases hc:(k == NameKind.free && env.scope.kind == .function && env.kindOf n == some .cell)=true
   ·rw[if_pos hc]; simp[List.lookup_cons,hx]
   ·rw[if_neg hc]; simp only[List.lookup_cons,hx]; exact h
  | false=>
   simp only[List.lookup_cons,hx] at h
   by_cases hc:(k == NameKind.free && env.scope.kind == .function && env.kindOf n == some .cell)=true
   ·rw[if_pos hc]; simp only[List.lookup_cons,hx]; exact ih h
   ·rw[if_neg hc]; simp only[List.lookup_cons,hx]; exact ih h
theorem zaE {env:Env}{x:Str}{kd:NameKind}:∀{names:List (Str×NameKind)},(names.map fun (n,k)=>if (k == NameKind.free && env.scope.kind == .function && env.kindOf n == some .cell) then (n,NameKind.cell) else (n,k)).lookup x=some kd->
  ∃k',names.lookup x=some k'/\(kd=k' \/ (k'=.free/\kd=.cell))
 | [],h=>by simp at h
 | (n,k)::r,h=>by
  have ih:=@zaE env x kd r;have h':List.lookup x ((if (k == NameKind.free && env.scope.kind == .function && env.kindOf n == some .cell)=true then (n,NameKind.cell) else (n,k))::_)=some kd:=h;cases hx:x == n with
  | true=>
   simp only[List.lookup_cons,hx]
   by_cases hc:(k == NameKind.free && env.scope.kind == .function && env.kindOf n == some .cell)=true
   ·rw[if_pos hc] at h'
    simp only[List.lookup_cons,hx] at h';cases h';have hk:k=.free:=by
     rw[Bool.and_eq_true,Bool.and_eq_true] at hc;cases k <;> first | rfl | exact absurd hc.1.1 (by decide)
    exact⟨k,rfl,.inr ⟨hk,rfl⟩⟩
   ·rw[if_neg hc] at h'
    simp only[List.lookup_cons,hx] at h';cases h';exact⟨_,rfl,.inl rfl⟩
  | false=>
   simp only[List.lookup_cons,hx]
   by_cases hc:(k == NameKind.free && env.scope.kind == .function && env.kindOf n == some .cell)=true
   ·rw[if_pos hc] at h'; simp only[List.lookup_cons,hx] at h'; exact ih h'
   ·rw[if_neg hc] at h'; simp only[List.lookup_cons,hx] at h'; exact ih h'
structure Left (X:Cx) (pins:List (Addr×Obj)) (σ:St) (H':Hp) (s4:Shared) (C:Addr):Prop where
 ns:∃m,s4.heap.Ns C m
 far:X.s₀.heap.objs.size<=C
 nl:C≠X.env.locals
 nc:∀x c,X.env.cells.lookup x=some c->c≠C
 np:∀p∈X.pn++pins,p.1≠C
 no:H' C=none
 back:∀h',Heap.SameBut C s4.heap h'->Inv X pins σ H' { s4 with heap:=h' }
theorem zdG {use:Option (Value->Sem Unit)}{R:Value->Shared->Prop}{pp:Pos} (hc:X.calm=true) (hk:scope.kind=.function) (hcell:∀y∈scope.names,y.2≠.cell) (hnames:∀y∈scope.names,y.2=.local->scope.names.lookup y.1=some .local)
  (hfr:∀y∈scope.names,y.2=.free->X.env.kindOf y.1=some .cell \/ X.env.kindOf y.1=some .free) (hcap:zfR X.N N' caps scope)
  (hi:PI X tg iter wi) (hg:∀cl C s₀ H₀ ex,PG (cxC X scope N' cl C s₀ H₀ ex) tg g) (ht:∀cl C s₀ H₀ ex,PTL (cxC X scope N' cl C s₀ H₀ ex) ifs tc) (he:∀cl C s₀ H₀ ex,PE (cxC X scope N' cl C s₀ H₀ ex) elt te)
  (hs:∀x,foldedSetIterable iter X.env x=pure x) {pins:List (Addr×Obj)} {s:Shared} {σ:St} {H:Hp} {Q:VK} (I:Inv X pins σ H s) (h:tLC wi caps g tc te σ H Q)
  (fin:∀(D C:Addr) (H':Hp) (s4:Shared) (f:Flow),Left X pins σ H' s4 C->Q (.ref D) H'->compPost (model X.prog X.w) X.A X.xe use R (.ref D) C (.ok f) s4) :
  wpAny (model X.prog X.w) X.A (comprehension (.ListComp elt [⟨tg,iter,ifs,0⟩] scope pos) scope X.env pp (newList []) (firstAsync [⟨tg,iter,ifs,0⟩]) (firstIter [⟨tg,iter,ifs,0⟩] X.env) use) R X.xe s:=by
 have hcl:∀y∈scope.names,y.2=.free->∃c,X.env.cells.lookup y.1=some c:=fun y hy e=>I.ok.has y.1 (hfr y hy e);refine wpAny_comprehension_free (use:=use) rfl hs (zcy hcl) hk hnames ?_;refine thn (hi pins s σ H _ I h) fun xv s1 h1=>thn h1 fun itv s2 h2=>?_;obtain⟨it,fp,tn,J,H2,e,I2,T,st2,f2,q⟩:=h2;subst e;have hf2:H2 s2.heap.objs.size=none:=I2.hok.fresh (Nat.le_refl _);obtain⟨W,⟨m0,w0⟩,turn⟩:=q s2.heap.objs.size hf2;refine wpAny_newObj_type (wpAny_newFunctionEnv hcell (by intro y hy; simp at hy) (fun h₁ hns₁ hsb₁=>?_) hk);dsimp only at hns₁ hsb₁ ⊢;generalize hD:s2.heap.objs.size=D at *;obtain⟨s3,e3⟩:∃s3:Shared,s3={ s2 with heap:=s2.heap.push { cls:=.type "list",dict:=none,data:=.seq ([]:List Value).toArray } }:=⟨_,rfl⟩;have h3:s3.heap=s2.heap.push { cls:=.type "list",dict:=none,data:=.seq ([]:List Value).toArray }:=by rw[e3]
 rw[<- h3] at hns₁ hsb₁ ⊢;have hD3:s3.heap.objs.size=D+1:=by rw[h3,Heap.size_push,hD]
 have I3:Inv X pins σ (upd H2 D (.lst [])) s3:=by
  rw[e3,<- hD];exact I2.lnew (t':=s2.toks) (ys:=[]) .nil (Nat.zero_le _)
 obtain⟨Xc,eX⟩:∃Xc,Xc=cxC X scope N' (clOf X.env.cells scope.names []) s3.heap.objs.size s3 (upd H2 D (.lst [])) fp:=⟨_,rfl⟩;have hg':PG Xc tg g:=by rw[eX]; exact hg _ _ _ _ _
 have ht':PTL Xc ifs tc:=by rw[eX]; exact ht _ _ _ _ _
 have he':PE Xc elt te:=by rw[eX]; exact he _ _ _ _ _
 have xP:Xc.prog=X.prog:=by rw[eX]; rfl
 have xw:Xc.w=X.w:=by rw[eX]; rfl
 have xK:Xc.K=X.K:=by rw[eX]; rfl
 have xA:Xc.A=X.A:=by rw[eX]; rfl
 have xc:Xc.calm=true:=by rw[eX]; exact hc
 have xe:Xc.env=compEnvC scope (clOf X.env.cells scope.names []) s3.heap.objs.size X.env:=by rw[eX]; rfl
 have xE:Xc.xe=fun _ _=>False:=by rw[eX]; rfl
 have hcin:∀x c,(clOf X.env.cells scope.names []).lookup x=some c->X.env.cells.lookup x=some c:=fun x c e=>zeI hcl (fun p hp=>absurd hp (by simp)) e;have hfd:∀b∈fp,b≠D/\b<D:=fun b hb=>by
  obtain⟨ob,eb,_⟩:=T.obj 0 _ st2 b hb;have:=Heap.lt_size eb;rw[hD] at this;exact⟨Nat.ne_of_lt this,this⟩
 have hfs:∀b∈frs X.stack,b<D:=fun b hb=>by
  obtain⟨_,ob,eb,_⟩:=I2.stack.mem hb;have:=Heap.lt_size eb;rw[hD] at this;exact this
 have hold:∀b o,s3.heap.get? b=some o->h₁.get? b=some o:=fun b o e=>by
  have hb:b≠s3.heap.objs.size:=Nat.ne_of_lt (Heap.lt_size e);exact (hsb₁.2 b hb).trans (Heap.get?_push_of_some _ e)
 have hCf:(upd H2 D (.lst [])) s3.heap.objs.size=none:=I3.hok.fresh (Nat.le_refl _);have Ic:Inv Xc pins (zcS caps σ) (upd H2 D (.lst [])) { s3 with heap:=h₁ }:=by
  have okc:Xc.Ok:=by
   rw[eX];refine⟨I.ok.mod,hk,I.ok.glob,I.ok.blt,Nat.le_refl _,fun x y c a b=>I.ok.inj x y c (hcin x c a) (hcin y c b),fun x hx=>?_,(fun x c a=>absurd a Bool.false_ne_true),I.ok.hd,I.ok.frames,.inl rfl,fun b hb=>⟨?_,fun x c e=>?_⟩,fun b o e=>?_,?_,fun b o e z=>?_,fun b hb z=>?_,?_,fun b hb=>?_⟩
   ·have hx':(relabel scope X.env).names.lookup x=some .cell \/ (relabel scope X.env).names.lookup x=some .free:=hx
    have key:∃k',scope.names.lookup x=some k'/\(k'=.free \/ k'=.cell):=by
     rcases hx' with q | q
     ·obtain⟨k',e1,e2⟩:=zaE q
      rcases e2 with e2 | ⟨e2,_⟩
      ·exact⟨k',e1,.inr e2.symm⟩
      ·exact⟨k',e1,.inl e2⟩
     ·obtain⟨k',e1,e2⟩:=zaE q
      rcases e2 with e2 | ⟨e2,_⟩
      ·exact⟨k',e1,.inl e2.symm⟩
      ·exact⟨k',e1,.inl e2⟩
    obtain⟨k',e1,e2⟩:=key;have hm:=PySem.mem_of_lookup e1;rcases e2 with rfl | rfl
    ·obtain⟨c,hc'⟩:=za4 (cells:=X.env.cells) (acc:=[]) (.inl hm)
     exact zE hc'
    ·exact absurd rfl (hcell _ hm)
   ·show b≠s3.heap.objs.size
    exact Nat.ne_of_lt (by rw[hD3]; exact Nat.lt_succ_of_lt (hfd b hb).2)
   ·exact (f2 b hb).2.2.2.2.1 x c (hcin x c e)
   ·exact I3.bs b o e
   ·exact Nat.le_trans I.ok.bsz I3.sz
   ·obtain⟨f,_,_,fx,_,_⟩:=f2 b z
    rcases fx with fx | fx
    ·exact I.ok.noex b o e fx
    ·have:=Nat.lt_of_lt_of_le (Heap.lt_size e) I.ok.bsz
     omega
   ·rcases List.mem_cons.mp (I2.stkSub b z) with r | r
    ·exact (f2 b hb).2.1 r
    ·exact (f2 b hb).2.2.1 r
   ·exact I3.stack
   ·exact I3.stkFree b hb
  refine⟨okc,(by rw[eX]; rfl),I3.bare,?_,?_,fun x c e=>?_,?_,fun x c e=>?_,fun p hp=>?_,?_,?_⟩
  ·rw[eX]
   exact Un.kept hold
  ·rw[xe]
   refine⟨_,hns₁,fun i x v e1 e2 e3=>?_⟩;obtain⟨c1,c2⟩:=hcap;unfold zcS at e2;rw[List.getElem?_map] at e2;cases e4:caps[i]? with
   | none=>rw[e4] at e2; cases e2
   | some cc=>
    rw[e4] at e2;cases cc with
    | none=>cases e2
    | some j=>
     obtain⟨y,d1,d2,d3⟩:=c2 i j e4;have e1':N'[i]?=some x:=by rw[eX] at e1; exact e1
     rw[d1] at e1';have exy:y=x:=Option.some.inj e1';subst exy;have e5:σ[j]?=some (some v):=by
      simp only[Option.map_some,Option.some.injEq] at e2;cases e6:σ[j]? with
      | none=>rw[e6] at e2; cases e2
      | some ov=>rw[e6] at e2; simp only[Option.getD_some] at e2; rw[e2]
     have hm:=PySem.mem_of_lookup d3;have vis:Vis X.env.scope y:=by
      rcases hfr _ hm rfl with q | q
      ·exact .inr (.inl q)
      ·exact .inr (.inr q)
     obtain⟨m,_,hl⟩:=I3.loc;obtain⟨u,ru,lk⟩:=hl j y v d2 e5 vis;refine⟨u,ru,?_⟩;have lk2:∃c,X.env.cells.lookup y=some c/\s3.heap.IsCell c (some u):=by
      rcases lk with ⟨k1,_⟩ | ⟨_,c,k2,k3⟩
      ·rcases hfr _ hm rfl with q | q
       ·rw[k1] at q; cases q
       ·rw[k1] at q; cases q
      ·exact⟨c,k2,k3⟩
     obtain⟨c,k2,k3⟩:=lk2;obtain⟨d,hd'⟩:=za4 (cells:=X.env.cells) (acc:=[]) (.inl hm);obtain⟨d',hd2⟩:=zE hd';have:c=d':=by
      have:=hcin y d' hd2;rw[k2] at this;exact Option.some.inj this
     subst this;refine .inr ⟨?_,c,hd2,k3.keeps hold⟩;have rl:=zax (scope:=scope) (env:=X.env) (x:=y) (names:=scope.names) (.inl d3);rcases rl with q | q
     ·exact .inr q
     ·exact .inl q
  ·rw[xe] at e
   obtain⟨v,k3⟩:=I3.cell x c (hcin x c e);exact⟨v,k3.keeps hold⟩
  ·rw[xe]; exact hCf
  ·rw[xe] at e
   exact I3.freeC x c (hcin x c e)
  ·have hp':p∈X.pn++pins:=by rw[eX] at hp; exact hp
   obtain⟨a1,a2,a3,a4,a5⟩:=I3.pin p hp';refine⟨hold _ _ a1,a2,?_,?_,a5⟩
   ·rw[xe]
    show p.1≠s3.heap.objs.size;exact Nat.ne_of_lt (Heap.lt_size a1)
   ·rw[eX]
    intro z;rcases List.mem_cons.mp (I3.stkSub p.1 z) with r | r
    ·exact a3 r
    ·exact a4 r
  ·rw[xP,xw]
   exact I3.hok.kept hold
  ·unfold zcS
   rw[List.length_map,hcap.1,eX]
   rfl
 have leave:∀{σ':St} {H':Hp} {s4:Shared} {h':Heap},Inv Xc pins σ' H' s4->Heap.SameBut s3.heap.objs.size s4.heap h'->Inv X pins σ H' { s4 with heap:=h' }:=fun {σ' H' s4 h'} I4 hs'=>by
  have hlt:∀b o,s2.heap.get? b=some o->b≠D/\b≠s3.heap.objs.size:=fun b o e=>by
   have hb:=Heap.lt_size e;rw[hD] at hb;exact⟨Nat.ne_of_lt hb,Nat.ne_of_lt (by rw[hD3]; exact Nat.lt_succ_of_lt hb)⟩
  have up3:∀b o,s2.heap.get? b=some o->s3.heap.get? b=some o:=fun b o e=>by rw[h3]; exact Heap.get?_push_of_some _ e
  have base:Un (frs X.stack) fp (upd H2 D (.lst [])) H' s3.heap s4.heap:=by
   have:=I4.base;rw[eX] at this;exact this
  have hCn:H' s3.heap.objs.size=none:=by
   have:=I4.free;rw[xe] at this;exact this
  have os4:s4.os=s2.os:=by
   have:=I4.os;rw[eX] at this;rw[this];show s3.os=s2.os;rw[e3]
  refine I2.call' (s':={ s4 with heap:=h' }) (ch:=fp) os4 ⟨fun b o q n hb hx=>?_,fun b o q n hb hx=>?_,fun b o q n hx=>?_,fun b o q hx=>?_,fun b xs q=>?_,fun b o u q=>?_,fun b ps q=>?_⟩ ?_ I4.bare fun b hb=>?_
  ·obtain⟨n1,n2⟩:=hlt b o q
   exact (hs'.2 b n2).trans (base.keep b o (up3 b o q) (by rw[upd_ne n1]; exact n) hb hx)
  ·obtain⟨n1,n2⟩:=hlt b o q
   obtain⟨sl,e⟩:=base.slot b o (up3 b o q) (by rw[upd_ne n1]; exact n) hb hx;exact⟨sl,(hs'.2 b n2).trans e⟩
  ·obtain⟨n1,n2⟩:=hlt b o q
   exact base.free b o (up3 b o q) (by rw[upd_ne n1]; exact n) hx
  ·obtain⟨n1,n2⟩:=hlt b o q
   obtain⟨o',e⟩:=base.there b o (up3 b o q) hx;exact⟨o',(hs'.2 b n2).trans e⟩
  ·exact base.tups b xs (by rw[upd_ne (ne_of_none q hf2)]; exact q)
  ·exact base.frzs b o u (by rw[upd_ne (ne_of_none q hf2)]; exact q)
  ·exact base.tbls b ps (by rw[upd_ne (ne_of_none q hf2)]; exact q)
  ·intro b u e
   have hk4:=I4.hok b u e;rw[xP,xw] at hk4;refine hk4.stay (fun c v hc q=>(hs'.2 c ?_).trans q) (fun _ q=>q) fun _ _ q=>q;rintro rfl;rcases hc with z | z
   ·rw[<- z,hCn] at e; cases e
   ·rw[hCn] at z; cases z
  ·obtain⟨f0,f1,f3,f4,f5,f6⟩:=f2 b hb
   exact⟨f4,f1,f5,f6⟩
 have stat:∀{H':Hp},(∀b∈fp,H' b=none)->∀b∈fp,FpOk Xc pins H' b:=fun {H'} hn b hb=>by
  obtain⟨f0,f1,f3,f4,f5,f6⟩:=f2 b hb;refine⟨hn b hb,?_,?_,.inl (by rw[eX]; exact hb),fun x c e=>?_,fun p hp=>?_⟩
  ·rw[xe]
   show b≠s3.heap.objs.size;exact Nat.ne_of_lt (by rw[hD3]; exact Nat.lt_succ_of_lt (hfd b hb).2)
  ·rw[eX]
   intro z;rcases List.mem_cons.mp (I2.stkSub b z) with r | r
   ·exact f1 r
   ·exact f3 r
  ·rw[xe] at e
   exact f5 x c (hcin x c e)
  ·rw[eX] at hp
   exact f6 p hp
 subst eX;have loop:∀n s',(∃i σ' H',Inv (cxC X scope N' (clOf X.env.cells scope.names []) s3.heap.objs.size s3 (upd H2 D (.lst [])) fp) pins σ' H' s'/\tn i s'.heap/\(∀b∈fp,H' b=none)/\W i n σ' H')->
   codeAny (model X.prog X.w) X.A (.compLoop (.ListComp elt [⟨tg,iter,ifs,0⟩] scope pos) 0 (.ref it) (.ref D) (compEnvC scope (clOf X.env.cells scope.names []) s3.heap.objs.size X.env)) (compPost (model X.prog X.w) X.A X.xe use R (.ref D) s3.heap.objs.size) s':=by
  intro n0 s0' hI0;refine codeAny_loop rfl (fun n s'=>∃i σ' H',Inv (cxC X scope N' (clOf X.env.cells scope.names []) s3.heap.objs.size s3 (upd H2 D (.lst [])) fp) pins σ' H' s'/\tn i s'.heap/\(∀b∈fp,H' b=none)/\W i n σ' H') (fun n s' hI=>?_) n0 hI0;obtain⟨i,σ',H',I',st',fr',w'⟩:=hI;show wpAny _ X.A ((compTurn (.ListComp elt [⟨tg,iter,ifs,0⟩] scope pos) 0 (.ref it) (.ref D) (compEnvC scope (clOf X.env.cells scope.names []) s3.heap.objs.size X.env)).onRaise (fun x=>do noteFrame x (compEnvC scope (clOf X.env.cells scope.names []) s3.heap.objs.size X.env); theTreesLotGoes x)) _ _ s';refine wpAny_noted ?_;rw[compTurn_list];refine wpAny_bind (wpAny_standAt (wpAny_bind ?_));rcases turn i n σ' H' w' with ⟨stop,qn⟩ | ⟨go,step⟩
  ·refine thn (T.done (cxC X scope N' (clOf X.env.cells scope.names []) s3.heap.objs.size s3 (upd H2 D (.lst [])) fp) rfl rfl rfl hc i pins s' σ' H' _ I' (stat fr') st' stop) fun r s4 ⟨hr,I4⟩=>?_
   subst hr;refine wpAny_pure ?_;obtain⟨m,hn,_⟩:=id I4.loc;refine fin D _ H' s4 _ ⟨⟨m,hn⟩,I3.sz,fun e=>?_,fun x c e=>?_,fun p hp=>Nat.ne_of_lt (Heap.lt_size (I3.pin p hp).1),I4.free,fun h' hs'=>leave I4 hs'⟩ qn
   ·obtain⟨m3,hn3,_⟩:=I3.loc
    obtain⟨o3,_,_,ho3,_⟩:=hn3;exact absurd e.symm (Nat.ne_of_lt (Heap.lt_size ho3))
   ·obtain⟨v,hv⟩:=I3.cell x c e
    obtain⟨o3,ho3,_⟩:=hv;exact Nat.ne_of_lt (Heap.lt_size ho3)
  ·refine thn (T.item (cxC X scope N' (clOf X.env.cells scope.names []) s3.heap.objs.size s3 (upd H2 D (.lst [])) fp) rfl rfl rfl hc i pins s' σ' H' _ I' (stat fr') st' go) fun r s4 ⟨u,hr,h4⟩=>?_
   subst hr;refine wpAny_bind (thn h4 fun _ s5 ⟨x,H5,I5,r5,y5,st5,fr5⟩=>?_);have I5':=I5.pinned (stat fr5) (T.obj _ _ st5);refine wpAny_bind (wpAny_mono (hg' _ s5 σ' H5 x u _ I5' r5 (step x H5 y5)) (fun _ s6 h6=>?_) fun _ _ z=>z.elim);obtain⟨σ6,H6,I6,q6⟩:=h6;refine wpAny_bind (wpAny_mono (ht' _ s6 σ6 H6 _ I6 q6) (fun ok s7 h7=>?_) fun _ _ z=>z.elim);obtain⟨H7,I7,q7⟩:=h7;have again:∀{σ8:St} {H8:Hp} {s8:Shared} {m':Nat},Inv (cxC X scope N' (clOf X.env.cells scope.names []) s3.heap.objs.size s3 (upd H2 D (.lst [])) fp) (pins++zcG fp s5.heap) σ8 H8 s8->m'<n->W (i+1) m' σ8 H8->
     ∃m,m<n/\∃i σ' H',Inv (cxC X scope N' (clOf X.env.cells scope.names []) s3.heap.objs.size s3 (upd H2 D (.lst [])) fp) pins σ' H' s8/\tn i s8.heap/\(∀b∈fp,H' b=none)/\W i m σ' H':=fun {σ8 H8 s8 m'} I8 hm w8=>by
    refine⟨m',hm,i+1,σ8,H8,I8.unpinned,T.keep _ _ _ st5 fun b hb o e=>(I8.pin (b,o) (List.mem_append_right _ (List.mem_append_right _ (zao hb e)))).1,fun b hb=>?_,w8⟩;obtain⟨o,e,d⟩:=T.obj _ _ st5 b hb;exact (I8.pin (b,o) (List.mem_append_right _ (List.mem_append_right _ (zao hb e)))).2.1
   cases ok with
   | false=>
    obtain⟨m',hm,w7⟩:=q7;exact wpAny_pure ⟨rfl,again I7 hm w7⟩
   | true=>
    refine wpAny_bind (wpAny_bind (wpAny_mono (he' _ s7 σ6 H7 _ I7 q7) (fun v s8 h8=>?_) fun _ _ z=>z.elim));obtain⟨y,H8,I8,r8,ys,m',hD8,hl8,hm8,w8⟩:=h8;refine wpAny_bind (wpAny_mono (zR (X:=cxC X scope N' (clOf X.env.cells scope.names []) s3.heap.objs.size s3 (upd H2 D (.lst [])) fp) _ s8 σ6 H8 (.ref D) [y] (.ref D) [v] (fun _ H9=>H9=upd H8 D (.lst (ys++[y]))) I8 rfl (.cons r8 .nil) ⟨D,ys,y,rfl,rfl,hD8,hl8,rfl⟩) (fun _ s9 h9=>?_) fun _ _ z=>z.elim);obtain⟨_,H9,I9,_,e9⟩:=h9;subst e9;exact wpAny_pure (wpAny_pure ⟨rfl,again I9 hm8 w8⟩)
 have start:∃i σ' H',Inv (cxC X scope N' (clOf X.env.cells scope.names []) s3.heap.objs.size s3 (upd H2 D (.lst [])) fp) pins σ' H' { s3 with heap:=h₁ }/\tn i ({ s3 with heap:=h₁ }:Shared).heap/\(∀b∈fp,H' b=none)/\W i m0 σ' H':=by
  refine⟨0,zcS caps σ,upd H2 D (.lst []),Ic,T.keep 0 _ _ st2 fun b hb o e=>hold b o (by rw[h3]; exact Heap.get?_push_of_some _ e),fun b hb=>?_,w0⟩;rw[upd_ne (hfd b hb).1];exact (f2 b hb).1
 have es:({ s2 with heap:=h₁,toks:=s2.toks+([]:List (Str×Value)).length }:Shared)={ s3 with heap:=h₁ }:=by rw[e3]; rfl
 show codeAny (model X.prog X.w) X.A _ _ ({ s2 with heap:=h₁,toks:=s2.toks+([]:List (Str×Value)).length }:Shared);rw[es];refine codeAny_compStart_list (loop m0 _ start) (T.self _ 0 _ _ _ ?_ (loop m0 _ start));exact T.keep 0 _ _ st2 fun b hb o e=>hold b o (by rw[h3]; exact Heap.get?_push_of_some _ e)
theorem zj5 (hc:X.calm=true) (hk:scope.kind=.function) (hcell:∀y∈scope.names,y.2≠.cell) (hnames:∀y∈scope.names,y.2=.local->scope.names.lookup y.1=some .local)
  (hfr:∀y∈scope.names,y.2=.free->X.env.kindOf y.1=some .cell \/ X.env.kindOf y.1=some .free) (hcap:zfR X.N N' caps scope)
  (hi:PI X tg iter wi) (hg:∀cl C s₀ H₀ ex,PG (cxC X scope N' cl C s₀ H₀ ex) tg g) (ht:∀cl C s₀ H₀ ex,PTL (cxC X scope N' cl C s₀ H₀ ex) ifs tc) (he:∀cl C s₀ H₀ ex,PE (cxC X scope N' cl C s₀ H₀ ex) elt te)
  (hs:∀x,foldedSetIterable iter X.env x=pure x:=by intro _; rfl):PE X (.ListComp elt [⟨tg,iter,ifs,0⟩] scope pos) (tLC wi caps g tc te):=by
 intro pins s σ H Q I h;rw[eval_ListComp];refine zdG (use:=none) hc hk hcell hnames hfr hcap hi hg ht he hs I h fun D C H' s4 f L q=>?_;obtain⟨m,hn⟩:=L.ns;exact⟨m,hn,fun h' hs'=>⟨.ref D,H',L.back h' hs',rfl,q⟩⟩
end
end L2
end
section
namespace Zp
open PySem PySem.Spec PyProof.Rows
section
variable {prog:Program}{w:World}{A:Around}{E:Value->Shared->Prop}{s:Shared}
theorem zh5 {it t:Addr}{i:Nat}{items:Array Value}{x:Value}{Q:Value->Shared->Prop} (hit:s.heap.IsTupleIter it t i) (ht:s.heap.IsTuple t items) (hx:items[i]?=some x)
  (hQ:∀h',h'.IsTupleIter it t (i+1)->Heap.SameBut it s.heap h'->Q x { s with heap:=h' }):wpAny (model prog w) A (Builtin.SmallTypes.nextOf (.ref it)) Q E s:=by
 obtain⟨o,ho,hc,hd⟩:=id hit;obtain⟨ol,hol,_,nl,hdl⟩:=ht;unfold Builtin.SmallTypes.nextOf;refine wpAny_bind (wpAny_callSpecial?_slot (name:=Str.ofString "__next__") hit.typeIs F.slot_tuple_iterator_next (wpAny_call_entry F.slot_tuple_iterator_next hit.typeIs F.entry_tuple_iterator_next ?_ (F.args_tuple_iterator_next_1 _)));show wpAny _ _ (field (.ref it) 0 >>= _) _ _ s;refine wpAny_bind (wpAny_field ho hd (x:=.ref t) rfl ?_);show wpAny _ _ (if (Value.ref t == Value.none)=true then _ else _) _ _ s;rw[if_neg (show ¬ ((Value.ref t == Value.none)=true) from Bool.false_ne_true)];show wpAny _ _ (field (.ref it) 1 >>= _) _ _ s;refine wpAny_bind (wpAny_field ho hd (x:=.int i 0) rfl ?_);show wpAny _ _ (seqItems? (.ref t) >>= _) _ _ s;refine wpAny_bind (wpAny_seqItems hol hdl ?_);simp only[Int.toNat_natCast,hx];refine wpAny_bind (wpAny_setField ho hd (by simp) (wpAny_pure ⟨x,rfl,wpAny_pure (hQ _ ?_ (Heap.SameBut.update ..))⟩));exact⟨_,Heap.get?_update_self _ ho (Obj.isFreed_of_fields (Obj.data_mapFields hd _)),(Obj.cls_mapFields ..).trans hc,by
  rw[Obj.data_mapFields hd]; simp[rawInt]⟩
theorem zjk {it t:Addr}{i:Nat}{items:Array Value}{Q:Value->Shared->Prop} (hh:A.handled=none) (hit:s.heap.IsTupleIter it t i) (ht:s.heap.IsTuple t items) (hx:items[i]?=none)
  (hE:∀h' e,Heap.ExtBut it s.heap h'->(∃o,h'.get? e=some o/\o.cls=.type "StopIteration")->E (.ref e) { s with heap:=h' }):wpAny (model prog w) A (Builtin.SmallTypes.nextOf (.ref it)) Q E s:=by
 obtain⟨o,ho,hc,hd⟩:=id hit;obtain⟨ol,hol,_,nl,hdl⟩:=ht;unfold Builtin.SmallTypes.nextOf;refine wpAny_bind (wpAny_callSpecial?_slot (name:=Str.ofString "__next__") hit.typeIs F.slot_tuple_iterator_next (wpAny_call_entry F.slot_tuple_iterator_next hit.typeIs F.entry_tuple_iterator_next ?_ (F.args_tuple_iterator_next_1 _)));show wpAny _ _ (field (.ref it) 0 >>= _) _ _ s;refine wpAny_bind (wpAny_field ho hd (x:=.ref t) rfl ?_);show wpAny _ _ (if (Value.ref t == Value.none)=true then _ else _) _ _ s;rw[if_neg (show ¬ ((Value.ref t == Value.none)=true) from Bool.false_ne_true)];show wpAny _ _ (field (.ref it) 1 >>= _) _ _ s;refine wpAny_bind (wpAny_field ho hd (x:=.int i 0) rfl ?_);show wpAny _ _ (seqItems? (.ref t) >>= _) _ _ s;refine wpAny_bind (wpAny_seqItems hol hdl ?_);simp only[Int.toNat_natCast,hx];refine wpAny_bind (wpAny_rule (wpAny_bind (wpAny_setField ho hd (by simp) ?_)));show wpAny _ _ (newExc (.type "StopIteration") [] >>= _) _ _ _;refine wpAny_bind ?_;simp only[newExc,newTuple];refine wpAny_bind (wpAny_newObj_type ?_ (by size_fits));refine wpAny_bind (m:=firstArgMember _ _) (wpAny_of_eq (a:=Value.none) (by first | rfl | (simp only[firstArgMember]; rfl)) ?_);refine wpAny_newObj_type ?_ (by size_fits);simp only[raiseNew];refine wpAny_bind (wpAny_handled ?_)
 first | rw[show A.in1.handled=none from hh] | rw[hh]
 refine wpAny_bind (wpAny_pure (wpAny_throw ?_));exact hE _ _ (((Heap.SameBut.update ..).extBut.push _).push _) ⟨_,Heap.get?_push_size _ rfl,rfl⟩
end
theorem zil {h h':Heap}{a:Addr}{items:Array Value} (x:h.IsTuple a items) (e:∀o,h.get? a=some o->h'.get? a=some o):h'.IsTuple a items:=let ⟨o,ho,r⟩:=x; ⟨o,e o ho,r⟩
theorem zdz {prog:Program}{w:World}{A:Around} (hh:A.handled=none) (it t:Addr) (hne:t≠it) (items:Array Value) :
  Draws prog w A it [it,t] items.size (fun i v=>items[i]?=some v) (fun i h=>h.IsTupleIter it t i/\h.IsTuple t items) where
 live:=fun _ _ st=>let ⟨o,ho,_⟩:=st.1; ⟨o,ho⟩
 frame:=fun _ _ _ st hk=>⟨st.1.at fun o e=>hk it (by simp) o e,zil st.2 fun o e=>hk t (by simp) o e⟩
 item:=fun i s Q E hi st hQ=>by
  refine zh5 st.1 st.2 (x:=items[i]) (by simp[hi]) fun h' hit' hs'=>?_;exact hQ _ h' s.toks (by simp[hi]) ⟨hit',st.2.extBut hs'.extBut hne⟩ hs'
 done:=fun s Q E st hE=>zjk hh st.1 st.2 (by simp) hE
structure Apart (z TI TO i1 i2:Addr) (fp1 fp2:List Addr):Prop where
 z1:z∉fp1
 z2:z∉fp2
 o1:TO∉fp1
 o2:TO∉fp2
 m1:i1∈fp1
 m2:i2∈fp2
 x12:i1∉fp2
 x21:i2∉fp1
 TIz:TI≠z
 TOz:TO≠z
 TITO:TI≠TO
 TIi1:TI≠i1
 TIi2:TI≠i2
section
variable {prog:Program}{w:World}{A:Around}{E:Value->Shared->Prop}{s:Shared}{z TI TO i1 i2:Addr}{fp1 fp2:List Addr}{n1 n2 i:Nat}{P1 P2:Nat->Value->Prop}{S1 S2:Nat->Heap->Prop}{a b:Value}
theorem zh9 {Q:Value->Shared->Prop} (D1:Draws prog w A i1 fp1 n1 P1 S1) (D2:Draws prog w A i2 fp2 n2 P2 S2) (D:Apart z TI TO i1 i2 fp1 fp2)
  (hz:IsZip s.heap z TI TO .none) (hTI:IsPair s.heap TI (.ref i1) (.ref i2)) (hTO:IsPair s.heap TO a b) (h1:S1 i s.heap) (h2:S2 i s.heap) (l1:i<n1) (l2:i<n2)
  (hQ:∀x y h' tk,P1 i x->P2 i y->IsZip h' z TI TO (rawInt s.heap.objs.size)->IsPair h' TO x y->S1 (i+1) h'->S2 (i+1) h'->IsPair h' s.heap.objs.size x y->h'.objs.size=s.heap.objs.size+1->
   (∀c o,c≠z->c≠TO->c≠i1->c≠i2->s.heap.get? c=some o->h'.get? c=some o)->Q (.ref s.heap.objs.size) { s with heap:=h',toks:=tk }) :
  wpAny (model prog w) A (Builtin.«zip.__next__» ⟨[.ref z],[]⟩) (fun fin s'=>∃v,fin=.done (.ret v)/\Q v s') E s:=by
 have ne1:∀c∈fp1,c≠z:=fun c hc e=>D.z1 (e ▸ hc);have ne2:∀c∈fp2,c≠z:=fun c hc e=>D.z2 (e ▸ hc);have no1:∀c∈fp1,c≠TO:=fun c hc e=>D.o1 (e ▸ hc);have no2:∀c∈fp2,c≠TO:=fun c hc e=>D.o2 (e ▸ hc);have n12:∀c∈fp2,c≠i1:=fun c hc e=>D.x12 (e ▸ hc);have n21:∀c∈fp1,c≠i2:=fun c hc e=>D.x21 (e ▸ hc);have i1z:i1≠z:=ne1 _ D.m1;have i2z:i2≠z:=ne2 _ D.m2;have TOi1:TO≠i1:=(no1 _ D.m1).symm;have TOi2:TO≠i2:=(no2 _ D.m2).symm;show wpAny _ _ (field (.ref z) 2 >>= _) _ _ _;refine wpAny_bind (wpAny_field hz rfl (x:=.bool false) rfl ?_);show wpAny _ _ (field (.ref z) 3 >>= _) _ _ _;refine wpAny_bind (wpAny_field hz rfl (x:=.ref TI) rfl ?_);refine wpAny_bind (wpAny_seqItems hTI rfl ?_);show wpAny _ _ (Builtin.SmallTypes.ownedTupleIsFree (.ref z) >>= _) _ _ _;refine wpAny_bind ?_;unfold Builtin.SmallTypes.ownedTupleIsFree;refine wpAny_bind (wpAny_field hz rfl (x:=.none) rfl (wpAny_pure ?_));simp only[if_true];refine wpAny_bind (wpAny_rule ?_);refine wpAny_bind (wpAny_field hz rfl (x:=.ref TO) rfl ?_);refine wpAny_bind (wpAny_setField_rec hz (by simp) fun g1 hz1 k1=>?_);replace hz1:IsZip g1 z TI TO .ellipsis:=hz1;refine wpAny_bind ?_;simp only[List.zipIdx_cons,List.zipIdx_nil,List.forIn_cons,List.forIn_nil];refine wpAny_bind (wpAny_bind (wpAny_onRaise ?_));show wpAny _ _ (Builtin.SmallTypes.nextOf (.ref i1) >>= _) _ _ _;refine wpAny_bind (D1.item i _ _ _ l1 (D1.frame _ _ _ h1 fun c hc o e=>k1.extBut c o (ne1 c hc) e) fun x g2 tk2 px s2 k2=>wpAny_pure ?_);have t2:IsPair g2 TO a b:=k2.extBut _ _ TOi1 (k1.extBut _ _ D.TOz hTO);refine wpAny_bind (wpAny_seqItems t2 rfl ?_);refine wpAny_bind (wpAny_updateSeq_pair t2 fun g3 t3 k3=>?_);replace t3:IsPair g3 TO x b:=t3;refine wpAny_bind (wpAny_letGo (wpAny_pure ?_));refine wpAny_bind (wpAny_bind (wpAny_onRaise ?_));show wpAny _ _ (Builtin.SmallTypes.nextOf (.ref i2) >>= _) _ _ _;refine wpAny_bind (D2.item i _ _ _ l2 (D2.frame _ _ _ h2 fun c hc o e=>k3.extBut c o (no2 c hc) (k2.extBut c o (n12 c hc) (k1.extBut c o (ne2 c hc) e))) fun y g4 tk4 py s4 k4=>wpAny_pure ?_);have t4:IsPair g4 TO x b:=k4.extBut _ _ TOi2 t3;refine wpAny_bind (wpAny_seqItems t4 rfl ?_);refine wpAny_bind (wpAny_updateSeq_pair t4 fun g5 t5 k5=>?_);replace t5:IsPair g5 TO x y:=t5;refine wpAny_bind (wpAny_letGo (wpAny_pure (wpAny_pure ?_)));refine wpAny_bind (wpAny_seqItems t5 rfl ?_);refine wpAny_bind (wpAny_newTuple ?_);have hsz:g5.objs.size=s.heap.objs.size:=by rw[k5.1,k4.1,k3.1,k2.1,k1.1]
 have z5:IsZip g5 z TI TO .ellipsis:=k5.extBut _ _ D.TOz.symm (k4.extBut _ _ i2z.symm (k3.extBut _ _ D.TOz.symm (k2.extBut _ _ i1z.symm hz1)));have kk:∀c o,c≠z->c≠TO->c≠i1->c≠i2->s.heap.get? c=some o->g5.get? c=some o:=fun c o c1 c2 c3 c4 e=>
  k5.extBut _ _ c2 (k4.extBut _ _ c4 (k3.extBut _ _ c2 (k2.extBut _ _ c3 (k1.extBut _ _ c1 e))))
 have d1:S1 (i+1) g5:=D1.frame _ _ _ s2 fun c hc o e=>k5.extBut c o (no1 c hc) (k4.extBut c o (n21 c hc) (k3.extBut c o (no1 c hc) e));have d2:S2 (i+1) g5:=D2.frame _ _ _ s4 fun c hc o e=>k5.extBut c o (no2 c hc) e;have zlt:z<g5.objs.size:=Heap.lt_size z5;have e1:∀c∈fp1,∀o,g5.get? c=some o->c<g5.objs.size:=fun c _ o e=>Heap.lt_size e;show wpAny _ _ (Builtin.SmallTypes.ownedTupleHandOut (.ref z) (.ref g5.objs.size) >>= _) _ _ _;refine wpAny_bind ?_;unfold Builtin.SmallTypes.ownedTupleHandOut;have z6:IsZip (g5.push { cls:=.type "tuple",data:=.seq #[x,y] }) z TI TO .ellipsis:=Heap.get?_push_of_some _ z5;refine wpAny_bind (wpAny_setField_rec z6 (by simp) fun g7 z7 k7=>?_);replace z7:IsZip g7 z TI TO (rawInt g5.objs.size):=z7;refine wpAny_setField_rec z7 (by simp) fun g8 z8 k8=>?_;replace z8:IsZip g8 z TI TO (rawInt g5.objs.size):=z8;have up:∀c o,c≠z->g5.get? c=some o->g8.get? c=some o:=fun c o c1 e=>k8.extBut _ _ c1 (k7.extBut _ _ c1 (Heap.get?_push_of_some _ e));have T8:IsPair g8 g5.objs.size x y:=k8.extBut _ _ (Nat.ne_of_gt zlt) (k7.extBut _ _ (Nat.ne_of_gt zlt) (Heap.get?_push_size _ rfl));have sz8:g8.objs.size=g5.objs.size+1:=by rw[k8.1,k7.1,Heap.size_push]
 rw[hsz] at z8 T8 sz8;refine wpAny_pure ⟨_,rfl,?_⟩;show Q (.ref g5.objs.size) _;rw[hsz];exact hQ x y g8 _ px py z8 (up _ _ D.TOz t5) (D1.frame _ _ _ d1 fun c hc o e=>up c o (ne1 c hc) e) (D2.frame _ _ _ d2 fun c hc o e=>up c o (ne2 c hc) e) T8 sz8 fun c o c1 c2 c3 c4 e=>up c o c1 (kk c o c1 c2 c3 c4 e)
theorem zkq {Q:Fin->Shared->Prop} (D1:Draws prog w A i1 fp1 n1 P1 S1) (D2:Draws prog w A i2 fp2 n2 P2 S2) (D:Apart z TI TO i1 i2 fp1 fp2)
  (hz:IsZip s.heap z TI TO .none) (hTI:IsPair s.heap TI (.ref i1) (.ref i2)) (hTO:IsPair s.heap TO a b) (h1:S1 i s.heap) (h2:S2 i s.heap) (hend:i=n1 \/ (i<n1/\i=n2))
  (hE:∀h' e tk,(∀c o,c≠z->c≠TO->c≠i1->c≠i2->s.heap.get? c=some o->h'.get? c=some o)->(∃o,h'.get? e=some o/\o.cls=.type "StopIteration")->E (.ref e) { s with heap:=h',toks:=tk }) :
  wpAny (model prog w) A (Builtin.«zip.__next__» ⟨[.ref z],[]⟩) Q E s:=by
 have ne1:∀c∈fp1,c≠z:=fun c hc e=>D.z1 (e ▸ hc);have ne2:∀c∈fp2,c≠z:=fun c hc e=>D.z2 (e ▸ hc);have no1:∀c∈fp1,c≠TO:=fun c hc e=>D.o1 (e ▸ hc);have no2:∀c∈fp2,c≠TO:=fun c hc e=>D.o2 (e ▸ hc);have n12:∀c∈fp2,c≠i1:=fun c hc e=>D.x12 (e ▸ hc);have i1z:i1≠z:=ne1 _ D.m1;have i2z:i2≠z:=ne2 _ D.m2;have TOi1:TO≠i1:=(no1 _ D.m1).symm;show wpAny _ _ (field (.ref z) 2 >>= _) _ _ _;refine wpAny_bind (wpAny_field hz rfl (x:=.bool false) rfl ?_);show wpAny _ _ (field (.ref z) 3 >>= _) _ _ _;refine wpAny_bind (wpAny_field hz rfl (x:=.ref TI) rfl ?_);refine wpAny_bind (wpAny_seqItems hTI rfl ?_);show wpAny _ _ (Builtin.SmallTypes.ownedTupleIsFree (.ref z) >>= _) _ _ _;refine wpAny_bind ?_;unfold Builtin.SmallTypes.ownedTupleIsFree;refine wpAny_bind (wpAny_field hz rfl (x:=.none) rfl (wpAny_pure ?_));simp only[if_true];refine wpAny_bind (wpAny_rule ?_);refine wpAny_bind (wpAny_field hz rfl (x:=.ref TO) rfl ?_);refine wpAny_bind (wpAny_setField_rec hz (by simp) fun g1 hz1 k1=>?_);replace hz1:IsZip g1 z TI TO .ellipsis:=hz1;refine wpAny_bind ?_;simp only[List.zipIdx_cons,List.zipIdx_nil,List.forIn_cons,List.forIn_nil];refine wpAny_bind (wpAny_bind (wpAny_onRaise ?_));have f1:=D1.frame _ _ _ h1 fun c hc o e=>k1.extBut c o (ne1 c hc) e;rcases hend with e0 | ⟨l1,e0⟩
 ·show wpAny _ _ (Builtin.SmallTypes.nextOf (.ref i1) >>= _) _ _ _
  refine wpAny_bind (D1.done _ _ _ (e0 ▸ f1) fun g2 e k2 he=>?_);obtain⟨oe,hoe,hce⟩:=he;have z2:IsZip g2 z TI TO .ellipsis:=k2 _ _ i1z.symm hz1;have ez:e≠z:=fun x=>by subst x; rw[z2] at hoe; cases hoe; simp at hce
  refine wpAny_setField_rec z2 (by simp) fun g3 _ k3=>hE g3 e _ (fun c o c1 _ c3 _ x=>k3.extBut _ _ c1 (k2 _ _ c3 (k1.extBut _ _ c1 x))) ⟨oe,k3.extBut _ _ ez hoe,hce⟩
 ·show wpAny _ _ (Builtin.SmallTypes.nextOf (.ref i1) >>= _) _ _ _
  refine wpAny_bind (D1.item i _ _ _ l1 f1 fun x g2 tk2 px s2 k2=>wpAny_pure ?_);have t2:IsPair g2 TO a b:=k2.extBut _ _ TOi1 (k1.extBut _ _ D.TOz hTO);refine wpAny_bind (wpAny_seqItems t2 rfl ?_);refine wpAny_bind (wpAny_updateSeq_pair t2 fun g3 t3 k3=>?_);refine wpAny_bind (wpAny_letGo (wpAny_pure ?_));refine wpAny_bind (wpAny_bind (wpAny_onRaise ?_));have f2:S2 i g3:=D2.frame _ _ _ h2 fun c hc o e=>k3.extBut c o (no2 c hc) (k2.extBut c o (n12 c hc) (k1.extBut c o (ne2 c hc) e));show wpAny _ _ (Builtin.SmallTypes.nextOf (.ref i2) >>= _) _ _ _;refine wpAny_bind (D2.done _ _ _ (e0 ▸ f2) fun g4 e k4 he=>?_);obtain⟨oe,hoe,hce⟩:=he;have z4:IsZip g4 z TI TO .ellipsis:=k4 _ _ i2z.symm (k3.extBut _ _ D.TOz.symm (k2.extBut _ _ i1z.symm hz1));have ez:e≠z:=fun x=>by subst x; rw[z4] at hoe; cases hoe; simp at hce
  refine wpAny_setField_rec z4 (by simp) fun g5 _ k5=>hE g5 e _ (fun c o c1 c2 c3 c4 x=>k5.extBut _ _ c1 (k4 _ _ c4 (k3.extBut _ _ c2 (k2.extBut _ _ c3 (k1.extBut _ _ c1 x))))) ⟨oe,k5.extBut _ _ ez hoe,hce⟩
end
theorem zgr {prog:Program}{w:World}{A:Around}{z TI TO i1 i2:Addr}{fp1 fp2:List Addr}{n1 n2:Nat}{P1 P2:Nat->Value->Prop}{S1 S2:Nat->Heap->Prop}
  (D1:Draws prog w A.in1 i1 fp1 n1 P1 S1) (D2:Draws prog w A.in1 i2 fp2 n2 P2 S2) (D:Apart z TI TO i1 i2 fp1 fp2) :
  WalksT prog w A z (z::TI::TO::(fp1++fp2)) [z,TO,i1,i2] (min n1 n2) (fun i vals=>∃x y,P1 i x/\P2 i y/\vals=#[x,y])
   (fun i h=>IsZip h z TI TO .none/\IsPair h TI (.ref i1) (.ref i2)/\(∃a b,IsPair h TO a b)/\S1 i h/\S2 i h)
   (fun i T h=>IsZip h z TI TO (rawInt T)/\IsPair h TI (.ref i1) (.ref i2)/\(∃a b,IsPair h TO a b)/\S1 (i+1) h/\S2 (i+1) h/\T≠z/\T≠TO/\T≠i1/\T≠i2) where
 sub:=fun c hc=>by
  simp at hc ⊢;rcases hc with rfl | rfl | rfl | rfl
  ·simp
  ·simp
  ·exact .inr (.inr (.inr (.inl D.m1)))
  ·exact .inr (.inr (.inr (.inr D.m2)))
 frame:=fun i h h' hst hk=>by
  obtain⟨hz,hTI,⟨a,b,hTO⟩,h1,h2⟩:=hst;exact⟨hk z (by simp) _ hz,hk TI (by simp) _ hTI,⟨a,b,hk TO (by simp) _ hTO⟩,D1.frame _ _ _ h1 fun c hc o e=>hk c (by simp[hc]) o e,D2.frame _ _ _ h2 fun c hc o e=>hk c (by simp[hc]) o e⟩
 item:=fun i s Q E hi hst hQ=>by
  obtain⟨hz,hTI,⟨a,b,hTO⟩,h1,h2⟩:=hst;have hT:s.TypeIs (.ref z) "zip":=⟨_,hz,rfl⟩;unfold pyNext;refine wpAny_bind (wpAny_attempt (wpAny_callSpecial?_slot (name:=Str.ofString "__next__") hT F.slot_zip_next (wpAny_call_entry F.slot_zip_next hT F.entry_zip_next
   (zh9 D1 D2 D hz hTI hTO h1 h2 (Nat.lt_of_lt_of_le hi (Nat.min_le_left ..)) (Nat.lt_of_lt_of_le hi (Nat.min_le_right ..)) fun x y h' tk px py a1 a2 a3 a4 a5 a6 hk=>wpAny_pure ?_) (F.args_zip_next_1 _))))
  have lt:∀{c o},s.heap.get? c=some o->s.heap.objs.size≠c:=fun e=>Nat.ne_of_gt (Heap.lt_size e);obtain⟨o1,l1⟩:=D1.live _ _ h1;obtain⟨o2,l2⟩:=D2.live _ _ h2;exact hQ s.heap.objs.size #[x,y] h' tk ⟨_,_,px,py,rfl⟩ (Nat.le_refl _) ⟨_,a5,rfl,_,rfl⟩ ⟨a1,hk _ _ D.TIz D.TITO D.TIi1 D.TIi2 hTI,⟨_,_,a2⟩,a3,a4,lt hz,lt hTO,lt l1,lt l2⟩
   fun c o hc e=>hk c o (fun x=>hc (by simp[x])) (fun x=>hc (by simp[x])) (fun x=>hc (by simp[x])) (fun x=>hc (by simp[x])) e
 go:=fun elts k pos i T s Q E hm hQ=>by
  obtain⟨hz,hTI,⟨a,b,hTO⟩,h1,h2,_⟩:=hm;refine wpAny_letOwnedTupleGo_zip hz fun h' hz' hs'=>hQ h' ⟨hz',hs'.extBut _ _ D.TIz hTI,⟨a,b,hs'.extBut _ _ D.TOz hTO⟩,
   D1.frame _ _ _ h1 fun c hc o e=>hs'.extBut c o (fun q=>D.z1 (q ▸ hc)) e,D2.frame _ _ _ h2 fun c hc o e=>hs'.extBut c o (fun q=>D.z2 (q ▸ hc)) e⟩ fun c o hc e=>hs'.extBut _ _ (fun x=>hc (by simp[x])) e
 apart:=fun i T h hm hT=>by
  obtain⟨_,_,_,_,_,t1,t2,t3,t4⟩:=hm;simp at hT;rcases hT with rfl | rfl | rfl | rfl
  ·exact t1 rfl
  ·exact t2 rfl
  ·exact t3 rfl
  ·exact t4 rfl
 done:=fun s Q E hst hQ=>by
  obtain⟨hz,hTI,⟨a,b,hTO⟩,h1,h2⟩:=hst;have hT:s.TypeIs (.ref z) "zip":=⟨_,hz,rfl⟩;have hend:min n1 n2=n1 \/ (min n1 n2<n1/\min n1 n2=n2):=by omega
  unfold pyNext;refine wpAny_bind (wpAny_attempt (wpAny_callSpecial?_slot (name:=Str.ofString "__next__") hT F.slot_zip_next
   (wpAny_call_entry F.slot_zip_next hT F.entry_zip_next (zkq D1 D2 D hz hTI hTO h1 h2 hend fun h' e tk hk he=>?_) (F.args_zip_next_1 _))))
  obtain⟨o,ho,hc⟩:=he;refine wpAny_bind (wpAny_isInstance (T:="StopIteration") (b:=true) ⟨o,ho,hc⟩ isSubtype_stop ?_);exact wpAny_pure (hQ _ tk fun c o hc e=>hk c o (fun x=>hc (by simp[x])) (fun x=>hc (by simp[x])) (fun x=>hc (by simp[x])) (fun x=>hc (by simp[x])) e)
 self:=fun i s Q E hst hQ=>wpAny_pyIter_zip hst.1 hQ
end Zp
end
section
namespace L2
open PySem PySem.Spec PyProof.Rows
section
variable {X:Cx}{pins:List (Addr×Obj)}{σ:St}{H:Hp}{s:Shared}{h':Heap}
theorem Inv.turneds {t':Nat}{ch:List Addr} (I:Inv X pins σ H s) (hf:∀b∈ch,FpOk X pins H b) (k:∀b o,b∉ch->s.heap.get? b=some o->h'.get? b=some o):Inv X pins σ H { s with heap:=h',toks:=t' }:=by
 have nit:∀b u,H b=some u->b∉ch:=fun b u e z=>by have:=(hf b z).1; rw[this] at e; cases e
 refine I.step (g':=s.gens) (d':=s.drawn) (ch:=ch) (fun b hb=>?_) (fun b o _ _ hc e _=>k b o hc e) (fun b o _ _ hc e _=>⟨o.slots,k b o hc e⟩) (fun _ _ _ _ n=>n)
  (fun b o hc e=>⟨o,k b o hc e⟩) (fun _ _ e=>e) (fun _ _ _ e=>e) (fun b ps e=>⟨#[],by rw[e]; simp⟩) (fun m hm=>?_) (fun b u e=>?_) I.bare
 ·obtain⟨f0,f1,f2,f3,f4,f5⟩:=hf b hb
  exact⟨f3,f1,f4,f5⟩
 ·obtain⟨o,es,ep,ho,r⟩:=hm
  exact⟨o,es,ep,k _ o (fun z=>(hf _ z).2.1 rfl) ho,r⟩
 ·refine (I.hok b u e).stay (fun c v hc q=>k c v ?_ q) (fun _ q=>q) fun _ _ q=>q
  rcases hc with z | z
  ·rw[z]; exact nit b u e
  ·exact nit c _ z
theorem Inv.adopt {a:Addr}{o:HO} (I:Inv X pins σ H s) (hn:H a=none) (h1:X.s₀.heap.objs.size<=a) (h2:a≠X.env.locals) (h3:∀x c,X.env.cells.lookup x=some c->c≠a) (h4:∀p∈X.pn++pins,p.1≠a)
  (new:zO X.prog X.w (upd H a o) s.heap a o):Inv X pins σ (upd H a o) s:=by
 refine I.step (h':=s.heap) (g':=s.gens) (t':=s.toks) (d':=s.drawn) (ch:=[a]) (fun b hb=>?_) (fun b o _ _ hc e _=>e) (fun b o _ _ hc e _=>⟨o.slots,e⟩) (fun b o hc e n=>?_)
  (fun b o hc e=>⟨o,e⟩) (fun b xs e=>?_) (fun b o u e=>?_) (fun b ps e=>⟨#[],?_⟩) (fun m hm=>hm) (fun b u e=>?_) I.bare
 ·have e:b=a:=by simpa using hb
  subst e;exact⟨.inr h1,h2,h3,h4⟩
 ·rw[upd_ne (fun z=>hc (by simp[z]))]; exact n
 ·rw[upd_ne (ne_of_none e hn)]; exact e
 ·rw[upd_ne (ne_of_none e hn)]; exact e
 ·rw[upd_ne (ne_of_none e hn),e]; simp
 ·by_cases hb:b=a
  ·subst hb; rw[zd] at e; cases e; exact new
  ·rw[upd_ne hb] at e
   exact (I.hok b u e).stay (fun _ _ _ q=>q) (fun c q=>by rw[upd_ne (ne_of_none q hn)]; exact q) fun c xs q=>by rw[upd_ne (ne_of_none q hn)]; exact q
theorem Inv.grown {t':Nat}{ch:List Addr}{a:Addr}{o:HO} (I:Inv X pins σ H s) (hf:∀b∈ch,FpOk X pins H b) (k:∀b o,b∉ch->s.heap.get? b=some o->h'.get? b=some o) (hp:s.heap.objs.size<=a)
  (new:zO X.prog X.w (upd H a o) h' a o):Inv X pins σ (upd H a o) { s with heap:=h',toks:=t' }:=by
 have I1:Inv X pins σ H { s with heap:=h',toks:=t' }:=I.turneds hf k;obtain⟨f0,f1,f2,f3,f4,f5⟩:=I.fpOk hp (I.hok.fresh hp);exact I1.adopt f0 (Nat.le_trans I.sz hp) f1 f4 f5 new
theorem zj4 {b t:Addr}{o:Obj} (I:Inv X pins σ H s) (f:FpOk X pins H b) (hk:X.K.lookup t=some o):t≠b:=by
 intro z;subst z;have e:=I.ok.mod.kin t o hk;rcases f.2.2.2.1 with q | q
 ·exact I.ok.noex t o e q
 ·exact absurd (Nat.lt_of_lt_of_le (Heap.lt_size (I.ok.bs t o e).1) q) (Nat.lt_irrefl _)
theorem zi5 {b t:Addr}{xs:List V} (I:Inv X pins σ H s) (f:FpOk X pins H b) (h:SqT X.K H t xs):t≠b:=by
 rcases h with (h | ⟨o,h⟩) | ⟨o,_,_,hk,_⟩
 ·exact ne_of_none h f.1
 ·exact ne_of_none h f.1
 ·exact zj4 I f hk
end
theorem ziz {P:Program}{w:World}{K:PySem.W.Frag}{J:It}{fp wr:List Addr}{it:Addr}{tn:Nat->Heap->Prop}{elts:List Expr}{k:Nat}{pos:Pos} (mem:it∈fp)
  (obj:∀i h,tn i h->∀b∈fp,∃o,h.get? b=some o/\∀v,o.data≠.cell v) (keep:∀i h h',tn i h->(∀b∈fp,∀o,h.get? b=some o->h'.get? b=some o)->tn i h') (hw:∀b∈wr,b∈fp)
  (W:∀(X:Cx),X.prog=P->X.w=w->X.K=K->X.calm=true->∀(i:Nat) (pins:List (Addr×Obj)) (s:Shared) (σ:St) (H:Hp),Inv X pins σ H s->(∀b∈fp,FpOk X pins H b)->tn i s.heap->(J.go i H \/ J.stop i H)->
   ∃(fp':List Addr) (n:Nat) (Pt:Nat->Array Value->Prop) (S:Nat->Heap->Prop) (Mid:Nat->Addr->Heap->Prop),WalksT P w X.A it fp' wr n Pt S Mid/\S i s.heap/\(∀j h,S j h->tn j h)/\
    (J.go i H->i<n/\∀vals,Pt i vals->∃xs:List V,Vals xs vals.toList/\xs.length<=sizeLine/\∀p,H p=none->J.yld i H (.ref p) (upd H p (.tup xs)))/\(J.stop i H->i=n))
  (self:∀(A:Around) (i:Nat) (s:Shared) (Q:Value->Shared->Prop) (E:Value->Shared->Prop),tn i s.heap->Q (.ref it) s->wpAny (model P w) A (pyIter (.ref it)) Q E s) :
  Turn P w K (.Tuple elts k pos) J fp it tn where
 mem:=mem
 obj:=obj
 keep:=keep
 item:=by
  intro X hP hw' hK hc i pins s σ H E I hf st hg;obtain⟨fp',n,Pt,S,Mid,WT,st',tnS,g,_⟩:=W X hP hw' hK hc i pins s σ H I hf st (.inl hg);obtain⟨hi,hv⟩:=g hg;subst hP hw' hK;refine WT.item i s _ _ hi st' fun T vals h' tk hp hT htup hm hk=>⟨.ref T,rfl,?_⟩;obtain⟨xs,rv,hz,hy⟩:=hv vals hp;have I1:Inv X pins σ (upd H T (.tup xs)) { s with heap:=h',toks:=tk }:=I.grown (ch:=wr) (fun b hb=>hf b (hw b hb)) hk hT (show zO X.prog X.w _ h' T (.tup xs) from ⟨hz,vals.toList,rv,by have q:IsTup h' T vals:=htup; simpa using q⟩);have ltT:∀b∈fp,b≠T:=fun b hb=>by
   obtain⟨o,e,_⟩:=obj i _ st b hb;exact Nat.ne_of_lt (Nat.lt_of_lt_of_le (Heap.lt_size e) hT)
  have hf1:∀b∈fp,FpOk X pins (upd H T (.tup xs)) b:=fun b hb=>by
   obtain⟨f0,fr⟩:=hf b hb;exact⟨by rw[upd_ne (ltT b hb)]; exact f0,fr⟩
  refine WT.go elts k pos i T _ _ _ hm fun h'' st'' hk''=>?_;have I2:Inv X pins σ (upd H T (.tup xs)) { s with heap:=h'',toks:=tk }:=I1.turneds (s:={ s with heap:=h',toks:=tk }) (t':=tk) (ch:=wr) (fun b hb=>hf1 b (hw b hb)) hk'';exact⟨.ref T,_,I2,rfl,hy T (I.hok.fresh hT),tnS _ _ st'',fun b hb=>(hf1 b hb).1⟩
 done:=by
  intro X hP hw' hK hc i pins s σ H E I hf st hg;obtain⟨fp',n,Pt,S,Mid,WT,st',tnS,_,g⟩:=W X hP hw' hK hc i pins s σ H I hf st (.inr hg);subst hP hw' hK;have e:=g hg;subst e;exact WT.done s _ _ st' fun h' tk hk=>⟨rfl,I.turneds (ch:=wr) (fun b hb=>hf b (hw b hb)) hk⟩
 self:=self
def Itz (K:PySem.W.Frag) (t1 t2:Addr):It:=
 ⟨fun i H=>∃xs ys,SqT K H t1 xs/\SqT K H t2 ys/\i<min xs.length ys.length,
  fun i H v H'=>∃p x y,v=.ref p/\H p=none/\H'=upd H p (.tup [x,y])/\(∀xs,SqT K H t1 xs->xs[i]?=some x)/\∀ys,SqT K H t2 ys->ys[i]?=some y,
  fun i H=>∃xs ys,SqT K H t1 xs/\SqT K H t2 ys/\i=min xs.length ys.length⟩
theorem two_line:(2:Nat)<=sizeLine:=by rw[sizeLine_eq]; decide
theorem zhM {P:Program}{w:World}{K:PySem.W.Frag}{elts:List Expr}{k:Nat}{pos:Pos} (t1 t2 z TI TO i1 i2:Addr) (hd:TI≠z/\TO≠z/\TI≠TO/\TI≠i1/\TI≠i2/\z≠i1/\z≠i2/\TO≠i1/\TO≠i2/\i1≠i2) :
  Turn P w K (.Tuple elts k pos) (Itz K t1 t2) [z,TI,TO,i1,i2] z (fun i h=>IsZip h z TI TO .none/\IsPair h TI (.ref i1) (.ref i2)/\(∃a b,IsPair h TO a b)/\h.IsTupleIter i1 t1 i/\h.IsTupleIter i2 t2 i):=by
 obtain⟨d1,d2,d3,d4,d5,d6,d7,d8,d9,d10⟩:=hd;refine ziz (wr:=[z,TO,i1,i2]) (by simp) (fun i h st b hb=>?_) (fun i h h' st kk=>?_) (fun b hb=>?_) (fun X hP hw hK hc i pins s σ H I hf st hgs=>?_) fun A i s Q E st h=>wpAny_pyIter_zip st.1 h
 ·obtain⟨a1,a2,⟨a,b',a3⟩,⟨o4,a4,_,e4⟩,⟨o5,a5,_,e5⟩⟩:=st
  simp at hb;rcases hb with rfl | rfl | rfl | rfl | rfl
  ·exact⟨_,a1,fun v z=>by cases z⟩
  ·exact⟨_,a2,fun v z=>by cases z⟩
  ·exact⟨_,a3,fun v z=>by cases z⟩
  ·exact⟨_,a4,fun v z=>by rw[e4] at z; cases z⟩
  ·exact⟨_,a5,fun v z=>by rw[e5] at z; cases z⟩
 ·obtain⟨a1,a2,⟨a,b',a3⟩,a4,a5⟩:=st
  exact⟨kk z (by simp) _ a1,kk TI (by simp) _ a2,⟨a,b',kk TO (by simp) _ a3⟩,a4.at fun o e=>kk i1 (by simp) o e,a5.at fun o e=>kk i2 (by simp) o e⟩
 ·simp at hb ⊢
  rcases hb with rfl | rfl | rfl | rfl <;> simp
 ·subst hP hw hK
  have hd:∃xs ys,SqT X.K H t1 xs/\SqT X.K H t2 ys:=by
   rcases hgs with ⟨xs,ys,a,b,_⟩ | ⟨xs,ys,a,b,_⟩
   ·exact⟨xs,ys,a,b⟩
   ·exact⟨xs,ys,a,b⟩
  obtain⟨xs,ys,q1,q2⟩:=hd;obtain⟨us,r1,p1,_⟩:=I.tuple q1;obtain⟨ws,r2,p2,_⟩:=I.tuple q2;have hl1:=r1.length;have hl2:=r2.length;have hh:=I.ok.hd hc;obtain⟨a1,a2,a3,a4,a5⟩:=st;have f:=fun b hb=>zi5 I (hf b hb) q1;have f':=fun b hb=>zi5 I (hf b hb) q2;have AP:Zp.Apart z TI TO i1 i2 [i1,t1] [i2,t2]:=by
   refine⟨?_,?_,?_,?_,by simp,by simp,?_,?_,d1,d2,d3,d4,d5⟩
   ·simp; exact⟨d6,(f z (by simp)).symm⟩
   ·simp; exact⟨d7,(f' z (by simp)).symm⟩
   ·simp; exact⟨d8,(f TO (by simp)).symm⟩
   ·simp; exact⟨d9,(f' TO (by simp)).symm⟩
   ·simp; exact⟨d10,(f' i1 (by simp)).symm⟩
   ·simp; exact⟨d10.symm,(f i2 (by simp)).symm⟩
  have WZ:=Zp.zgr (prog:=X.prog) (w:=X.w) (A:=X.A) (Zp.zdz (A:=X.A.in1) hh i1 t1 (f i1 (by simp)) us.toArray) (Zp.zdz (A:=X.A.in1) hh i2 t2 (f' i2 (by simp)) ws.toArray) AP;refine⟨_,_,_,_,_,WZ,⟨a1,a2,a3,⟨a4,p1⟩,⟨a5,p2⟩⟩,fun j h st=>⟨st.1,st.2.1,st.2.2.1,st.2.2.2.1.1,st.2.2.2.2.1⟩,fun g=>?_,fun g=>?_⟩
  ·obtain⟨xs',ys',q1',q2',hi⟩:=g
   have e1:=I.tuple_inj q1' q1;have e2:=I.tuple_inj q2' q2;subst e1 e2;refine⟨by simpa[<- hl1,<- hl2] using hi,fun vals hp=>?_⟩;obtain⟨x,y,px,py,rfl⟩:=hp;have px':us[i]?=some x:=by simpa using px
   have py':ws[i]?=some y:=by simpa using py
   have lx:i<xs'.length:=by omega
   have ly:i<ys'.length:=by omega
   have gx:xs'[i]?=some xs'[i]:=by simp[lx]
   have gy:ys'[i]?=some ys'[i]:=by simp[ly]
   obtain⟨u,e3,ru⟩:=r1.get gx;obtain⟨u',e4,ru'⟩:=r2.get gy;rw[px'] at e3; cases e3;rw[py'] at e4; cases e4;refine⟨[xs'[i],ys'[i]],.cons ru (.cons ru' .nil),two_line,fun p hp=>⟨p,_,_,rfl,hp,rfl,fun zs hz=>?_,fun zs hz=>?_⟩⟩
   ·rw[I.tuple_inj hz q1]; exact gx
   ·rw[I.tuple_inj hz q2]; exact gy
  ·obtain⟨xs',ys',q1',q2',hi⟩:=g
   have e1:=I.tuple_inj q1' q1;have e2:=I.tuple_inj q2' q2;subst e1 e2
   simpa[<- hl1,<- hl2] using hi
theorem ziq (l1 l2:Addr) (xs ys:Array Value) :
  Meets (Builtin.«zip.__new__» ⟨[.type "zip",.ref l1,.ref l2],[]⟩) (fun _ R s=>s.heap.IsTuple l1 xs/\s.heap.IsTuple l2 ys/\
   ∀h',IsZip h' (s.heap.objs.size+4) (s.heap.objs.size+2) (s.heap.objs.size+3) .none->IsPair h' (s.heap.objs.size+2) (.ref s.heap.objs.size) (.ref (s.heap.objs.size+1))->
   IsPair h' (s.heap.objs.size+3) .none .none->h'.IsTupleIter s.heap.objs.size l1 0->h'.IsTupleIter (s.heap.objs.size+1) l2 0->
   (∀c o,s.heap.get? c=some o->h'.get? c=some o)->R (.ok (.ret (.ref (s.heap.objs.size+4)))) { s with heap:=h' }):=
 .of_wp fun prog w A R s h=>by
  obtain⟨hp,g,d,tk,os⟩:=s; obtain⟨hl1,hl2,h⟩:=h;have hsub:=sub_zip;have hL1:Heap.IsTuple (Shared.heap ⟨hp,g,d,tk,os⟩) l1 xs:=hl1;have hL2:Heap.IsTuple (Shared.heap ⟨hp.push { cls:=.type "tuple_iterator",data:=.fields #[.ref l1,.int 0 0] },g,d,tk,os⟩) l2 ys:=Heap.IsTuple.push hl2 _
  wp_walk using wpAny_pyIter_tuple hL1,wpAny_pyIter_tuple hL2
  refine⟨_,rfl,?_⟩;dsimp only at h ⊢;have z1:∀(h:Heap) (o:Obj),(h.push o).objs.size=h.objs.size+1:=fun h o=>Heap.size_push ..;simp only[z1,Nat.add_assoc,Nat.reduceAdd];refine h _ ?_ ?_ ?_ ?_ ?_ fun c o x=>Heap.get?_push_of_some _ (Heap.get?_push_of_some _ (Heap.get?_push_of_some _ (Heap.get?_push_of_some _ (Heap.get?_push_of_some _ x))))
  ·exact Heap.get?_push_at (by simp only[z1]) rfl
  ·exact Heap.get?_push_of_some _ (Heap.get?_push_of_some _ (Heap.get?_push_at (by simp only[z1]) rfl))
  ·exact Heap.get?_push_of_some _ (Heap.get?_push_at (by simp only[z1]) rfl)
  ·exact⟨_,Heap.get?_push_of_some _ (Heap.get?_push_of_some _ (Heap.get?_push_of_some _ (Heap.get?_push_of_some _ (Heap.get?_push_size _ rfl)))),rfl,rfl⟩
  ·exact⟨_,Heap.get?_push_of_some _ (Heap.get?_push_of_some _ (Heap.get?_push_of_some _ (Heap.get?_push_at (by simp only[z1]) rfl))),rfl,rfl⟩
section
variable {X:Cx}{elts:List Expr}{k:Nat}{tpos:Pos}
def iZip (K:PySem.W.Frag) (ta:TA):TI:=fun σ H R=>ta σ H fun vs H1=>∃t1 t2,vs=[.ref t1,.ref t2]/\(∃xs,SqT K H1 t1 xs)/\(∃ys,SqT K H1 t2 ys)/\R (Itz K t1 t2) H1
theorem zlf {a b:Expr}{ta:TA}{p pos:Pos} (hg:Gl X "zip") (hm:X.mg "zip"=none) (hv:bootBuiltins "zip"=some (.type "zip")) (ha:PA X [a,b] ta) (hs:starEach [a,b] X.env=[(false,eval a X.env),(false,eval b X.env)]:=by rfl) (hs2:starEach [b] X.env=[(false,eval b X.env)]:=by rfl) :
  PI X (.Tuple elts k tpos) (.Call (.Name "zip" p) [a,b] [] pos) (iZip X.K ta):=by
 intro pins s σ H R I h;refine Call_ (zcD I hg hm hv (PyProof.Rows.callWith_type1 (thn (ha pos pins s σ H _ I h) fun us s1 ⟨vs,H1,I1,r1,q1⟩=>?_) (by rw[hs,hs2]) (by rw[hs2]; rfl)));obtain⟨t1,t2,e,⟨xs,q1⟩,⟨ys,q2⟩,q⟩:=q1;subst e;obtain⟨u,u',rfl,ru,ru'⟩:=vals2 r1;cases ru;cases ru';obtain⟨is1,_,p1,_⟩:=I1.tuple q1;obtain⟨is2,_,p2,_⟩:=I1.tuple q2;refine callType_new F.called_zip (by decide) (F.typeCall_zip_2 _ _) (F.newCall_zip_2 _ _) (fun obj=>F.args_object_init_3 obj _ _) F.entry_zip_new (ziq t1 t2 is1.toArray is2.toArray) ⟨p1,p2,fun h' a1 a2 a3 a4 a5 kk=>?_⟩;refine⟨⟨_,a1,rfl⟩,wpAny_pyIter_zip a1 ?_⟩;have I2:Inv X pins σ H1 { s1 with heap:=h' }:=I1.kept (t':=s1.toks) kk;refine⟨s1.heap.objs.size+4,[s1.heap.objs.size+4,s1.heap.objs.size+2,s1.heap.objs.size+3,s1.heap.objs.size,s1.heap.objs.size+1],_,_,H1,rfl,I2,zhM t1 t2 _ _ _ _ _ (by refine⟨?_,?_,?_,?_,?_,?_,?_,?_,?_,?_⟩ <;> (intro z; have z':(_:Nat)=_:=z; omega)),⟨a1,a2,⟨_,_,a3⟩,a4,a5⟩,fun b hb=>?_,q⟩;have hb':s1.heap.objs.size<=b:=by
  simp only[List.mem_cons,List.not_mem_nil,or_false] at hb;rcases hb with rfl | rfl | rfl | rfl | rfl
  ·exact Nat.le_add_right _ _
  ·exact Nat.le_add_right _ _
  ·exact Nat.le_add_right _ _
  ·exact Nat.le_refl _
  ·exact Nat.le_add_right _ _
 exact I1.fpOk hb' (I1.hok.fresh hb')
end
end L2
end
section
namespace L2
open PySem PySem.Spec PyProof.Rows
section
variable {X:Cx}{elts:List Expr}{k:Nat}{tpos:Pos}
theorem bools_of:∀{bs:List Bool}{us:List Value},Vals (bs.map V.bl) us->LSm.BoolsAre us bs
 | [],_,.nil=>.nil
 | b::bs,_,.cons r t=>by cases r; exact .cons b (bools_of t)
theorem ze8 (hc:X.calm=true):zbl X (.builtin "all") (fun xs H Q=>∃(l:Addr) (bs:List Bool),xs=[.ref l]/\SqL X.K H l (bs.map V.bl)/\Q (.bl (bs.all id)) H):=by
 intro pins s σ H xs us Q I r h;obtain⟨l,bs,rfl,hq,q⟩:=h;obtain⟨u,rfl,ru⟩:=vals1 r;cases ru;obtain⟨its,r1,p1,_⟩:=I.list hq;have hh:=I.ok.hd hc;have hl:=p1.isList;have hb:=bools_of r1;have hlt:l<s.heap.objs.size:=by obtain⟨_,e,_⟩:=hl; exact Heap.lt_size e
 refine call_all_walk (wpAny_pyIter_list hl ?_);refine⟨s.heap.objs.size,[s.heap.objs.size,l],[s.heap.objs.size],its.toArray.size,_,_,fun i=>(bs[i]?).getD true,rfl,Walks.list (A:=X.A.in1) hh _ l (Nat.ne_of_lt hlt) its.toArray,
  ⟨⟨_,Heap.get?_push_size _ rfl,rfl,rfl⟩,hl.push _⟩,fun i v s' Q' E' hP hQ=>?_,fun h' tk hk=>?_⟩
 ·obtain⟨b,e,rfl⟩:=hb.get i v (by simpa using hP)
  simp only[e,Option.getD_some] at hQ;exact wpAny_truthy_bool hQ
 ·have e:((List.range its.toArray.size).all fun i=>(bs[i]?).getD true)=bs.all id:=by
   rw[List.size_toArray,hb.length]; exact LSm.range_all bs
  rw[e];exact⟨.bl _,H,I.kept (LSm.kept_iter hk),rfl,q⟩
end
section
variable {K:PySem.W.Frag}{a:Addr}{xs:List V}{g:TG}{tc:TT}{te:TE}{σ:St}{H1:Hp}{Q:VK}{D:Addr}
def CWd (n:Nat) (Pv:Nat->St->List V->Hp->Prop) (i m:Nat) (σ:St) (H:Hp):Prop:=m=n - i/\i<=n/\∃ys,ys.length<=i/\Pv i σ ys H
def CPut (n:Nat) (Pv:Nat->St->List V->Hp->Prop) (D:Addr) (i:Nat) (σ3:St):VK:=fun y H6=>∃ys m',H6 D=some (.lst ys)/\ys.length<sizeLine/\m'<n - i/\CWd n Pv (i+1) m' σ3 (upd H6 D (.lst (ys++[y])))
def CSkip (n:Nat) (Pv:Nat->St->List V->Hp->Prop) (i:Nat) (σ3:St) (H5:Hp):Prop:=∃m',m'<n - i/\CWd n Pv (i+1) m' σ3 H5
theorem cput {n:Nat}{Pv:Nat->St->List V->Hp->Prop}{i:Nat}{σ3:St}{ys:List V}{y:V}{H6:Hp} (hn:n<=sizeLine) (hi:i<n) (hl:ys.length<=i) (e:H6 D=some (.lst ys)) (p:Pv (i+1) σ3 (ys++[y]) (upd H6 D (.lst (ys++[y])))):CPut n Pv D i σ3 y H6:=
 ⟨ys,n - (i+1),e,by omega,by omega,rfl,hi,ys++[y],by simp; omega,p⟩
theorem cskip {n:Nat}{Pv:Nat->St->List V->Hp->Prop}{i:Nat}{σ3:St}{ys:List V}{H5:Hp} (hi:i<n) (hl:ys.length<=i) (p:Pv (i+1) σ3 ys H5):CSkip n Pv i σ3 H5:=
 ⟨n - (i+1),by omega,rfl,hi,ys,by omega,p⟩
theorem zce {J:It} (n:Nat) (Pv:Nat->St->List V->Hp->Prop) (h0:Pv 0 σ [] (upd H1 D (.lst [])))
  (hstop:∀σ ys H,Pv n σ ys H->J.stop n H) (hgo:∀i σ ys H,i<n->Pv i σ ys H->J.go i H)
  (hs:∀i σ ys H x H',i<n->ys.length<=i->Pv i σ ys H->J.yld i H x H'->g x σ H' fun σ3 H4=>tc σ3 H4 fun b H5=>if b=true then te σ3 H5 (CPut n Pv D i σ3) else CSkip n Pv i σ3 H5)
  (hd:∀σ ys H,Pv n σ ys H->Q (.ref D) H):zau J g tc te σ H1 D Q:=by
 refine⟨CWd n Pv,⟨n,by simp,Nat.zero_le _,[],Nat.le_refl _,h0⟩,?_⟩;rintro i m σ2 H2 ⟨rfl,hi,ys,hl,p⟩
 by_cases hlt:i<n
 ·exact .inr ⟨hgo i σ2 ys H2 hlt p,fun x H3 y=>hs i σ2 ys H2 x H3 hlt hl p y⟩
 ·have e:i=n:=by omega
  subst e;exact .inl ⟨hstop σ2 ys H2 p,hd σ2 ys H2 p⟩
theorem zag (Pv:Nat->St->List V->Hp->Prop) (h0:Pv 0 σ [] (upd H1 D (.lst []))) (hl:∀i σ ys H,Pv i σ ys H->SqL K H a xs)
  (hs:∀i σ ys H x,xs[i]?=some x->i<xs.length->ys.length<=i->Pv i σ ys H->g x σ H fun σ3 H4=>tc σ3 H4 fun b H5=>if b=true then te σ3 H5 (CPut xs.length Pv D i σ3) else CSkip xs.length Pv i σ3 H5)
  (hd:∀σ ys H,Pv xs.length σ ys H->Q (.ref D) H):zau (Itl K a) g tc te σ H1 D Q:=by
 refine zce xs.length Pv h0 (fun σ ys H p=>⟨xs,hl _ _ _ _ p,Nat.le_refl _⟩) (fun i σ ys H hi p=>⟨xs,xs[i],hl _ _ _ _ p,by simp[hi]⟩) (fun i σ ys H x H' hi hy p y=>?_) hd;obtain⟨e,y⟩:=y;subst e;exact hs i σ ys _ x (y xs (hl _ _ _ _ p)) hi hy p
theorem zhI (Pv:Nat->St->List V->Hp->Prop) (h0:Pv 0 σ [] (upd H1 D (.lst []))) (hl:∀i σ ys H,Pv i σ ys H->SqT K H a xs)
  (hs:∀i σ ys H x,xs[i]?=some x->i<xs.length->ys.length<=i->Pv i σ ys H->g x σ H fun σ3 H4=>tc σ3 H4 fun b H5=>if b=true then te σ3 H5 (CPut xs.length Pv D i σ3) else CSkip xs.length Pv i σ3 H5)
  (hd:∀σ ys H,Pv xs.length σ ys H->Q (.ref D) H):zau (Itt K a) g tc te σ H1 D Q:=by
 refine zce xs.length Pv h0 (fun σ ys H p=>⟨xs,hl _ _ _ _ p,Nat.le_refl _⟩) (fun i σ ys H hi p=>⟨xs,xs[i],hl _ _ _ _ p,by simp[hi]⟩) (fun i σ ys H x H' hi hy p y=>?_) hd;obtain⟨e,y⟩:=y;subst e;exact hs i σ ys _ x (y xs (hl _ _ _ _ p)) hi hy p
theorem za7 {lo:Int}{n:Nat} (Pv:Nat->St->List V->Hp->Prop) (h0:Pv 0 σ [] (upd H1 D (.lst [])))
  (hs:∀i σ ys H,i<n->ys.length<=i->Pv i σ ys H->g (.int (lo+i)) σ H fun σ3 H4=>tc σ3 H4 fun b H5=>if b=true then te σ3 H5 (CPut n Pv D i σ3) else CSkip n Pv i σ3 H5)
  (hd:∀σ ys H,Pv n σ ys H->Q (.ref D) H):zau (Itr lo n) g tc te σ H1 D Q:=by
 refine zce n Pv h0 (fun σ ys H p=>Nat.le_refl _) (fun i σ ys H hi p=>hi) (fun i σ ys H x H' hi hy p y=>?_) hd;obtain⟨e,y⟩:=y;subst e y;exact hs i σ ys _ hi hy p
theorem zh3 {t1 t2:Addr}{ys:List V} (Pv:Nat->St->List V->Hp->Prop) (h0:Pv 0 σ [] (upd H1 D (.lst []))) (hl:∀i σ zs H,Pv i σ zs H->SqT K H t1 xs/\SqT K H t2 ys)
  (hs:∀i σ zs H p x y,xs[i]?=some x->ys[i]?=some y->i<min xs.length ys.length->zs.length<=i->Pv i σ zs H->H p=none->g (.ref p) σ (upd H p (.tup [x,y])) fun σ3 H4=>tc σ3 H4 fun b H5=>if b=true then te σ3 H5 (CPut (min xs.length ys.length) Pv D i σ3) else CSkip (min xs.length ys.length) Pv i σ3 H5)
  (hd:∀σ zs H,Pv (min xs.length ys.length) σ zs H->Q (.ref D) H):zau (Itz K t1 t2) g tc te σ H1 D Q:=by
 refine zce (min xs.length ys.length) Pv h0 (fun σ zs H p=>⟨xs,ys,(hl _ _ _ _ p).1,(hl _ _ _ _ p).2,rfl⟩) (fun i σ zs H hi p=>⟨xs,ys,(hl _ _ _ _ p).1,(hl _ _ _ _ p).2,hi⟩) (fun i σ zs H v H' hi hy p y=>?_) hd;obtain⟨pp,x,y',rfl,hp,rfl,y1,y2⟩:=y;exact hs i σ zs H pp x y' (y1 xs (hl _ _ _ _ p).1) (y2 ys (hl _ _ _ _ p).2) hi hy p hp
end
end L2
end
section
namespace Dk
open PySem PySem.Spec PyProof.Rows
def IsD (h:Heap) (d:Addr) (es:Array DictEntry) (ep:Nat):Prop:=∃o,h.get? d=some o/\o.ExactDict/\o.data=.dict es ep
theorem IsD.at {h h':Heap}{d:Addr}{es:Array DictEntry}{ep:Nat} (x:IsD h d es ep) (k:∀o,h.get? d=some o->h'.get? d=some o):IsD h' d es ep:=let ⟨o,ho,r⟩:=x; ⟨o,k o ho,r⟩
theorem IsD.lt {h:Heap}{d:Addr}{es:Array DictEntry}{ep:Nat} (x:IsD h d es ep):d<h.objs.size:=let ⟨_,ho,_⟩:=x; Heap.lt_size ho
section
variable {prog:Program}{w:World}{A:Around}{E:Value->Shared->Prop}{s:Shared}{it d:Addr}{i ep:Nat}{es:Array DictEntry}
theorem IsD.typeIs (x:IsD s.heap d es ep):s.TypeIs (.ref d) "dict":=let ⟨o,ho,r⟩:=x; ⟨o,ho,r.1.1⟩
theorem iter {Q:Value->Shared->Prop} (hd:(d == sysModules)=false) (hm:IsD s.heap d es ep)
  (hQ:Q (.ref s.heap.objs.size) { s with heap:=s.heap.push { cls:=.type "dict_keyiterator",data:=.fields #[.ref d,.int 0 0,.int es.size 0,.int ep 0] } }):wpAny (model prog w) A (pyIter (.ref d)) Q E s:=by
 have hT:=hm.typeIs;obtain⟨o,ho,hc,hdat⟩:=id hm;refine wpAny_pyIter_slot hT PySem.F.slot_dict_iter (wpAny_call_entry PySem.F.slot_dict_iter hT PySem.F.entry_dict_iter ?_ (PySem.F.args_dict_iter_1 _));unfold Builtin.«dict.__iter__»;refine wpAny_bind ?_;unfold Builtin.Dict.dictSlotNone;refine wpAny_bind (wpAny_notOrdered_dict hT ?_);show wpAny _ _ (pure (Value.ref d)) _ _ s;refine wpAny_pure ?_;show wpAny _ _ (Builtin.Dict.showsAll d >>= _) _ _ s;unfold Builtin.Dict.showsAll;rw[if_neg (by rw[hd]; exact Bool.false_ne_true)];refine wpAny_bind (wpAny_pure ?_);refine wpAny_bind (wpAny_dictEntries ho hdat ?_);refine wpAny_bind (wpAny_dictEpoch ho hdat ?_);refine wpAny_bind (wpAny_newObj_type (wpAny_pure ⟨_,rfl,"dict_keyiterator",_,⟨_,Heap.get?_push_size _ rfl,rfl⟩,PySem.F.slot_dict_keyiterator_next.lookup,?_⟩))
 simpa[rawInt] using hQ
theorem item {Q:Option Value->Shared->Prop} (hit:s.heap.IsKeyIter it d i es.size ep) (hm:IsD s.heap d es ep) (hx:i<es.size)
  (hQ:∀h',h'.IsKeyIter it d (i+1) es.size ep->Heap.SameBut it s.heap h'->Q (some es[i].key) { s with heap:=h' }):wpAny (model prog w) A (pyNext (.ref it)) Q E s:=by
 obtain⟨o,ho,hc,hd⟩:=id hit;obtain⟨od,hod,hcd,hdd⟩:=id hm;unfold pyNext;refine wpAny_bind (wpAny_attempt (wpAny_callSpecial?_slot (name:=Str.ofString "__next__") hit.typeIs PySem.F.slot_dict_keyiterator_next
  (wpAny_call_entry PySem.F.slot_dict_keyiterator_next hit.typeIs PySem.F.entry_dict_keyiterator_next ?_ (PySem.F.args_dict_keyiterator_next_1 _))))
 refine wpAny_bind (wpAny_pure ?_);refine wpAny_bind ?_;refine wpAny_bind ?_
 first | refine wpAny_bind (wpAny_typeNameOfWhole_keyiter hit.typeIs (wpAny_pure ?_)) | refine wpAny_bind (wpAny_typeNameOf_keyiter hit.typeIs (wpAny_pure ?_))
 refine wpAny_bind (wpAny_fieldsOf ho hd ?_);have hown:Builtin.Dict_items.ownsTuple "dict_keyiterator"=false:=by decide
 simp only[hown,Bool.false_eq_true,if_false];show wpAny _ _ (if (Value.ref d == Value.none)=true then _ else _) _ _ s;rw[if_neg (show ¬ ((Value.ref d == Value.none)=true) from Bool.false_ne_true)];refine wpAny_bind (wpAny_pure ?_);refine wpAny_bind (wpAny_dictEntries hod hdd ?_);rw[if_neg (by simp)];refine wpAny_bind (wpAny_pure ?_);refine wpAny_bind (wpAny_dictEpoch hod hdd ?_);rw[if_neg (by simp)];refine wpAny_pure ?_;simp only[show ¬ ((i:Int)<0) from by omega,if_false,Int.toNat_natCast,Array.getElem?_eq_getElem hx];refine wpAny_bind ?_
 first | refine wpAny_bind (wpAny_typeNameOfWhole_keyiter hit.typeIs (wpAny_pure ?_)) | refine wpAny_bind (wpAny_typeNameOf_keyiter hit.typeIs (wpAny_pure ?_))
 refine wpAny_bind (wpAny_isOneOf_keyiter hit.typeIs ?_);show wpAny _ _ (setField (.ref it) 1 (rawInt ((i:Int)+1)) >>= _) _ _ s;refine wpAny_bind (wpAny_setField ho hd (by simp) ?_);have hit':(s.heap.update it (Obj.mapFields (·.setIfInBounds 1 (rawInt ((i:Int)+1))))).IsKeyIter it d (i+1) es.size ep:=
  ⟨_,Heap.get?_update_self _ ho (Obj.isFreed_of_fields (Obj.data_mapFields hd _)),(Obj.cls_mapFields ..).trans hc,by rw[Obj.data_mapFields hd]; simp[rawInt]⟩
 refine wpAny_bind (wpAny_holding ?_);refine wpAny_bind (wpAny_isOneOf_keyiter (s:={ s with heap:=s.heap.update it (Obj.mapFields (·.setIfInBounds 1 (rawInt ((i:Int)+1)))) }) hit'.typeIs ?_);show wpAny _ _ (pure es[i].key) _ _ _;exact wpAny_pure (wpAny_pure ⟨_,rfl,wpAny_pure (hQ _ hit' (Heap.SameBut.update ..))⟩)
theorem done {Q:Option Value->Shared->Prop} (hh:A.handled=none) (hit:s.heap.IsKeyIter it d es.size es.size ep) (hm:IsD s.heap d es ep)
  (hQ:∀h',Heap.ExtBut it s.heap h'->Q none { s with heap:=h' }):wpAny (model prog w) A (pyNext (.ref it)) Q E s:=by
 obtain⟨o,ho,hc,hd⟩:=id hit;obtain⟨od,hod,hcd,hdd⟩:=id hm;unfold pyNext;refine wpAny_bind (wpAny_attempt (wpAny_callSpecial?_slot (name:=Str.ofString "__next__") hit.typeIs PySem.F.slot_dict_keyiterator_next
  (wpAny_call_entry PySem.F.slot_dict_keyiterator_next hit.typeIs PySem.F.entry_dict_keyiterator_next ?_ (PySem.F.args_dict_keyiterator_next_1 _))))
 refine wpAny_bind (wpAny_pure ?_);refine wpAny_bind ?_;refine wpAny_bind ?_
 first | refine wpAny_bind (wpAny_typeNameOfWhole_keyiter hit.typeIs (wpAny_pure ?_)) | refine wpAny_bind (wpAny_typeNameOf_keyiter hit.typeIs (wpAny_pure ?_))
 refine wpAny_bind (wpAny_fieldsOf ho hd ?_);have hown:Builtin.Dict_items.ownsTuple "dict_keyiterator"=false:=by decide
 simp only[hown,Bool.false_eq_true,if_false];show wpAny _ _ (if (Value.ref d == Value.none)=true then _ else _) _ _ s;rw[if_neg (show ¬ ((Value.ref d == Value.none)=true) from Bool.false_ne_true)];refine wpAny_bind (wpAny_pure ?_);refine wpAny_bind (wpAny_dictEntries hod hdd ?_);rw[if_neg (by simp)];refine wpAny_bind (wpAny_pure ?_);refine wpAny_bind (wpAny_dictEpoch hod hdd ?_);rw[if_neg (by simp)];refine wpAny_pure ?_;simp only[show ¬ ((es.size:Int)<0) from by omega,if_false,Int.toNat_natCast,Array.getElem?_eq_none (Nat.le_refl es.size)];refine wpAny_bind ?_
 first | refine wpAny_bind (wpAny_typeNameOfWhole_keyiter hit.typeIs (wpAny_pure ?_)) | refine wpAny_bind (wpAny_typeNameOf_keyiter hit.typeIs (wpAny_pure ?_))
 show wpAny _ _ (setField (.ref it) 0 .none >>= _) _ _ s;refine wpAny_bind (wpAny_setField ho hd (by simp) ?_);show wpAny _ _ (newExc (.type "StopIteration") [] >>= _) _ _ _;refine wpAny_bind ?_;simp only[newExc,newTuple];refine wpAny_bind (wpAny_newObj_type ?_ (by size_fits));refine wpAny_bind (m:=firstArgMember _ _) (wpAny_of_eq (a:=Value.none) (by first | rfl | (simp only[firstArgMember]; rfl)) ?_);refine wpAny_newObj_type ?_ (by size_fits);simp only[raiseNew];refine wpAny_bind (wpAny_handled ?_);rw[show A.in1.handled=none from hh];refine wpAny_bind (wpAny_pure (wpAny_throw ?_));refine wpAny_bind (wpAny_isInstance (T:="StopIteration") (b:=true) ⟨_,Heap.get?_push_size _ rfl,rfl⟩ isSubtype_stop ?_);exact wpAny_pure (hQ _ (((Heap.SameBut.update ..).extBut.push _).push _))
theorem walks (hh:A.handled=none) (I d:Addr) (hne:d≠I) (es:Array DictEntry) (ep:Nat) :
  Walks prog w A I [I,d] [I] es.size (fun i v=>∃e,es[i]?=some e/\v=e.key) (fun i h=>h.IsKeyIter I d i es.size ep/\IsD h d es ep) where
 sub:=fun b hb=>by simp at hb ⊢; exact .inl hb
 frame:=fun i h h' st k=>⟨let ⟨o,ho,r⟩:=st.1; ⟨o,k I (by simp) o ho,r⟩,st.2.at fun o e=>k d (by simp) o e⟩
 item:=fun i s Q E hi st hQ=>item st.1 st.2 hi fun h' st' sb=>hQ _ h' s.toks ⟨es[i],by simp[hi],rfl⟩ ⟨st',st.2.at fun o e=>(sb.2 d hne).trans e⟩ fun b o hb e=>(sb.2 b (fun z=>hb (by simp[z]))).trans e
 done:=fun s Q E st hQ=>done hh st.1 st.2 fun h' eb=>hQ h' s.toks fun b o hb e=>eb b o (fun z=>hb (by simp[z])) e
 self:=fun i s Q E st hQ=>wpAny_pyIter_keyiter st.1 hQ
theorem src (lo:(d == sysModules)=false):PySem.W.KdlSrc prog w "dict" d d es.size (fun i v=>∃e,es[i]?=some e/\v=e.key) (fun h=>IsD h d es ep) where
 type:=fun _ hm=>hm.typeIs
 there:=fun _ hm=>⟨hm.lt,hm.lt⟩
 keep:=fun _ _ hm hk=>hm.at fun o e=>hk d (.inl rfl) o e
 notList:=by decide
 notTuple:=by decide
 hint:=fun _ _ _ _ hm hq=>PySem.W.kdl_hint_dict hm.typeIs hq
 iter:=fun _ s hh hm=>⟨_,_,(fun _ _ hq=>iter lo hm hq),walks hh _ d (Nat.ne_of_lt hm.lt) es ep,⟨⟨_,Heap.get?_push_size _ rfl,rfl,rfl⟩,hm.at fun o e=>Heap.get?_push_of_some _ e⟩⟩
end
end Dk
namespace L2
open PySem PySem.Spec PyProof.Rows
section
variable {X:Cx}
theorem zkx {P:Program}{w:World}{k:Key}{u:Value} (h:(zv P w).is k u=true):RelV (kV k) u:=by
 rcases keyIs_shape h with ⟨i,t,rfl,rfl⟩ | ⟨x,t,rfl,rfl⟩
 ·exact⟨t,rfl⟩
 ·exact⟨t,rfl⟩
theorem zbL (hc:X.calm=true):zbl X (.type "list") (fun xs H Q=>∃a kvs,xs=[.ref a]/\H a=some (.dT kvs)/\
  ∀(bs:List Addr),Paired (fun (p:List Key×V) b=>H b=some (.tup (p.1.map kV))) kvs bs->∀l,H l=none->Q (.ref l) (upd H l (.lst (bs.map V.ref)))):=by
 intro pins s σ H xs us Q I r h;obtain⟨a,kvs,rfl,hq,q⟩:=h;obtain⟨u,rfl,ru⟩:=vals1 r;cases ru;obtain⟨z,y,ys,rel,o,es,ep,h1,h2,h3,h4,h5⟩:=(show zO X.prog X.w H s.heap a (.dT kvs) from I.hok a _ hq);have hl:es.size=kvs.length:=by
  have:=congrArg List.length h4;rw[List.length_map,<- Paired.length rel] at this
  simpa using this
 refine PySem.W.kdl_call (Dk.src (ep:=ep) (es:=es) y) (I.ok.hd hc) ⟨o,h1,h2,h3⟩ (by rw[hl]; exact z) fun h' tk acc c' kk e it=>?_;obtain⟨n1,n2⟩:=it;have pb:Paired (fun (p:List Key×V) b=>H b=some (.tup (p.1.map kV))) kvs (ys.map (·.2.1)):=by
  have:∀{l:List (List Key×V)} {m:List (List Key×Addr×Value)},KT H l m->Paired (fun (p:List Key×V) b=>H b=some (.tup (p.1.map kV))) l (m.map (·.2.1)):=by
   intro l m q
   induction q with
   | nil=>exact .nil
   | cons hq t ih=>exact .cons hq.2.1 ih
  exact this rel
 have ea:acc.toList=(ys.map (·.2.1)).map Value.ref:=by
  apply List.ext_getElem?;intro i;have hy:ys.length=acc.size:=by rw[n1,hl]; exact (Paired.length rel).symm
  by_cases hi:i<acc.size
  ·obtain⟨e',g1,g2⟩:=n2 i acc[i] (by simp[hi])
   have g3:es.toList[i]?=some e':=by simpa using g1
   rw[h4,List.getElem?_map] at g3;have g4:ys[i]?=some ys[i]:=by simp[hy,hi]
   rw[g4] at g3;simp only[Option.map_some,Option.some.injEq] at g3;simp only[List.getElem?_map,g4,Option.map_some,Array.getElem?_toList,Array.getElem?_eq_getElem hi];rw[g2,<- g3]
   rfl
  ·have g1:acc.toList.length<=i:=by simp; omega
   have g2:((ys.map (·.2.1)).map Value.ref).length<=i:=by simp[hy]; omega
   rw[List.getElem?_eq_none g1,List.getElem?_eq_none g2]
 have vv:Vals ((ys.map (·.2.1)).map V.ref) acc.toList:=by
  rw[ea];generalize ys.map (·.2.1)=bs
  induction bs with
  | nil=>exact .nil
  | cons b bs ih=>exact .cons rfl ih
 refine⟨.ref s.heap.objs.size,_,I.laid kk (Nat.le_refl _) (show zO X.prog X.w _ h' _ (.lst ((ys.map (·.2.1)).map V.ref)) from ⟨?_,acc.toList,c',vv,by simpa using e⟩),rfl,q _ pb _ (I.hok.fresh (Nat.le_refl _))⟩;simp only[List.length_map];rw[<- Paired.length rel];exact z
theorem zd4 (hc:X.calm=true):zbl X (.type "list") (fun xs H Q=>∃a kvs,xs=[.ref a]/\H a=some (.dK kvs)/\∀l,H l=none->Q (.ref l) (upd H l (.lst (kvs.map fun kv=>kV kv.1)))):=by
 intro pins s σ H xs us Q I r h;obtain⟨a,kvs,rfl,hq,q⟩:=h;obtain⟨u,rfl,ru⟩:=vals1 r;cases ru;obtain⟨z,y,vs,rel,dd⟩:=zlp I.hok hq;obtain⟨ep,dd⟩:=dd.dictAt;have hl:=rel.length;refine PySem.W.kdl_call (PySem.W.kdl_dict (knd:=zv X.prog X.w) (kvs:=vs) (ep:=ep) y) (I.ok.hd hc) dd (by rw[<- hl]; exact z) fun h' tk acc c' kk e it=>?_;obtain⟨n1,n2⟩:=it;have vv:Vals (kvs.map fun kv=>kV kv.1) acc.toList:=by
  have key:∀{l:List (Key×V)} {m:List (Key×Value)} {as:List Value},KV l m->as.length=m.length->(∀(i:Nat) v,as[i]?=some v->∃k x,m[i]?=some (k,x)/\(zv X.prog X.w).is k v=true)->Vals (l.map fun kv=>kV kv.1) as:=by
   intro l m as q
   induction q generalizing as with
   | nil=>intro h1 _; cases as with
    | nil=>exact .nil
    | cons _ _=>simp at h1
   | @cons p q' ps qs hq t ih=>
    intro h1 h2;cases as with
    | nil=>simp at h1
    | cons v as=>
     obtain⟨k,x,g1,g2⟩:=h2 0 v rfl;simp only[List.getElem?_cons_zero,Option.some.injEq] at g1;refine .cons ?_ (ih (by simpa using h1) fun i v e=>by simpa using h2 (i+1) v (by simpa using e));have:p.1=k:=by rw[hq.1,g1]
     show RelV (kV p.1) v;rw[this];exact zkx g2
  exact key rel (by simpa using n1) fun i v e=>n2 i v (by simpa using e)
 refine⟨.ref s.heap.objs.size,_,I.laid kk (Nat.le_refl _) (show zO X.prog X.w _ h' _ (.lst (kvs.map fun kv=>kV kv.1)) from ⟨?_,acc.toList,c',vv,by simpa using e⟩),rfl,q _ (I.hok.fresh (Nat.le_refl _))⟩
 simpa using z
end
end L2
end
section
namespace L2
open PySem PySem.Spec PyProof.Rows
def Tp (H:Hp) (a:Addr) (ps:List Int):Prop:=H a=some (.tup (ps.map V.int))
abbrev Tps (H:Hp) (as:List Addr) (pss:List (List Int)):Prop:=Paired (fun a ps=>Tp H a ps) as pss
theorem Same.tp {H H':Hp}{a:Addr}{ps:List Int} (e:Same H H') (h:Tp H a ps):Tp H' a ps:=e _ _ h
theorem Same.tps {H H':Hp}{as:List Addr}{pss:List (List Int)} (e:Same H H') (h:Tps H as pss):Tps H' as pss:=Paired.mapP h fun _ _ q=>e.tp q
theorem Same.new {H:Hp}{a:Addr}{o:HO} (h:H a=none):Same H (upd H a o):=fun b u e=>by rw[upd_ne (ne_of_none e h)]; exact e
theorem Same.then {H H1:Hp}{a:Addr}{o:HO} (e:Same H H1) (h:H a=none):Same H (upd H1 a o):=fun b u q=>by rw[upd_ne (ne_of_none q h)]; exact e b u q
theorem Tps.length {H:Hp}{as:List Addr}{pss:List (List Int)} (h:Tps H as pss):as.length=pss.length:=Paired.length h
theorem Tps.get {H:Hp}:∀{as:List Addr}{pss:List (List Int)}{i:Nat}{a:Addr},Tps H as pss->as[i]?=some a->∃ps,pss[i]?=some ps/\Tp H a ps
 | _,_,_,_,.nil,e=>by simp at e
 | _,_,0,_,.cons r _,e=>by simp at e; subst e; exact⟨_,rfl,r⟩
 | _,_,i+1,a,.cons _ t,e=>by
  obtain⟨u,h1,h2⟩:=Tps.get (i:=i) (a:=a) t (by simpa using e);exact⟨u,by simpa using h1,h2⟩
theorem Tps.snoc {H:Hp}{as:List Addr}{pss:List (List Int)}{a:Addr}{ps:List Int} (h:Tps H as pss) (q:Tp H a ps):Tps H (as++[a]) (pss++[ps]):=by
 induction h with
 | nil=>exact .cons q .nil
 | cons r t ih=>exact .cons r ih
theorem Tps.append {H:Hp}{as bs:List Addr}{pss qss:List (List Int)} (h:Tps H as pss) (q:Tps H bs qss):Tps H (as++bs) (pss++qss):=by
 induction h with
 | nil=>exact q
 | cons r t ih=>exact .cons r ih
theorem Tps.take {H:Hp}:∀{as:List Addr}{pss:List (List Int)} (n:Nat),Tps H as pss->Tps H (as.take n) (pss.take n)
 | _,_,0,_=>.nil
 | _,_,_+1,.nil=>.nil
 | _,_,n+1,.cons r t=>.cons r (Tps.take n t)
theorem Tps.drop {H:Hp}:∀{as:List Addr}{pss:List (List Int)} (n:Nat),Tps H as pss->Tps H (as.drop n) (pss.drop n)
 | _,_,0,r=>r
 | _,_,_+1,.nil=>.nil
 | _,_,n+1,.cons _ t=>Tps.drop n t
theorem vals_refs:∀{as:List Addr}{us:List Value},Vals (as.map V.ref) us->us=as.map Value.ref
 | [],_,.nil=>rfl
 | a::as,_,.cons r t=>by cases r; rw[vals_refs t]; rfl
theorem zeh {α:Type} (f:α->Addr):∀l:List α,Vals (l.map fun q=>V.ref (f q)) (l.map fun q=>Value.ref (f q))
 | []=>.nil
 | a::l=>.cons rfl (zeh f l)
section
variable {X:Cx}
theorem ze9 {prog:Program}{w:World}{h:Heap}{c:Addr}{cs:List Value}{qs:List Int} (hc:IsTup h c cs.toArray) (hi:IntsAre cs qs):IsTupleKey (zv prog w) h (qs.map Sum.inl) c:=by
 obtain⟨o,e,hcl,k,d⟩:=hc;refine⟨o,cs.toArray,k,e,hcl,d,?_⟩;have:∀{cs:List Value} {qs:List Int},IntsAre cs qs->ItemsAre (zv prog w) (qs.map Sum.inl) cs:=by
  intro cs qs hi
  induction hi with
  | nil=>exact .nil
  | cons n t h ih=>exact .cons (zbh prog w n t) ih
 simpa using this hi
theorem zgO {ps qs:List Int}:(ps.map Sum.inl:List Key)=qs.map Sum.inl ↔ ps=qs:=
 ⟨fun z=>(List.map_inj_right (f:=(Sum.inl:Int->Key)) (fun x y h=>Sum.inl.inj h)).mp z,fun z=>by rw[z]⟩
theorem zjy {pins:List (Addr×Obj)}{σ:St}{H:Hp}{s:Shared}{A:Around}{a b:Addr}{ps qs:List Int} (I:Inv X pins σ H s) (ha:Tp H a ps) (hb:Tp H b qs) (hu:A.units<cLine) :
  SeqAt.EqAt A s (.ref a) (.ref b) (decide (ps=qs)):=by
 intro prog w E Q h;obtain⟨its,r1,p1,_⟩:=I.tuple (SqT.of ha);obtain⟨its2,r2,p2,_⟩:=I.tuple (SqT.of hb);refine wpAny_eqBool_tuple (knd:=zv prog w) hu (ze9 p1 (intsAre_of r1)) (ze9 p2 (intsAre_of r2)) ?_;rw[show decide ((ps.map Sum.inl:List Key)=qs.map Sum.inl)=decide (ps=qs) from by simp only[zgO]];exact h
def zj9:R2:=fun x y H Q=>∃a b xs ys,x=.ref a/\y=.ref b/\H a=some (.tup xs)/\H b=some (.tup ys)/\xs.length+ys.length<=sizeLine/\∀p H',Same H H'->H' p=some (.tup (xs++ys))->Q (.ref p) H'
theorem zds:OpR X (binaryOp .Add) zj9:=by
 intro pins s σ H x y v u Q I rx ry h;obtain⟨a,b,xs,ys,rfl,rfl,ha,hb,hz,q⟩:=h;cases rx;cases ry;obtain⟨its,r1,p1,_⟩:=I.tuple (SqT.of ha);obtain⟨its2,r2,p2,_⟩:=I.tuple (SqT.of hb)
 by_cases hx:xs=[]
 ·subst hx
  have e1:=r1.nil_iff.mpr rfl;subst e1;obtain⟨⟨cls,dd,data,sl⟩,ho,hc,n,hd⟩:=id p1;obtain⟨⟨cls2,dd2,data2,sl2⟩,ho2,hc2,n2,hd2⟩:=id p2;simp only at hc hd hc2 hd2;subst hc hd hc2 hd2;exact concat_meets ⟨_,ho,rfl⟩ ⟨_,ho2,rfl⟩ noFill_tuple_add seq_tuple_add PySem.F.slot_tuple_add PySem.F.entry_tuple_add (PySem.F.args_tuple_add_2 _ _)
   (tuple_addW0 a b (List.toArray []) its2.toArray n n2 dd dd2 sl sl2 (by simp)) ⟨ho,ho2,.ref b,H,I,rfl,q b H (Same.refl H) (by simpa using hb)⟩
 ·refine HT.zki p1 p2 (fun z=>hx (r1.nil_iff.mp z)) (fun z=>⟨.ref a,H,I,rfl,q a H (Same.refl H) ?_⟩) (fun z=>?_) (by rw[<- r1.length,<- r2.length]; exact hz)
  ·rw[r2.nil_iff.mp z,List.append_nil]; exact ha
  ·have hf:=I.hok.fresh (Nat.le_refl s.heap.objs.size)
   refine⟨.ref s.heap.objs.size,_,I.laid (t':=s.toks) (o:=.tup (xs++ys)) (fun b ob q=>Heap.get?_push_of_some _ q) (Nat.le_refl _) ?_,rfl,q _ _ (Same.new hf) zd⟩;exact⟨by rw[List.length_append]; exact hz,_,r1.append r2,IsTup.new _ _⟩
def rInT (neg:Bool) (K:PySem.W.Frag):R2:=fun x y H Q=>∃a l ps as pss,x=.ref a/\y=.ref l/\Tp H a ps/\SqL K H l (as.map V.ref)/\Tps H as pss/\Q (.bl (if neg then !decide (ps∈pss) else decide (ps∈pss))) H
def eqH (H:Hp) (ps:List Int) (u:Value):Bool:=match u with
 | .ref b=>(match H b with | some (.tup xs)=>decide (xs=ps.map V.int) | _=>false)
 | _=>false
theorem ziK {ps qs:List Int}:(ps.map V.int:List V)=qs.map V.int ↔ ps=qs:=
 ⟨fun z=>(List.map_inj_right (f:=V.int) (fun x y h=>V.int.inj h)).mp z,fun z=>by rw[z]⟩
theorem ziT {H:Hp}{b:Addr}{ps qs:List Int} (h:Tp H b qs):eqH H ps (.ref b)=decide (qs=ps):=by
 show (match H b with | some (.tup xs)=>decide (xs=ps.map V.int) | _=>false)=_;rw[show H b=some (.tup (qs.map V.int)) from h];simp only[ziK]
theorem zg6 {H:Hp}{ps:List Int}{as:List Addr}{pss:List (List Int)} (h:Tps H as pss):(as.map Value.ref).any (eqH H ps)=decide (ps∈pss):=by
 induction h with
 | nil=>simp
 | @cons a qs as pss r t ih=>
  rw[List.map_cons,List.any_cons,ih,ziT r]
  by_cases e:qs=ps
  ·subst e; simp
  ·have:¬ ps=qs:=fun z=>e z.symm
   simp[e,this]
theorem zf3 {pins:List (Addr×Obj)}{σ:St}{H:Hp}{s:Shared}{A:Around}{a:Addr}{ps:List Int} (I:Inv X pins σ H s) (ha:Tp H a ps) (hu:A.units<cLine) :
  ∀{as:List Addr} {pss:List (List Int)},Tps H as pss->∀u∈as.map Value.ref,SeqAt.EqAt A s u (.ref a) (eqH H ps u):=by
 intro as pss h
 induction h with
 | nil=>intro u hu; simp at hu
 | @cons b qs as pss r t ih=>
  intro u hm;rw[List.map_cons] at hm;rcases List.mem_cons.mp hm with rfl | hm
  ·rw[ziT r]; exact zjy I r ha hu
  ·exact ih u hm
theorem zgx (hu:X.A.in1.units<cLine):OpR X (compareOp .NotIn) (rInT true X.K):=by
 intro pins s σ H x y v u Q I rx ry h;obtain⟨a,l,ps,as,pss,rfl,rfl,ha,hl,hp,q⟩:=h;cases rx;cases ry;obtain⟨its,r,pl,hz⟩:=I.list hl;obtain rfl:=vals_refs r;refine SeqAt.notIn_listAt (eqH H ps) pl.isList (fun w hw=>zf3 I ha hu hp w (by simpa using hw)) ⟨.bl _,H,I,rfl,?_⟩;rw[show (as.map Value.ref).toArray.any (eqH H ps)=(as.map Value.ref).any (eqH H ps) by simp,zg6 hp];exact q
theorem zaN {pins:List (Addr×Obj)}{σ:St}{H:Hp}{s:Shared}{a:Addr}{ps:List Int} (I:Inv X pins σ H s) (ha:Tp H a ps):Reads s.heap (.ref a) (.tuple (ps.map PyData.int)) []:=by
 obtain⟨its,r,p,_⟩:=I.tuple (SqT.of ha);obtain⟨o,ho,hc,n,hd⟩:=id p;exact .tuple ho hc hd ((PySem.W.ke_carried (intsAre_of r)).reads s.heap)
theorem zgQ {pins:List (Addr×Obj)}{σ:St}{H:Hp}{s:Shared} (I:Inv X pins σ H s):∀{as:List Addr}{pss:List (List Int)},Tps H as pss->ReadsAll s.heap (as.map Value.ref) (pss.map fun ps=>PyData.tuple (ps.map PyData.int)) []:=by
 intro as pss h
 induction h with
 | nil=>exact .nil
 | cons r t ih=>exact .cons (as:=[]) (bs:=[]) (zaN I r) ih
theorem zbV {pins:List (Addr×Obj)}{σ:St}{H:Hp}{s:Shared}{l:Addr}{as:List Addr}{pss:List (List Int)} (I:Inv X pins σ H s) (hl:SqL X.K H l (as.map V.ref)) (h:Tps H as pss) :
  Reads s.heap (.ref l) (.list (pss.map fun ps=>PyData.tuple (ps.map PyData.int))) [l]:=by
 obtain⟨its,r,p,_⟩:=I.list hl;obtain rfl:=vals_refs r;obtain⟨o,ho,hc,n,hd⟩:=p.isList;exact .list ho hc hd (by simpa using zgQ I h)
theorem zcn (ps:List Int):PyData.canLay0 (.tuple (ps.map PyData.int))=true:=by simp[PyData.canLay0,PySem.W.ke_canLayAll0]
theorem zfc (ps:List Int):PyData.depth (.tuple (ps.map PyData.int))=1:=by simp[PyData.depth,PySem.W.ke_depthAll]
theorem zbn (ps:List Int):SeqAt.shaped (.tuple (ps.map PyData.int))=true:=by
 simp[SeqAt.shaped,zcn,zfc]
theorem zd3:∀pss:List (List Int),PyData.canLayAll0 (pss.map fun ps=>PyData.tuple (ps.map PyData.int))=true
 | []=>rfl
 | ps::r=>by rw[List.map_cons,PyData.canLayAll0,zcn,zd3 r]; rfl
theorem zfv:∀pss:List (List Int),PyData.depthAll (pss.map fun ps=>PyData.tuple (ps.map PyData.int))<=1
 | []=>Nat.zero_le _
 | ps::r=>by rw[List.map_cons,PyData.depthAll,zfc]; exact Nat.max_le.mpr ⟨Nat.le_refl _,zfv r⟩
theorem zbu (pss:List (List Int)):SeqAt.shaped (.list (pss.map fun ps=>PyData.tuple (ps.map PyData.int)))=true:=by
 have:=zfv pss;have e:PyData.depth (.list (pss.map fun ps=>PyData.tuple (ps.map PyData.int)))<=64:=by rw[PyData.depth]; omega
 unfold SeqAt.shaped;rw[decide_eq_true e,PyData.canLay0,zd3]
 rfl
theorem zeG:∀pss qss:List (List Int),sameAll (pss.map fun ps=>PyData.tuple (ps.map PyData.int)) (qss.map fun ps=>PyData.tuple (ps.map PyData.int))=decide (pss=qss)
 | [],[]=>by simp[sameAll]
 | [],_::_=>by simp[sameAll]
 | _::_,[]=>by simp[sameAll]
 | a::r,b::t=>by
  simp only[List.map_cons,sameAll,same,PySem.W.ke_sameAll,zeG r t]
  by_cases h:a=b <;> by_cases h':r=t <;> simp[h,h']
theorem zeW (ps:List Int):(Shape.tuples .int).has (.tuple (ps.map PyData.int))=true:=by simp[Shape.has]
theorem zfh (pss:List (List Int)):(Shape.list (.tuples .int)).has (.list (pss.map fun ps=>PyData.tuple (ps.map PyData.int)))=true:=by simp[Shape.has]
def rEqT (neg:Bool) (K:PySem.W.Frag):R2:=fun x y H Q=>(∃a b ps qs,x=.ref a/\y=.ref b/\Tp H a ps/\Tp H b qs/\Q (.bl (if neg then !decide (ps=qs) else decide (ps=qs))) H) \/
 (∃l m as bs pss qss,x=.ref l/\y=.ref m/\SqL K H l (as.map V.ref)/\Tps H as pss/\SqL K H m (bs.map V.ref)/\Tps H bs qss/\Q (.bl (if neg then !decide (pss=qss) else decide (pss=qss))) H)
theorem zkZ (hu:X.A.units+64<cLine):OpR X (compareOp .Eq) (rEqT false X.K):=by
 intro pins s σ H x y v u Q I rx ry h;rcases h with ⟨a,b,ps,qs,rfl,rfl,ha,hb,q⟩ | ⟨l,m,as,bs,pss,qss,rfl,rfl,hl,hp,hm,hq,q⟩
 ·cases rx
  cases ry;refine eq_dataH_same (zaN I ha) (zaN I hb) (zbn _) (zbn _) hu (SeqAt.noMix_of_shape (.tuples .int) rfl _ _ (zeW _) (zeW _)) ?_;rw[show same (.tuple (ps.map PyData.int)) (.tuple (qs.map PyData.int))=decide (ps=qs) from by simp only[same]; exact PySem.W.ke_sameAll ps qs];exact⟨.bl _,H,I,rfl,q⟩
 ·cases rx
  cases ry;refine eq_dataH_same (zbV I hl hp) (zbV I hm hq) (zbu _) (zbu _) hu (SeqAt.noMix_of_shape (.list (.tuples .int)) rfl _ _ (zfh _) (zfh _)) ?_;rw[show same (.list (pss.map fun ps=>PyData.tuple (ps.map PyData.int))) (.list (qss.map fun ps=>PyData.tuple (ps.map PyData.int)))=decide (pss=qss) from by simp only[same]; exact zeG pss qss];exact⟨.bl _,H,I,rfl,q⟩
theorem zha (hu:X.A.units+64<cLine):OpR X (compareOp .NotEq) (rEqT true X.K):=by
 intro pins s σ H x y v u Q I rx ry h;rcases h with ⟨a,b,ps,qs,rfl,rfl,ha,hb,q⟩ | ⟨l,m,as,bs,pss,qss,rfl,rfl,hl,hp,hm,hq,q⟩
 ·cases rx
  cases ry;refine ne_dataH_same (zaN I ha) (zaN I hb) (zbn _) (zbn _) hu (SeqAt.noMix_of_shape (.tuples .int) rfl _ _ (zeW _) (zeW _)) ?_;rw[show same (.tuple (ps.map PyData.int)) (.tuple (qs.map PyData.int))=decide (ps=qs) from by simp only[same]; exact PySem.W.ke_sameAll ps qs];exact⟨.bl _,H,I,rfl,q⟩
 ·cases rx
  cases ry;refine ne_dataH_same (zbV I hl hp) (zbV I hm hq) (zbu _) (zbu _) hu (SeqAt.noMix_of_shape (.list (.tuples .int)) rfl _ _ (zfh _) (zfh _)) ?_;rw[show same (.list (pss.map fun ps=>PyData.tuple (ps.map PyData.int))) (.list (qss.map fun ps=>PyData.tuple (ps.map PyData.int)))=decide (pss=qss) from by simp only[same]; exact zeG pss qss];exact⟨.bl _,H,I,rfl,q⟩
def zjW:V->List V->Hp->VK->Prop:=fun x vs H Q=>∃l xs i y,x=.ref l/\vs=[.int i,y]/\H l=some (.lst xs)/\0<=i/\i<=xs.length/\xs.length<sizeLine/\Q .non (upd H l (.lst (xs.take i.toNat++y::xs.drop i.toNat)))
theorem zgj:MtM X "list.insert" zjW:=by
 intro pins s σ H x vs v us Q I rx rv h;obtain⟨l,xs,i,y,rfl,rfl,hH,h0,hi,hz,q⟩:=h;cases rx;obtain⟨u,u',rfl,ru,ru'⟩:=rv.two;obtain⟨t,rfl⟩:=ru;obtain⟨z,its,n,r,hl,e⟩:=I.lstM hH;have hzl:sizeLine<2 ^ 62:=by rw[sizeLine_eq]; decide
 have hf:Builtin.List.listFitsIndex i=true:=by
  unfold Builtin.List.listFitsIndex;simp only[Bool.and_eq_true,decide_eq_true_eq];constructor <;> omega
 refine call_meets F.slot_list_insert ⟨_,e,rfl⟩ F.entry_list_insert (F.args_list_insert_3 _ _ _) (PySem.AutoSeq1.list_insert_list_int_val_1 l its.toArray n i t u' (by simp[hf]) (by rw[List.size_toArray]; omega)) ⟨e,?_⟩;refine⟨.non,_,I.lset (its':=its.take i.toNat++u'::its.drop i.toNat) (t':=s.toks) hH e ?_ ((r.take _).append (.cons ru' (r.drop _))) ?_,rfl,q⟩
 ·have hk:(if i<0 then (i+(its.toArray.size:Int)).toNat else min i.toNat its.toArray.size)=i.toNat:=by
   rw[if_neg (by omega),List.size_toArray];omega
  dsimp only;rw[hk];simp;exact List.take_of_length_le (by rw[List.length_drop]; exact Nat.le_refl _)
 ·rw[List.length_append,List.length_cons,List.length_take,List.length_drop]
  omega
theorem zdd:zbl X (.type "int") (fun xs H Q=>∃x n,xs=[.str x]/\PySem.intText? x=some n/\x.length<=640/\Q (.int n) H):=by
 intro pins s σ H xs us Q I r h;obtain⟨x,n,rfl,hn,hl,q⟩:=h;obtain⟨u,rfl,t,rfl⟩:=vals1 r;exact PySem.W.KIN.call_text hn hl ⟨.int n,H,I.tok _,⟨_,rfl⟩,q⟩
end
end L2
end
section
namespace L2
open PySem PySem.Spec PyProof.Rows
section
variable {X:Cx}{pins:List (Addr×Obj)}{σ:St}{H:Hp}{s:Shared}
theorem zdV {A:Around} (h:A.units+64<cLine):A.in1.in1.units<cLine:=by show A.units+1+1<cLine; omega
theorem in1_units {A:Around} (h:A.units+64<cLine):A.in1.units<cLine:=by show A.units+1<cLine; omega
theorem zbQ:zbl X (.builtin "sorted") (fun xs H Q=>∃(l:Addr) (ns:List Int),xs=[.ref l]/\SqL X.K H l (ns.map V.int)/\ns.length<1000/\∀(D:Addr) (ms:List Int),ms.Perm ns->ms.Pairwise (·<=·)->H D=none->Q (.ref D) (upd H D (.lst (ms.map V.int)))):=by
 intro pins s σ H xs us Q I r h;obtain⟨l,ns,rfl,hq,h64,q⟩:=h;obtain⟨u,rfl,ru⟩:=vals1 r;cases ru;obtain⟨its,r1,p1,hz⟩:=I.list hq;have hi:IntsAre its ns:=intsAre_of r1;have hlen:=r1.length;rw[List.length_map] at hlen hz;refine Srt.zdK (ls:=ns.map fun n=>[n]) (good:=fun _=>True) p1.isList (Srt.zjS hi) (fun _ _=>trivial) (by omega) (by omega) fun out ho=>?_;obtain⟨ps,hp,ho,hs⟩:=ho;have all:∀p∈ps,∃n t,p.1=[n]/\p.2=Value.int n t:=fun p hp'=>by
  obtain⟨i,e⟩:=List.mem_iff_getElem?.mp (hp.mem_iff.mp hp');rw[Srt.zipget,List.getElem?_map] at e;cases e1:ns[i]? with
  | none=>rw[e1] at e; simp at e
  | some n=>
   obtain⟨t,e2⟩:=hi.get i n e1;rw[e1,e2] at e;simp only[Option.map_some,Option.bind_some,Option.some.injEq] at e;subst e;exact⟨n,t,rfl,rfl⟩
 have vv:∀ps:List (List Int×Value),(∀p∈ps,∃n t,p.1=[n]/\p.2=Value.int n t)->Vals ((ps.map fun p=>p.1.headD 0).map V.int) (ps.map (·.2)):=by
  intro ps
  induction ps with
  | nil=>intro _; exact .nil
  | cons p ps ih=>
   intro h;obtain⟨n,t,e1,e2⟩:=h p List.mem_cons_self;refine .cons ?_ (ih fun q hq=>h q (List.mem_cons_of_mem _ hq));show RelV (V.int (p.1.headD 0)) p.2;rw[e1,e2];exact⟨t,rfl⟩
 have pm:(ps.map fun p=>p.1.headD 0).Perm ns:=by
  have h1:=hp.map (fun p:List Int×Value=>p.1.headD 0);have e:((ns.map fun n=>[n]).zip its).map (fun p:List Int×Value=>p.1.headD 0)=ns:=by
   rw[show (fun p:List Int×Value=>p.1.headD 0)=(fun l:List Int=>l.headD 0) ∘ Prod.fst from rfl,<- List.map_map,List.map_fst_zip (by rw[List.length_map]; omega),List.map_map];exact List.map_id' ns
  rw[e] at h1;exact h1
 have pw:(ps.map fun p=>p.1.headD 0).Pairwise (·<=·):=by
  rw[List.pairwise_map];refine hs.imp_of_mem fun {p q} h1 h2 h3=>?_;obtain⟨n,t,e1,_⟩:=all p h1;obtain⟨m,t',e2,_⟩:=all q h2;rw[e1,e2,HT.zM] at h3;rw[e1,e2];show n<=m
  by_cases e:m=n
  ·omega
  ·rw[if_neg e] at h3
   have:=of_decide_eq_false h3;omega
 obtain⟨e,he⟩:=sortedAll_at s.heap its out;refine⟨.ref (s.heap.objs.size+1),_,I.laid (t':=s.toks) (fun _ _=>sortedAll_old) (Nat.le_succ _) (show zO X.prog X.w _ _ _ (.lst ((ps.map fun p=>p.1.headD 0).map V.int)) from ⟨?_,out.toList,e,?_,?_⟩),rfl,q _ _ pm pw (I.hok.fresh (Nat.le_succ _))⟩
 ·rw[List.length_map,pm.length_eq]; exact hz
 ·rw[ho]; exact vv ps all
 ·simpa using he
def PrAt (H:Hp) (p:Addr) (l:List Int):Prop:=∃n b ps,l=n::ps/\H p=some (.tup [.int n,.ref b])/\Tp H b ps
theorem zkV {p:Addr}{l:List Int} (I:Inv X pins σ H s) (h:PrAt H p l):Srt.IsPr s.heap (.ref p) l:=by
 obtain⟨n,b,ps,rfl,h1,h2⟩:=h;obtain⟨its,r1,p1,_⟩:=I.tuple (SqT.of (K:=X.K) h1);obtain⟨u,u',rfl,⟨t,rfl⟩,ru'⟩:=vals2 r1;cases ru';obtain⟨its2,r2,p2,_⟩:=I.tuple (SqT.of (K:=X.K) h2);exact⟨p,b,n,t,its2,ps,rfl,rfl,p1,p2,intsAre_of r2⟩
theorem zjJ {h h':Heap}{u:Value}{l:List Int} (k:∀b o,h.get? b=some o->h'.get? b=some o) (x:Srt.IsPr h u l):Srt.IsPr h' u l:=by
 obtain⟨a,b,n,t,its,ps,e1,e2,⟨o,ho,hc⟩,⟨o',ho',hc'⟩,i⟩:=x;exact⟨a,b,n,t,its,ps,e1,e2,⟨o,k _ _ ho,hc⟩,⟨o',k _ _ ho',hc'⟩,i⟩
theorem za0 {α β:Type}{R:α->β->Prop}{l:List α}{m:List β} (p:Paired R l m):∀(i:Nat) x y,l[i]?=some x->m[i]?=some y->R x y:=by
 induction p with
 | nil=>intro i x y h; simp at h
 | cons r t ih=>
  intro i x y h1 h2;cases i with
  | zero=>simp at h1 h2; subst h1 h2; exact r
  | succ i=>exact ih i x y (by simpa using h1) (by simpa using h2)
def addrOf:Value->Addr
 | .ref a=>a
 | _=>0
theorem zcq (hu:X.A.units+64<cLine):zbl X (.builtin "sorted") (fun xs H Q=>∃(l:Addr) (as:List Addr) (ls:List (List Int)),xs=[.ref l]/\SqL X.K H l (as.map V.ref)/\Paired (PrAt H) as ls/\ls.length<1000/\
  ∀(D:Addr) (qs:List (List Int×Addr)),qs.Perm (ls.zip as)->qs.Pairwise (fun a b=>HT.lexLt b.1 a.1=false)->H D=none->Q (.ref D) (upd H D (.lst (qs.map fun q=>V.ref q.2)))):=by
 intro pins s σ H xs us Q I r h;obtain⟨l,as,ls,rfl,hq,hp,h64,q⟩:=h;obtain⟨u,rfl,ru⟩:=vals1 r;cases ru;obtain⟨its,r1,p1,hz⟩:=I.list hq;have hlen:=r1.length;obtain rfl:=vals_refs r1;rw[List.length_map] at hlen hz;have hla:=Paired.length hp;have hpr:∀h:Heap,(∀b o,s.heap.get? b=some o->h.get? b=some o)->∀(i:Nat) u l,(as.map Value.ref)[i]?=some u->ls[i]?=some l->Srt.IsPr h u l:=fun h hk i u l h1 h2=>by
  rw[List.getElem?_map] at h1;cases e:as[i]? with
  | none=>rw[e] at h1; simp at h1
  | some a=>
   rw[e] at h1;obtain rfl:=Option.some.inj h1;exact zjJ hk (zkV I (za0 hp i a l e h2))
 refine Srt.zdK (ls:=ls) (good:=fun h=>∀b o,s.heap.get? b=some o->h.get? b=some o) p1.isList (Srt.zja (by rw[List.length_map]; exact hla) (zdV hu) ⟨s.heap,fun _ _ e=>e⟩ hpr) (fun h' hk=>hk) (by rw[List.length_map]; exact hz) (by rw[List.length_map]; omega) fun out ho=>?_;obtain⟨ps,hpm,ho,hs⟩:=ho;have all:∀p∈ps,p.2=Value.ref (addrOf p.2):=fun p hp'=>by
  have:=(List.of_mem_zip (hpm.mem_iff.mp hp':(p.1,p.2)∈ls.zip (as.map Value.ref))).2;obtain⟨a,_,e⟩:=List.mem_map.mp this;rw[<- e]; rfl
 have pm:(ps.map fun p=>(p.1,addrOf p.2)).Perm (ls.zip as):=by
  have h1:=hpm.map (fun p:List Int×Value=>(p.1,addrOf p.2));have e:(ls.zip (as.map Value.ref)).map (fun p:List Int×Value=>(p.1,addrOf p.2))=ls.zip as:=by
   rw[List.zip_map_right,List.map_map];exact (List.map_congr_left fun p _=>rfl).trans (List.map_id' _)
  rw[e] at h1;exact h1
 obtain⟨e,he⟩:=sortedAll_at s.heap (as.map Value.ref) out;have ex:out.toList=((ps.map fun p=>(p.1,addrOf p.2)).map fun q=>Value.ref q.2):=by
  rw[ho,List.map_map];exact List.map_congr_left fun p hp'=>all p hp'
 refine⟨.ref (s.heap.objs.size+1),_,I.laid (t':=s.toks) (fun _ _=>sortedAll_old) (Nat.le_succ _) (show zO X.prog X.w _ _ _ (.lst ((ps.map fun p=>(p.1,addrOf p.2)).map fun q=>V.ref q.2)) from ⟨?_,out.toList,e,?_,?_⟩),rfl,q _ _ pm ?_ (I.hok.fresh (Nat.le_succ _))⟩
 ·rw[List.length_map,pm.length_eq,List.length_zip]; omega
 ·rw[ex]
  exact zeh (fun q:List Int×Addr=>q.2) _
 ·simpa using he
 ·rw[List.pairwise_map]; exact hs
def zhV:Sp:=fun vs H Q _=>∃a ps,vs=[.ref a]/\Tp H a ps/\∀p,H p=none->Q (.ref p) (upd H p (.tup [.int ps.length,.ref a]))
theorem ziX {b:Addr} (h:FpOk X pins H b):∀c∈[b],FpOk X pins H c:=fun c hc=>by rw[List.mem_singleton.mp hc]; exact h
theorem zb1 {H':Hp}{b:Addr} (f:FpOk X pins H b) (hn:H' b=none):FpOk X pins H' b:=⟨hn,f.2⟩
theorem ziO {b:Addr} (I:Inv X pins σ H s) (f:FpOk X pins H b):b∉frs X.stack:=fun hb=>by
 rcases List.mem_cons.mp (I.stkSub b hb) with e | e
 ·exact f.2.1 e
 ·exact f.2.2.1 e
theorem zfU {k:Nat}{f l:Addr}{fd:FuncData}{as:List Addr}{pss:List (List Int)}{x:Str}{Q:Value->Shared->Prop} (F:FnOk X.prog X.w X.K X.mg X.base CX0 k f fd [x] zhV) (hr:Room (k+2) X.A) (hb:Binds X.K fd [x] [])
  (I:Inv X pins σ H s) (hl:SqL X.K H l (as.map V.ref)) (ht:Tps H as pss) (h64:pss.length<1000)
  (h:∀D H' (qs:List (List Int×Addr)) s',Inv X pins σ H' s'->Same H H'->H D=none->H' D=some (.lst (qs.map fun q=>V.ref q.2))->qs.Perm (pss.zip as)->
   qs.Pairwise (fun a b=>HT.lexLt ((b.1.length:Int)::b.1) ((a.1.length:Int)::a.1)=false)->Q (.ref D) s') :
  wpAny (model X.prog X.w) X.A (call (.builtin "sorted") [.ref l] [(Str.ofString "key",.ref f)]) Q X.xe s:=by
 have hu:X.A.units+64<cLine:=hr.units;obtain⟨its,r1,p1,hz⟩:=I.list hl;have hlen:=r1.length;obtain rfl:=vals_refs r1;have hla:=ht.length;rw[List.length_map] at hlen hz;have hzm:(as.map Value.ref).length<=sizeLine:=by rw[List.length_map]; exact hz
 generalize hvs:as.map Value.ref=vs at p1 hzm;have hvl:vs.length=as.length:=by rw[<- hvs,List.length_map]
 refine call_function_entry_kw kind_sorted plain_sorted entry_sorted (ksk_s1 _ _) ?_;unfold Builtin.«sorted»;refine wpAny_bind (m:=checkCount "sorted" 1 1 _) (wpAny_pure ?_);refine wpAny_bind (collect_list p1.isList ?_ hzm);refine wpAny_bind (wpAny_newList ?_ hzm);have hsz:((s.heap.push (seqObj "list" #[] 0)).update s.heap.objs.size (Obj.mapSeq (·++vs.toArray))).objs.size=s.heap.objs.size+1:=by
  rw[Heap.size_update,size_push']
 have hoL:(((s.heap.push (seqObj "list" #[] 0)).update s.heap.objs.size (Obj.mapSeq (·++vs.toArray))).push (seqObj "list" vs.toArray 0)).get? (s.heap.objs.size+1)=some (seqObj "list" vs.toArray 0):=by
  rw[<- hsz]; exact Heap.get?_push_size _ rfl
 have keep:∀b o,s.heap.get? b=some o->(((s.heap.push (seqObj "list" #[] 0)).update s.heap.objs.size (Obj.mapSeq (·++vs.toArray))).push (seqObj "list" vs.toArray 0)).get? b=some o:=fun b o q=>by
  have hlt:b<s.heap.objs.size:=Heap.lt_size q;rw[Heap.get?_push_ne _ _ _ (by rw[hsz]; exact Nat.ne_of_lt (Nat.lt_succ_of_lt hlt)),Heap.get?_update_ne _ _ _ _ (Nat.ne_of_lt hlt),Heap.get?_push_ne _ _ _ (Nat.ne_of_lt hlt)];exact q
 show wpAny _ _ _ _ _ { s with heap:=((s.heap.push (seqObj "list" #[] 0)).update s.heap.objs.size (Obj.mapSeq (·++vs.toArray))).push (seqObj "list" vs.toArray 0) };rw[hsz];generalize hA:((s.heap.push (seqObj "list" #[] 0)).update s.heap.objs.size (Obj.mapSeq (·++vs.toArray))).push (seqObj "list" vs.toArray 0)=hpA at hoL keep ⊢;have I1:Inv X pins σ H { s with heap:=hpA }:=I.kept (t':=s.toks) keep;have hfD:FpOk X pins H (s.heap.objs.size+1):=I.fpOk (Nat.le_succ _) (I.hok.fresh (Nat.le_succ _));generalize hD:s.heap.objs.size+1=D at hoL hfD ⊢;have hDlt:D<hpA.objs.size:=Heap.lt_size hoL;refine wpAny_bind (wpAny_holding (wpAny_call_entry_kw slot_list_sort ⟨_,hoL,rfl⟩ entry_list_sort ?body (ksk_l1 _ _)))
 case body=>
  show wpAny (model X.prog X.w) X.A.in1.in1 (Builtin.«list.sort» ⟨[.ref D],[(Str.ofString "key",.ref f)]⟩) _ _ _;rw[ksk_t1];unfold ksk_tree;refine wpAny_bind (listItems_at hoL rfl ?_);refine wpAny_bind (listUpdate_at hoL rfl ?_ (by rw[List.size_toArray]; exact hzm) (Nat.zero_le _));obtain⟨e1,ho1⟩:∃e1,(hpA.update D (Obj.mapSeq fun _=>(#[]:Array Value))).get? D=some (seqObj "list" #[] e1):=⟨_,get?_update_seq hoL fun _=>#[]⟩;refine wpAny_bind (seqEpoch_at ho1 rfl ?_);refine wpAny_bind (wpAny_newTuple ?_ (by show vs.length<=_; exact hzm));refine wpAny_bind (wpAny_newList ?_ (Nat.zero_le _));refine wpAny_holding ?_;have I2:Inv X pins σ H { s with heap:=hpA.update D (Obj.mapSeq fun _=>(#[]:Array Value)) }:=
   Inv.turneds (s:={ s with heap:=hpA }) (t':=s.toks) (ch:=[D]) I1 (ziX hfD) fun b o hb q=>by rw[Heap.get?_update_ne _ _ _ _ (fun z=>hb (by simp[z]))]; exact q
  have I3:Inv X pins σ H { s with heap:=((hpA.update D (Obj.mapSeq fun _=>(#[]:Array Value))).push (seqObj "tuple" vs.toArray 0)) }:=I2.kept (t':=s.toks) fun b u q=>Heap.get?_push_of_some _ q;have hfK:FpOk X pins H ((hpA.update D (Obj.mapSeq fun _=>(#[]:Array Value))).push (seqObj "tuple" vs.toArray 0)).objs.size:=I3.fpOk (Nat.le_refl _) (I3.hok.fresh (Nat.le_refl _));have hKD:((hpA.update D (Obj.mapSeq fun _=>(#[]:Array Value))).push (seqObj "tuple" vs.toArray 0)).objs.size≠D:=by
   rw[size_push',Heap.size_update]; omega
  have I4:Inv X pins σ H { s with heap:=(((hpA.update D (Obj.mapSeq fun _=>(#[]:Array Value))).push (seqObj "tuple" vs.toArray 0)).push (seqObj "list" #[] 0)) }:=I3.kept (t':=s.toks) fun b u q=>Heap.get?_push_of_some _ q;have hK4:(((hpA.update D (Obj.mapSeq fun _=>(#[]:Array Value))).push (seqObj "tuple" vs.toArray 0)).push (seqObj "list" #[] 0)).get? ((hpA.update D (Obj.mapSeq fun _=>(#[]:Array Value))).push (seqObj "tuple" vs.toArray 0)).objs.size=some (seqObj "list" #[] 0):=Heap.get?_push_size _ rfl;have hD4:(((hpA.update D (Obj.mapSeq fun _=>(#[]:Array Value))).push (seqObj "tuple" vs.toArray 0)).push (seqObj "list" #[] 0)).get? D=some (seqObj "list" #[] e1):=Heap.get?_push_of_some _ (Heap.get?_push_of_some _ ho1);show wpAny (model X.prog X.w) X.A.in1.in1 (ksk_rest D (.ref f) false vs.toArray e1 (.ref ((hpA.update D (Obj.mapSeq fun _=>(#[]:Array Value))).push (seqObj "tuple" vs.toArray 0)).objs.size)) _ _ { s with heap:=((hpA.update D (Obj.mapSeq fun _=>(#[]:Array Value))).push (seqObj "tuple" vs.toArray 0)).push (seqObj "list" #[] 0) };generalize ((hpA.update D (Obj.mapSeq fun _=>(#[]:Array Value))).push (seqObj "tuple" vs.toArray 0)).objs.size=kS at *;generalize ((hpA.update D (Obj.mapSeq fun _=>(#[]:Array Value))).push (seqObj "tuple" vs.toArray 0)).push (seqObj "list" #[] 0)=hp4 at *;unfold ksk_rest;refine wpAny_bind (wpAny_rule ?_)
  first
   | rw[List.forIn_toArray]
   | (rw[<- Array.forIn_toList]; simp only[List.toList_toArray])
  refine wpAny_bind (ksk_fold (fun i s'=>∃Hk kA e ks,Inv X pins σ Hk s'/\Same H Hk/\Hk D=none/\Hk kS=none/\s'.heap.get? kS=some (seqObj "list" kA e)/\s'.heap.get? D=some (seqObj "list" #[] e1)/\kA.toList=ks.map Value.ref/\ks.length=i/\
    ∀(j:Nat) p,ks[j]?=some p->∃a ps,as[j]?=some a/\pss[j]?=some ps/\Hk p=some (.tup [.int ps.length,.ref a])) vs 0 _
   ⟨H,#[],0,[],I4,Same.refl H,hfD.1,hfK.1,hK4,hD4,rfl,rfl,fun j p e=>by simp at e⟩ ?step ?done)
  case step=>
   rintro j v s' hv ⟨Hk,kA,e,ks,Ik,sk,hkD,hkK,nk,na,ekA,hj,hks⟩;simp only[Nat.zero_add] at hj ⊢;have hjl:j<as.length:=by rw[<- hvl]; exact (List.getElem?_eq_some_iff.mp hv).1
   have ea:as[j]?=some as[j]:=List.getElem?_eq_getElem hjl;obtain⟨ps,eps,hps⟩:=ht.get ea;have ev:v=.ref as[j]:=by
    rw[<- hvs,List.getElem?_map,ea] at hv;exact (Option.some.inj hv).symm
   subst ev;refine wpAny_bind (wpAny_attempt (wpAny_call (codeAny_mono (F.run X.A.in1.in1 X.stack s' Hk ⟨[.ref as[j]],[]⟩ [.ref as[j]] [.ref as[j]] (fun v H'=>∃p,v=.ref p/\Hk p=none/\H'=upd Hk p (.tup [.int ps.length,.ref as[j]])) E0
    (Room.in1 (Room.in1 hr)) Ik.env0.in1.in1 (hb s' [.ref as[j]] Ik.kIn rfl) (.cons rfl .nil) ⟨as[j],ps,rfl,sk.tp hps,fun p hp=>⟨p,rfl,hp,rfl⟩⟩) fun r s'' hq=>?_)))
   cases r with
   | error e=>exact False.elim hq
   | ok fl=>
    cases fl with
    | next=>exact False.elim hq
    | brk=>exact False.elim hq
    | cont=>exact False.elim hq
    | ret u=>
     obtain⟨v,H',os,bare,un,hok,ru,p,rfl,hp,rfl⟩:=hq;cases ru;have I5:Inv X pins σ (upd Hk p (.tup [.int ps.length,.ref as[j]])) s'':=Ik.call' os un hok bare (fun b z=>nomatch z);have fD:=zb1 hfD hkD;have fK:=zb1 hfK hkK;have na':=un.keep D _ na hkD (ziO Ik fD) (by simp);have nk':=un.keep kS _ nk hkK (ziO Ik fK) (by simp);have hD':=un.free D _ na hkD (by simp);have hK':=un.free kS _ nk hkK (by simp)
     try dsimp only
     have hkz:kA.size=j:=by rw[<- Array.length_toList,ekA,List.length_map,hj]
     obtain⟨c2,hc2⟩:∃c2,(s''.heap.update kS (Obj.mapSeq (·.push (.ref p)))).get? kS=some (seqObj "list" (kA.push (.ref p)) c2):=⟨_,get?_update_seq nk' (·.push (.ref p))⟩;have s1:=Heap.SameBut.update s''.heap kS (Obj.mapSeq (·.push (.ref p)));have fK':=zb1 hfK hK';have I6:Inv X pins σ (upd Hk p (.tup [.int ps.length,.ref as[j]])) { s'' with heap:=s''.heap.update kS (Obj.mapSeq (·.push (.ref p))) }:=
      I5.turneds (t':=s''.toks) (ch:=[kS]) (ziX fK') fun b o hb q=>(s1.2 b (fun z=>hb (by simp[z]))).trans q
     refine wpAny_bind (listUpdate_at nk' rfl ?_ (by omega) (Nat.le_trans (Nat.le_of_eq (Array.size_push ..)) (by omega)));refine wpAny_pure ⟨rfl,_,kA.push (.ref p),c2,ks++[p],I6,sk.then (by exact sk.free hp),hD',hK',hc2,(s1.2 D hKD.symm).trans na',by rw[Array.toList_push,ekA,List.map_append]; rfl,by rw[List.length_append,hj]; rfl,fun i p' e'=>?_⟩
     by_cases hi:i<ks.length
     ·rw[List.getElem?_append_left hi] at e'
      obtain⟨a,ps',x1,x2,x3⟩:=hks i p' e';exact⟨a,ps',x1,x2,by rw[upd_ne (ne_of_none x3 hp)]; exact x3⟩
     ·rw[List.getElem?_append_right (by omega)] at e'
      have h0:i - ks.length=0:=by
       rcases Nat.eq_zero_or_pos (i - ks.length) with z | z
       ·exact z
       ·rw[List.getElem?_eq_none (by simp only[List.length_cons,List.length_nil]; omega)] at e'; cases e'
      rw[h0] at e';obtain rfl:p=p':=by simpa using e'
      have hij:i=j:=by omega
      subst hij;exact⟨_,ps,ea,eps,zd⟩
  case done=>
   rintro s' ⟨Hk,kA,e,ks,Ik,sk,hkD,hkK,nk,na,ekA,hj,hks⟩;simp only[Nat.zero_add] at hj
   try dsimp only
   refine wpAny_bind (listItems_at nk rfl ?_);unfold ksk_end
   try dsimp only
   simp only[Bool.false_eq_true,if_false];have ekl:kA=(ks.map Value.ref).toArray:=by rw[<- ekA,Array.toArray_toList]
   subst ekl;have hpr:∀(i:Nat) u l,(ks.map Value.ref)[i]?=some u->(pss.map fun ps=>(ps.length:Int)::ps)[i]?=some l->Srt.IsPr s'.heap u l:=fun i u l h1 h2=>by
    rw[List.getElem?_map] at h1 h2;cases ek:ks[i]? with
    | none=>rw[ek] at h1; simp at h1
    | some p=>
     obtain⟨a,ps,x1,x2,x3⟩:=hks i p ek;rw[ek] at h1;rw[x2] at h2;obtain rfl:=Option.some.inj h1;obtain rfl:=Option.some.inj h2;obtain⟨ps',y1,y2⟩:=ht.get x1;rw[x2] at y1;obtain rfl:=Option.some.inj y1;exact zkV Ik ⟨_,a,ps,rfl,x3,sk.tp y2⟩
   refine Srt.zfd (us:=ks.map Value.ref) (vs:=vs) (ls:=pss.map fun ps=>(ps.length:Int)::ps) (good:=fun h=>h=s'.heap) (Srt.zja (by rw[List.length_map,List.length_map,hj,hvl]; exact hla) (zdV hu) ⟨_,rfl⟩ (by rintro h rfl; exact hpr)) (by rw[List.length_map,hj]) (by omega) rfl fun st' ho hst hf=>?_;refine Srt.zjr (ls:=pss.map fun ps=>(ps.length:Int)::ps) (vs:=vs) nk na hKD (by rw[List.size_toArray,List.length_map]; omega) ho hst hzm hf fun h' out c kk hDo hKo hOut hsz'=>⟨_,rfl,?_⟩;refine wpAny_pure ⟨_,rfl,?_⟩;obtain⟨ps,hpm,hout,hs⟩:=hOut;subst hvs;have I7:Inv X pins σ Hk { s' with heap:=h' }:=Ik.turneds (t':=s'.toks) (ch:=[kS,D]) (fun b hb=>by
     simp only[List.mem_cons,List.not_mem_nil,or_false] at hb;rcases hb with rfl | rfl
     ·exact zb1 hfK hkK
     ·exact zb1 hfD hkD) fun b o hb q=>kk b o (fun z=>hb (by simp[z])) (fun z=>hb (by simp[z])) q
   have all:∀p∈ps,∃a qs,p.2=Value.ref a/\p.1=((qs:List Int).length:Int)::qs:=fun p hp'=>by
    obtain⟨h1,h2⟩:=List.of_mem_zip (hpm.mem_iff.mp hp':(p.1,p.2)∈_);obtain⟨a,_,ea⟩:=List.mem_map.mp h2;obtain⟨qs,_,eq⟩:=List.mem_map.mp h1;exact⟨a,qs,ea.symm,eq.symm⟩
   have pm:(ps.map fun p=>(p.1.tail,addrOf p.2)).Perm (pss.zip as):=by
    have h1:=hpm.map (fun p:List Int×Value=>(p.1.tail,addrOf p.2));have e:((pss.map fun ps=>(ps.length:Int)::ps).zip (as.map Value.ref)).map (fun p:List Int×Value=>(p.1.tail,addrOf p.2))=pss.zip as:=by
     rw[List.zip_map,List.map_map];exact (List.map_congr_left fun p _=>rfl).trans (List.map_id' _)
    rw[e] at h1;exact h1
   have ex:out.toList=((ps.map fun p=>(p.1.tail,addrOf p.2)).map fun q=>Value.ref q.2):=by
    rw[hout,List.map_map];refine List.map_congr_left fun p hp'=>?_;obtain⟨a,qs,e1,_⟩:=all p hp';show p.2=Value.ref (addrOf p.2);rw[e1]; rfl
   have vv:Vals ((ps.map fun p=>(p.1.tail,addrOf p.2)).map fun q=>V.ref q.2) out.toList:=by
    rw[ex];exact zeh (fun q:List Int×Addr=>q.2) _
   obtain⟨f0,f1,f2,f3,f4,f5⟩:=hfD;have hDs:X.s₀.heap.objs.size<=D:=by rw[<- hD]; exact Nat.le_trans I.sz (Nat.le_succ _)
   have I8:Inv X pins σ (upd Hk D (.lst ((ps.map fun p=>(p.1.tail,addrOf p.2)).map fun q=>V.ref q.2))) { s' with heap:=h' }:=by
    refine I7.adopt hkD hDs f1 f4 f5 ⟨?_,out.toList,c,vv,?_⟩
    ·rw[List.length_map,pm.length_eq,List.length_zip]; omega
    ·simpa using hDo
   refine h D _ _ _ I8 (sk.then f0) f0 zd pm ?_;rw[List.pairwise_map];refine hs.imp_of_mem fun {p q} h1 h2 h3=>?_;obtain⟨_,qs,_,e1⟩:=all p h1;obtain⟨_,qs',_,e2⟩:=all q h2;rw[e1,e2] at h3;rw[e1,e2];exact h3
end
section
variable {X:Cx}{a:Expr}{ta:TA}{p p2 pos kpos:Pos}{k:Nat}{f:Addr}{fd:FuncData}{x y:Str}
def zk7 (K:PySem.W.Frag) (ta:TA):TE:=fun σ H Q=>ta σ H fun vs H1=>∃(l:Addr) (as:List Addr) (pss:List (List Int)),vs=[.ref l]/\SqL K H1 l (as.map V.ref)/\Tps H1 as pss/\pss.length<1000/\
 ∀D H2 (qs:List (List Int×Addr)),Same H1 H2->H1 D=none->H2 D=some (.lst (qs.map fun q=>V.ref q.2))->qs.Perm (pss.zip as)->qs.Pairwise (fun a b=>HT.lexLt ((b.1.length:Int)::b.1) ((a.1.length:Int)::a.1)=false)->Q (.ref D) H2
theorem zfI (F:FnOk X.prog X.w X.K X.mg X.base CX0 k f fd [x] zhV) (hr:Room (k+2) X.A) (hb:Binds X.K fd [x] []) (hg:Gl X "sorted") (hm:X.mg "sorted"=none) (hv:bootBuiltins "sorted"=some (.builtin "sorted")) (hgf:Gl X y) (hmf:X.mg y=some (.ref f)) (ha:PA X [a] ta)
  (hdb:(y == ("__debug__":Str))=false:=by decide) (he:starEach [a] X.env=[(false,eval a X.env)]:=by rfl) :
  PE X (.Call (.Name "sorted" p) [a] [⟨some "key",.Name y p2,kpos⟩] pos) (zk7 X.K ta):=by
 intro pins s σ H Q I h;refine wpAny_Call_Name_kw (zcD I hg hm hv ?_);refine callWith_kw ?_ (by rw[he]; rfl) (by rw[he]; rfl) rfl rfl;refine thn (ha pos pins s σ H _ I h) fun us s1 ⟨vs,H1,I1,r1,q1⟩=>?_;obtain⟨l,as,pss,rfl,hl,ht,h64,q⟩:=q1;obtain⟨u,rfl,ru⟩:=vals1 r1;cases ru;refine kws_cons (zep I1 hgf hmf (kws_nil ?_) hdb);show wpAny (model X.prog X.w) X.A (call (.builtin "sorted") [.ref l] [(Str.ofString "key",.ref f)]) _ _ s1;exact zfU F hr hb I1 hl ht h64 fun D H' qs s' I' sm hD hD' hp hs=>⟨.ref D,H',I',rfl,q D H' qs sm hD hD' hp hs⟩
end
end L2
end
section
namespace STb
open PySem PySem.SetTable
def Ris (xs:Array Nat):Prop:=∀(i j a b:Nat),xs[i]?=some a->xs[j]?=some b->i<j->a<b
theorem Ris.inj {xs:Array Nat} (h:Ris xs) {i j a:Nat} (h1:xs[i]?=some a) (h2:xs[j]?=some a):i=j:=by
 rcases Nat.lt_trichotomy i j with q | q | q
 ·exact absurd (h i j a a h1 h2 q) (Nat.lt_irrefl _)
 ·exact q
 ·exact absurd (h j i a a h2 h1 q) (Nat.lt_irrefl _)
theorem zeJ {xs:Array Nat}{j:Nat} (hr:Ris xs):∀(fuel lo hi:Nat),hi - lo<=fuel->lo<=hi->hi<=xs.size->(∀i a,xs[i]?=some a->i<lo->a<j)->(∀i a,xs[i]?=some a->hi<=i->j<=a)->
  below.go xs j fuel lo hi<=xs.size/\(∀i a,xs[i]?=some a->i<below.go xs j fuel lo hi->a<j)/\(∀i a,xs[i]?=some a->below.go xs j fuel lo hi<=i->j<=a)
 | 0,lo,hi,h0,h1,h2,h3,h4=>by
  have e:lo=hi:=by omega
  subst e;exact⟨h2,h3,h4⟩
 | fuel+1,lo,hi,h0,h1,h2,h3,h4=>by
  have eg0:below.go xs j (fuel+1) lo hi=if lo<hi then (if xs.getD ((lo+hi) / 2) j<j then below.go xs j fuel ((lo+hi) / 2+1) hi else below.go xs j fuel lo ((lo+hi) / 2)) else lo:=rfl;rw[eg0]
  by_cases hlt:lo<hi
  ·rw[if_pos hlt]
   have hm:(lo+hi) / 2<xs.size:=by omega
   have em:xs[(lo+hi) / 2]?=some xs[(lo+hi) / 2]:=getElem?_pos xs _ hm;have eg:xs.getD ((lo+hi) / 2) j=xs[(lo+hi) / 2]:=by simp[Array.getD,hm]
   rw[eg]
   by_cases hc:xs[(lo+hi) / 2]<j
   ·rw[if_pos hc]
    refine zeJ hr fuel _ _ (by omega) (by omega) h2 (fun i a e hi'=>?_) h4;rcases Nat.lt_or_eq_of_le (Nat.lt_succ_iff.mp hi') with q | q
    ·exact Nat.lt_trans (hr _ _ _ _ e em q) hc
    ·subst q; rw[em] at e; cases e; exact hc
   ·rw[if_neg hc]
    refine zeJ hr fuel _ _ (by omega) (by omega) (by omega) h3 (fun i a e hi'=>?_);rcases Nat.lt_or_eq_of_le hi' with q | q
    ·have:=hr _ _ _ _ em e q
     omega
    ·subst q; rw[em] at e; cases e; omega
  ·rw[if_neg hlt]
   have e:lo=hi:=by omega
   subst e;exact⟨h2,h3,h4⟩
theorem zbH {xs:Array Nat} (hr:Ris xs) (j:Nat):below xs j<=xs.size/\(∀i a,xs[i]?=some a->i<below xs j->a<j)/\(∀i a,xs[i]?=some a->below xs j<=i->j<=a):=
 zeJ hr xs.size 0 xs.size (by omega) (by omega) (Nat.le_refl _) (fun _ _ _ h=>absurd h (Nat.not_lt_zero _)) (fun i a e h=>by have:=(Array.getElem?_eq_some_iff.mp e).1; omega)
theorem below_at {xs:Array Nat} (hr:Ris xs) {i j:Nat} (e:xs[i]?=some j):below xs j=i:=by
 obtain⟨h1,h2,h3⟩:=zbH hr j;rcases Nat.lt_trichotomy (below xs j) i with q | q | q
 ·have hb:below xs j<xs.size:=Nat.lt_trans q (Array.getElem?_eq_some_iff.mp e).1
  have e2:=getElem?_pos xs (below xs j) hb;have a1:=h3 _ _ e2 (Nat.le_refl _);have a2:=hr _ _ _ _ e2 e q;omega
 ·exact q
 ·exact absurd (h2 i j e q) (Nat.lt_irrefl _)
theorem zad {α:Type} (xs:Array α) (p:Nat) (x:α) (hp:p<=xs.size) (i:Nat):(insertAt xs p x)[i]?=if i<p then xs[i]? else if i=p then some x else xs[i - 1]?:=by
 unfold insertAt;have hs:((xs.extract 0 p).push x).size=p+1:=by rw[Array.size_push,Array.size_extract]; omega
 by_cases h1:i<p
 ·rw[if_pos h1,Array.getElem?_append_left (by omega),Array.getElem?_push_lt (by rw[Array.size_extract]; omega)]
  simp[Array.getElem_extract,h1]
 ·rw[if_neg h1]
  by_cases h2:i=p
  ·subst h2
   rw[if_pos rfl,Array.getElem?_append_left (by omega)];have e:(xs.extract 0 i).size=i:=by rw[Array.size_extract]; omega
   have:=Array.getElem?_push_size (xs:=xs.extract 0 i) (x:=x);rw[e] at this;exact this
  ·rw[if_neg h2,Array.getElem?_append_right (by omega),hs,Array.getElem?_extract]
   by_cases h3:i - (p+1)<xs.size - p
   ·rw[if_pos (by omega)]
    congr 1
    omega
   ·rw[if_neg (by omega)]
    exact (Array.getElem?_eq_none (by omega)).symm
theorem zbX {α:Type} (xs:Array α) (p:Nat) (x:α) (hp:p<=xs.size):(insertAt xs p x).size=xs.size+1:=by
 unfold insertAt;rw[Array.size_append,Array.size_push,Array.size_extract,Array.size_extract];omega
theorem zjp {xs:Array Nat} (hr:Ris xs) {j:Nat} (hn:∀i:Nat,xs[i]?≠some j):Ris (insertAt xs (below xs j) j):=by
 obtain⟨h1,h2,h3⟩:=zbH hr j;intro a b x y ea eb hab;rw[zad _ _ _ h1] at ea eb
 by_cases a1:a<below xs j
 ·rw[if_pos a1] at ea
  by_cases b1:b<below xs j
  ·rw[if_pos b1] at eb; exact hr _ _ _ _ ea eb hab
  ·rw[if_neg b1] at eb
   by_cases b2:b=below xs j
   ·rw[if_pos b2] at eb; cases eb; exact h2 _ _ ea a1
   ·rw[if_neg b2] at eb; exact hr _ _ _ _ ea eb (by omega)
 ·rw[if_neg a1] at ea
  rw[if_neg (by omega)] at eb
  by_cases a2:a=below xs j
  ·rw[if_pos a2] at ea; cases ea
   rw[if_neg (by omega)] at eb;have:=h3 _ _ eb (by omega);rcases Nat.lt_or_eq_of_le this with q | q
   ·exact q
   ·subst q; exact absurd eb (hn _)
  ·rw[if_neg a2] at ea
   rw[if_neg (by omega)] at eb;exact hr _ _ _ _ ea eb (by omega)
def nxt (mask:Nat) (p:Probe):Probe:=
 if p.more > 0 then { p with j:=p.j+1,more:=p.more - 1 } else
 { p with j:=(leap mask p.i p.perturb).1,more:=runEnd mask (leap mask p.i p.perturb).1 - (leap mask p.i p.perturb).1,i:=(leap mask p.i p.perturb).1,perturb:=(leap mask p.i p.perturb).2 }
def first (mask:Nat) (h:Int):Probe:={ j:=bits h % (mask+1),more:=runEnd mask (bits h % (mask+1)) - bits h % (mask+1),i:=bits h % (mask+1),perturb:=bits h,dummy:=none }
def pr (mask:Nat) (h:Int):Nat->Probe
 | 0=>first mask h
 | n+1=>nxt mask (pr mask h n)
def pos (mask:Nat) (h:Int) (n:Nat):Nat:=(pr mask h n).j
theorem zfm (mask:Nat) (h:Int):∀n,(pr mask h n).dummy=none
 | 0=>rfl
 | n+1=>by
  show (nxt mask (pr mask h n)).dummy=none;unfold nxt;split <;> exact zfm mask h n
def lp (mask:Nat) (h:Int):Nat->Nat×Nat
 | 0=>(bits h % (mask+1),bits h)
 | r+1=>leap mask (lp mask h r).1 (lp mask h r).2
theorem zly (mask i:Nat):runEnd mask i - i<=9:=by unfold runEnd; split <;> omega
theorem zbW (mask:Nat) (h:Int) {n r:Nat} (e:pr mask h n={ j:=(lp mask h r).1,more:=runEnd mask (lp mask h r).1 - (lp mask h r).1,i:=(lp mask h r).1,perturb:=(lp mask h r).2,dummy:=none }) :
  ∀k,k<=runEnd mask (lp mask h r).1 - (lp mask h r).1->pr mask h (n+k)={ j:=(lp mask h r).1+k,more:=runEnd mask (lp mask h r).1 - (lp mask h r).1 - k,i:=(lp mask h r).1,perturb:=(lp mask h r).2,dummy:=none }
 | 0,_=>e
 | k+1,hk=>by
  have ih:=zbW mask h e k (by omega);show nxt mask (pr mask h (n+k))=_;rw[ih];unfold nxt;rw[if_pos (by show runEnd mask (lp mask h r).1 - (lp mask h r).1 - k > 0; omega)]
  congr 1
theorem zi9 (mask:Nat) (h:Int):∀r,∃n,n<=10*r/\pr mask h n={ j:=(lp mask h r).1,more:=runEnd mask (lp mask h r).1 - (lp mask h r).1,i:=(lp mask h r).1,perturb:=(lp mask h r).2,dummy:=none }
 | 0=>⟨0,Nat.le_refl _,rfl⟩
 | r+1=>by
  obtain⟨n,hn,e⟩:=zi9 mask h r;have hl:=zly mask (lp mask h r).1;refine⟨n+(runEnd mask (lp mask h r).1 - (lp mask h r).1)+1,by omega,?_⟩;show nxt mask (pr mask h (n+(runEnd mask (lp mask h r).1 - (lp mask h r).1)))=_;rw[zbW mask h e _ (Nat.le_refl _)];unfold nxt;rw[if_neg (by show ¬ (runEnd mask (lp mask h r).1 - (lp mask h r).1 - (runEnd mask (lp mask h r).1 - (lp mask h r).1) > 0); omega)]
  rfl
theorem zj0 (h:Int):bits h<2 ^ 64:=by
 unfold bits;have h1:(0:Int)<=h % (2 ^ 64:Int):=Int.emod_nonneg _ (by decide);have h2:h % (2 ^ 64:Int)<2 ^ 64:=Int.emod_lt_of_pos _ (by decide);omega
theorem zjc (mask:Nat) (h:Int):∀r,(lp mask h r).2=bits h / 32 ^ r
 | 0=>by simp[lp]
 | r+1=>by
  show (lp mask h r).2 / 32=_;rw[zjc mask h r,Nat.div_div_eq_div_mul,Nat.pow_succ]
theorem zk8 (mask:Nat) (h:Int) {r:Nat} (hr:13<=r):(lp mask h r).2=0:=by
 rw[zjc];have h1:=zj0 h;have h2:32 ^ 13<=32 ^ r:=Nat.pow_le_pow_right (by decide) hr;exact Nat.div_eq_of_lt (Nat.lt_of_lt_of_le h1 (Nat.le_trans (by decide) h2))
theorem zla (mask:Nat) (h:Int):∀r,(lp mask h r).1<=mask
 | 0=>Nat.lt_succ_iff.mp (Nat.mod_lt _ (Nat.succ_pos _))
 | r+1=>Nat.lt_succ_iff.mp (Nat.mod_lt _ (Nat.succ_pos _))
def f5 (mask x:Nat):Nat:=(x*5+1) % (mask+1)
def it5 (mask:Nat):Nat->Nat->Nat
 | 0,x=>x
 | k+1,x=>f5 mask (it5 mask k x)
theorem zkm (mask:Nat) (h:Int):∀k,(lp mask h (13+k)).1=it5 mask k (lp mask h 13).1
 | 0=>rfl
 | k+1=>by
  show ((lp mask h (13+k)).1*5+1+(lp mask h (13+k)).2 / 32) % (mask+1)=f5 mask (it5 mask k (lp mask h 13).1);rw[zk8 mask h (by omega),zkm mask h k]
  rfl
def Cov (mask:Nat):Prop:=∀i s,i<=mask->s<=mask->∃k,k<=mask/\it5 mask k i=s
def orb (mask:Nat):Nat->Nat->List Nat
 | 0,_=>[]
 | n+1,x=>x::orb mask n (f5 mask x)
theorem zg2 (mask:Nat):∀(n x k:Nat),k<n->(orb mask n x)[k]?=some (it5 mask k x)
 | 0,_,_,h=>absurd h (Nat.not_lt_zero _)
 | n+1,x,0,_=>rfl
 | n+1,x,k+1,h=>by
  have ih:=zg2 mask n (f5 mask x) k (by omega);show (orb mask n (f5 mask x))[k]?=_;rw[ih]
  congr 1
  have sh:∀k x,it5 mask k (f5 mask x)=f5 mask (it5 mask k x):=by
   intro k
   induction k with
   | zero=>intro x; rfl
   | succ k ih=>intro x; show f5 mask (it5 mask k (f5 mask x))=_; rw[ih]; rfl
  exact sh k x
theorem zet (mask:Nat):∀n x,(orb mask n x).length=n
 | 0,_=>rfl
 | n+1,x=>by show (orb mask n (f5 mask x)).length+1=_; rw[zet mask n]
theorem zdi (mask:Nat):∀(a b x:Nat),it5 mask (a+b) x=it5 mask a (it5 mask b x)
 | 0,b,x=>by rw[Nat.zero_add]; rfl
 | a+1,b,x=>by
  rw[Nat.add_right_comm];show f5 mask (it5 mask (a+b) x)=_;rw[zdi mask a b x]
  rfl
theorem zdI {mask:Nat} (h:((List.range (mask+1)).all fun s=>(orb mask (mask+1) 0).contains s)=true) (hp:it5 mask (mask+1) 0=0):Cov mask:=by
 have all:∀s,s<=mask->∃k,k<=mask/\it5 mask k 0=s:=fun s hs=>by
  have h2:=List.all_eq_true.mp h s (List.mem_range.mpr (by omega));obtain⟨k,hk,e⟩:=List.mem_iff_getElem.mp (List.contains_iff_mem.mp h2);rw[zet] at hk;refine⟨k,by omega,?_⟩;have e2:=zg2 mask (mask+1) 0 k hk;rw[List.getElem?_eq_getElem (by rw[zet]; exact hk),e] at e2;exact (Option.some.inj e2).symm
 intro i s hi hs;obtain⟨a,ha,ea⟩:=all i hi;obtain⟨b,hb,eb⟩:=all s hs;rcases Nat.lt_or_ge b a with q | q
 ·refine⟨mask+1 - a+b,by omega,?_⟩
  rw[<- ea,<- zdi,show mask+1 - a+b+a=b+(mask+1) by omega,zdi,hp,eb]
 ·refine⟨b - a,by omega,?_⟩
  rw[<- ea,<- zdi,show b - a+a=b by omega,eb]
theorem cov7:Cov 7:=zdI (by decide +kernel) (by decide +kernel)
theorem cov31:Cov 31:=zdI (by decide +kernel) (by decide +kernel)
theorem cov63:Cov 63:=zdI (by decide +kernel) (by decide +kernel)
theorem cov255:Cov 255:=zdI (by decide +kernel) (by decide +kernel)
theorem cov127:Cov 127:=zdI (by decide +kernel) (by decide +kernel)
theorem reach {mask:Nat} (hc:Cov mask) (h:Int) {x:Nat} (hx:x<=mask):∃n,n<10*turns mask/\pos mask h n=x:=by
 obtain⟨k,hk,e⟩:=hc (lp mask h 13).1 x (zla mask h 13) hx;obtain⟨n,hn,e2⟩:=zi9 mask h (13+k);refine⟨n,by unfold turns; omega,?_⟩;show (pr mask h n).j=x;rw[e2];show (lp mask h (13+k)).1=x;rw[zkm,e]
theorem pos_le (mask:Nat) (h:Int) (n:Nat):pos mask h n<=mask:=by
 have key:∀n,(pr mask h n).i<=mask/\(pr mask h n).j+(pr mask h n).more<=mask:=by
  intro n;have er:∀i,i<=mask->i+(runEnd mask i - i)<=mask:=fun i hi=>by unfold runEnd; split <;> omega
  induction n with
  | zero=>
   have q:bits h % (mask+1)<=mask:=Nat.lt_succ_iff.mp (Nat.mod_lt _ (Nat.succ_pos _));exact⟨q,er _ q⟩
  | succ n ih=>
   show (nxt mask (pr mask h n)).i<=mask/\(nxt mask (pr mask h n)).j+(nxt mask (pr mask h n)).more<=mask;unfold nxt;split
   ·exact⟨ih.1,by show (pr mask h n).j+1+((pr mask h n).more - 1)<=mask; omega⟩
   ·have q:(leap mask (pr mask h n).i (pr mask h n).perturb).1<=mask:=Nat.lt_succ_iff.mp (Nat.mod_lt _ (Nat.succ_pos _))
    exact⟨q,er _ q⟩
 have:=(key n).2;unfold pos;omega
end STb
end
section
namespace STb
open PySem PySem.SetTable
structure Tb (t:SetTable) (hs:Array Int):Prop where
 ris:Ris t.place
 dum:t.dummies=#[]
 size:t.place.size=hs.size
 le:∀(i j:Nat),t.place[i]?=some j->j<=t.mask
 cov:Cov t.mask
 odd:t.mask % 2=1
 room:hs.size<=t.mask
 path:∀(k j:Nat) (h:Int),hs[k]?=some h->t.place[k]?=some j->∃n,pos t.mask h n=j/\∀m,m<n->∃k':Nat,t.place[k']?=some (pos t.mask h m)
def Occ (t:SetTable) (j:Nat):Prop:=∃i:Nat,t.place[i]?=some j
section
variable {t:SetTable}{hs:Array Int}
theorem zaH (T:Tb t hs) {i j:Nat} (e:t.place[i]?=some j):t.slot j=.live i:=by
 show (if (t.place[below t.place j]? == some j)=true then Slot.live (below t.place j) else _)=_;rw[below_at T.ris e,e,if_pos (by simp)]
theorem zfx (T:Tb t hs) {j:Nat} (e:¬ Occ t j):t.slot j=.empty:=by
 show (if (t.place[below t.place j]? == some j)=true then Slot.live (below t.place j) else if has t.dummies j=true then Slot.dummy else Slot.empty)=_;have h1:¬ (t.place[below t.place j]? == some j)=true:=by
  intro q;exact e ⟨_,eq_of_beq q⟩
 have h2:has t.dummies j=false:=by
  unfold has;rw[T.dum]
  rfl
 rw[if_neg h1,h2]
 rfl
theorem zfL (T:Tb t hs):∃x,x<=t.mask/\¬ Occ t x:=by
 apply Classical.byContradiction;intro hn;have all:∀x,x<=t.mask->Occ t x:=fun x hx=>Classical.byContradiction fun q=>hn ⟨x,hx,q⟩;have sub:List.range (t.mask+1) ⊆ t.place.toList:=fun x hx=>by
  obtain⟨i,e⟩:=all x (Nat.lt_succ_iff.mp (List.mem_range.mp hx));rw[<- Array.getElem?_toList] at e;exact List.mem_of_getElem? e
 have:=(List.nodup_range (n:=t.mask+1)).length_le_of_subset sub;rw[List.length_range,Array.length_toList,T.size] at this;have:=T.room;omega
theorem least {P:Nat->Prop} (n:Nat) (h:P n):∃m,m<=n/\P m/\∀k,k<m->¬ P k:=by
 induction n using Nat.strongRecOn with
 | ind n ih=>
  by_cases q:∃k,k<n/\P k
  ·obtain⟨k,hk,pk⟩:=q
   obtain⟨m,h1,h2,h3⟩:=ih k hk pk;exact⟨m,by omega,h2,h3⟩
  ·exact⟨n,Nat.le_refl _,h,fun k hk pk=>q ⟨k,hk,pk⟩⟩
theorem zfB (T:Tb t hs) (h:Int):∃ne,ne<10*turns t.mask/\¬ Occ t (pos t.mask h ne)/\∀m,m<ne->Occ t (pos t.mask h m):=by
 obtain⟨x,hx,fx⟩:=zfL T;obtain⟨n,hn,e⟩:=reach T.cov h hx;obtain⟨m,h1,h2,h3⟩:=least (P:=fun m=>¬ Occ t (pos t.mask h m)) n (by rw[e]; exact fx);exact⟨m,by omega,h2,fun k hk=>Classical.byContradiction fun q=>h3 k hk q⟩
theorem zeS (T:Tb t hs) {hashAt:Nat->Int}{h:Int}:∀(d fuel n:Nat),(∀m,n<=m->m<n+d->∃i:Nat,t.place[i]?=some (pos t.mask h m)/\hashAt i≠h)->probe.go t hashAt h (fuel+d) (pr t.mask h n)=probe.go t hashAt h fuel (pr t.mask h (n+d))
 | 0,fuel,n,_=>rfl
 | d+1,fuel,n,hm=>by
  obtain⟨i,e1,e2⟩:=hm n (Nat.le_refl _) (by omega);have es:t.slot (pr t.mask h n).j=.live i:=zaH T e1;have ih:=zeS T d fuel (n+1) (fun m h1 h2=>hm m (by omega) (by omega));rw[show fuel+(d+1)=(fuel+d)+1 by omega,show n+(d+1)=n+1+d by omega,<- ih];show (match t.slot (pr t.mask h n).j with
   | .empty=>some (Met.empty (pr t.mask h n).j (pr t.mask h n).dummy)
   | .dummy=>probe.go t hashAt h (fuel+d) (t.advance { (pr t.mask h n) with dummy:=some (pr t.mask h n).j })
   | .live i=>if hashAt i == h then some (Met.candidate (pr t.mask h n).j i (t.advance (pr t.mask h n))) else probe.go t hashAt h (fuel+d) (t.advance (pr t.mask h n)))=_
  rw[es];dsimp only;rw[if_neg (by simpa using e2)]
  rfl
theorem probe_spec (T:Tb t hs) {hashAt:Nat->Int}{h:Int}{ne n:Nat} (hne:ne<10*turns t.mask) (he:¬ Occ t (pos t.mask h ne)) (hm:∀m,m<ne->Occ t (pos t.mask h m)) (hn:n<=ne) :
  (t.probe hashAt h (pr t.mask h n)=some (.empty (pos t.mask h ne) none)/\∀m i,n<=m->m<ne->t.place[i]?=some (pos t.mask h m)->hashAt i≠h) \/
  ∃(N i:Nat),n<=N/\N<ne/\t.place[i]?=some (pos t.mask h N)/\hashAt i=h/\t.probe hashAt h (pr t.mask h n)=some (.candidate (pos t.mask h N) i (pr t.mask h (N+1)))/\∀m i',n<=m->m<N->t.place[i']?=some (pos t.mask h m)->hashAt i'≠h:=by
 by_cases q:∃N,n<=N/\N<ne/\∃i:Nat,t.place[i]?=some (pos t.mask h N)/\hashAt i=h
 ·right
  obtain⟨N₀,hN₀⟩:=q;obtain⟨N,h1,⟨h2,h3,i,h4,h5⟩,h6⟩:=least (P:=fun N=>n<=N/\N<ne/\∃i:Nat,t.place[i]?=some (pos t.mask h N)/\hashAt i=h) N₀ hN₀;have bef:∀m i',n<=m->m<N->t.place[i']?=some (pos t.mask h m)->hashAt i'≠h:=fun m i' a b c d=>h6 m b ⟨a,by omega,i',c,d⟩;refine⟨N,i,h2,h3,h4,h5,?_,bef⟩;obtain⟨fuel,hf⟩:∃fuel,10*turns t.mask=(fuel+1)+(N - n):=⟨10*turns t.mask - (N - n) - 1,by omega⟩;unfold SetTable.probe;rw[hf,zeS T (N - n) (fuel+1) n (fun m a b=>?_),show n+(N - n)=N by omega]
  ·show (match t.slot (pr t.mask h N).j with
    | .empty=>some (Met.empty (pr t.mask h N).j (pr t.mask h N).dummy)
    | .dummy=>probe.go t hashAt h fuel (t.advance { (pr t.mask h N) with dummy:=some (pr t.mask h N).j })
    | .live i=>if hashAt i == h then some (Met.candidate (pr t.mask h N).j i (t.advance (pr t.mask h N))) else probe.go t hashAt h fuel (t.advance (pr t.mask h N)))=_
   rw[show t.slot (pr t.mask h N).j=.live i from zaH T h4];dsimp only;rw[if_pos (by simpa using h5)]
   rfl
  ·obtain⟨i',e⟩:=hm m (by omega)
   exact⟨i',e,bef m i' a (by omega) e⟩
 ·left
  have bef:∀m i,n<=m->m<ne->t.place[i]?=some (pos t.mask h m)->hashAt i≠h:=fun m i a b c d=>q ⟨m,a,b,i,c,d⟩;refine⟨?_,bef⟩;obtain⟨fuel,hf⟩:∃fuel,10*turns t.mask=(fuel+1)+(ne - n):=⟨10*turns t.mask - (ne - n) - 1,by omega⟩;unfold SetTable.probe;rw[hf,zeS T (ne - n) (fuel+1) n (fun m a b=>?_),show n+(ne - n)=ne by omega]
  ·show (match t.slot (pr t.mask h ne).j with
    | .empty=>some (Met.empty (pr t.mask h ne).j (pr t.mask h ne).dummy)
    | .dummy=>probe.go t hashAt h fuel (t.advance { (pr t.mask h ne) with dummy:=some (pr t.mask h ne).j })
    | .live i=>if hashAt i == h then some (Met.candidate (pr t.mask h ne).j i (t.advance (pr t.mask h ne))) else probe.go t hashAt h fuel (t.advance (pr t.mask h ne)))=_
   rw[show t.slot (pr t.mask h ne).j=.empty from zfx T he];dsimp only;rw[zfm]
   rfl
  ·obtain⟨i',e⟩:=hm m (by omega)
   exact⟨i',e,bef m i' a (by omega) e⟩
theorem zk4 (T:Tb t hs) {h:Int}{ne k j:Nat} (he:¬ Occ t (pos t.mask h ne)) (hk:hs[k]?=some h) (hj:t.place[k]?=some j):∃N,N<ne/\pos t.mask h N=j:=by
 obtain⟨n,e,hm⟩:=T.path k j h hk hj;refine⟨n,?_,e⟩;rcases Nat.lt_trichotomy n ne with q | q | q
 ·exact q
 ·subst q; exact absurd ⟨k,by rw[e]; exact hj⟩ he
 ·exact absurd (hm ne q) he
theorem zkG (T:Tb t hs) {h:Int}{ne:Nat} (he:¬ Occ t (pos t.mask h ne)) (hm:∀m,m<ne->Occ t (pos t.mask h m)) (hr:hs.size+1<=t.mask) :
  (t.put (pos t.mask h ne)).2<=hs.size/\(t.put (pos t.mask h ne)).1.mask=t.mask/\Tb (t.put (pos t.mask h ne)).1 (insertAt hs (t.put (pos t.mask h ne)).2 h):=by
 have hj:∀i:Nat,t.place[i]?≠some (pos t.mask h ne):=fun i e=>he ⟨i,e⟩;obtain⟨b1,b2,b3⟩:=zbH T.ris (pos t.mask h ne);have hb:below t.place (pos t.mask h ne)<=hs.size:=by rw[<- T.size]; exact b1
 have pl:(t.put (pos t.mask h ne)).1.place=insertAt t.place (below t.place (pos t.mask h ne)) (pos t.mask h ne):=rfl;have mk:(t.put (pos t.mask h ne)).1.mask=t.mask:=rfl;have occ:∀j,Occ t j->∃k':Nat,(t.put (pos t.mask h ne)).1.place[k']?=some j:=fun j ⟨i,e⟩=>by
  by_cases q:i<below t.place (pos t.mask h ne)
  ·exact⟨i,by rw[pl,zad _ _ _ b1,if_pos q]; exact e⟩
  ·exact⟨i+1,by rw[pl,zad _ _ _ b1,if_neg (by omega),if_neg (by omega),Nat.add_sub_cancel]; exact e⟩
 refine⟨hb,mk,⟨?_,?_,?_,fun i j e=>?_,T.cov,T.odd,?_,fun k j h' e1 e2=>?_⟩⟩
 ·rw[pl]; exact zjp T.ris hj
 ·show (if has t.dummies (pos t.mask h ne)=true then _ else t.dummies)=#[]
  rw[T.dum]
  rfl
 ·rw[pl,zbX _ _ _ b1]
  show _=(insertAt hs (below t.place (pos t.mask h ne)) h).size;rw[zbX _ _ _ hb,T.size]
 ·rw[pl,zad _ _ _ b1] at e
  rw[mk]
  by_cases q1:i<below t.place (pos t.mask h ne)
  ·rw[if_pos q1] at e; exact T.le _ _ e
  ·rw[if_neg q1] at e
   by_cases q2:i=below t.place (pos t.mask h ne)
   ·rw[if_pos q2] at e; cases e; exact pos_le _ _ _
   ·rw[if_neg q2] at e; exact T.le _ _ e
 ·show (insertAt hs (below t.place (pos t.mask h ne)) h).size<=t.mask
  rw[zbX _ _ _ hb];exact hr
 ·have e1':(insertAt hs (below t.place (pos t.mask h ne)) h)[k]?=some h':=e1
  rw[zad _ _ _ hb] at e1';rw[pl,zad _ _ _ b1] at e2;rw[mk]
  by_cases q1:k<below t.place (pos t.mask h ne)
  ·rw[if_pos q1] at e1' e2
   obtain⟨n,a,b⟩:=T.path k j h' e1' e2;exact⟨n,a,fun m hm'=>occ _ (b m hm')⟩
  ·rw[if_neg q1] at e1' e2
   by_cases q2:k=below t.place (pos t.mask h ne)
   ·rw[if_pos q2] at e1' e2
    cases e1'; cases e2;exact⟨ne,rfl,fun m hm'=>occ _ (hm m hm')⟩
   ·rw[if_neg q2] at e1' e2
    obtain⟨n,a,b⟩:=T.path (k - 1) j h' e1' e2;exact⟨n,a,fun m hm'=>occ _ (b m hm')⟩
end
theorem zir (finger moves:Nat) (led:Bool):Tb (SetTable.fresh finger moves led) #[]:=
 ⟨fun i j a b h=>by simp[SetTable.fresh] at h,rfl,rfl,fun i j h=>by simp[SetTable.fresh] at h,cov7,show 7 % 2=1 from rfl,show 0<=7 from Nat.zero_le _,fun k j h e=>by simp at e⟩
end STb
end
section
namespace STb
open PySem PySem.SetTable
def Own (owner:Array (Option Nat)) (j:Nat):Prop:=∃q,owner[j]?=some (some q)
def stt (mask:Nat) (h:Int):Nat->Nat
 | 0=>0
 | r+1=>stt mask h r+(runEnd mask (lp mask h r).1 - (lp mask h r).1)+1
theorem ziC (mask:Nat) (h:Int) {r R:Nat} (hr:r<=R):stt mask h r<=stt mask h R:=by
 induction hr with
 | refl=>exact Nat.le_refl _
 | step _ ih=>exact Nat.le_trans ih (by show _<=stt mask h _+_+1; omega)
theorem zg7 (mask:Nat) (h:Int):∀r,pr mask h (stt mask h r)={ j:=(lp mask h r).1,more:=runEnd mask (lp mask h r).1 - (lp mask h r).1,i:=(lp mask h r).1,perturb:=(lp mask h r).2,dummy:=none }
 | 0=>rfl
 | r+1=>by
  show nxt mask (pr mask h (stt mask h r+(runEnd mask (lp mask h r).1 - (lp mask h r).1)))=_;rw[zbW mask h (zg7 mask h r) _ (Nat.le_refl _)];unfold nxt;rw[if_neg (by show ¬ (runEnd mask (lp mask h r).1 - (lp mask h r).1 - (runEnd mask (lp mask h r).1 - (lp mask h r).1) > 0); omega)]
  rfl
theorem zcV {owner:Array (Option Nat)}{mask j:Nat} (hz:owner.size=mask+1) (hj:j<=mask):(owner.getD j (some 0)).isNone=true ↔ ¬ Own owner j:=by
 have hlt:j<owner.size:=by omega
 have e:owner.getD j (some 0)=owner[j]:=by simp[Array.getD,hlt]
 have e2:owner[j]?=some owner[j]:=getElem?_pos owner j hlt;rw[e];constructor
 ·intro h ⟨q,hq⟩
  rw[e2] at hq;rw[Option.some.inj hq] at h;cases h
 ·intro h
  cases c:owner[j] with
  | none=>rfl
  | some q=>exact absurd ⟨q,by rw[e2,c]⟩ h
theorem zgN {mask:Nat}{owner:Array (Option Nat)} (hz:owner.size=mask+1) (h:Int) {ne R:Nat} (he:¬ Own owner (pos mask h ne)) (hm:∀m,m<ne->Own owner (pos mask h m)) (hR:ne<=stt mask h R) :
  ∀(fuel r:Nat),stt mask h r<=ne->R<r+fuel->layClean.free mask owner fuel (lp mask h r).1 (lp mask h r).2=some (pos mask h ne):=by
 intro fuel
 induction fuel with
 | zero=>
  intro r h1 h2;have q:=ziC mask h (r:=R+1) (R:=r) (by omega);have:stt mask h (R+1)=stt mask h R+(runEnd mask (lp mask h R).1 - (lp mask h R).1)+1:=rfl;omega
 | succ fuel ih=>
  intro r hn hr;have walk:=zbW mask h (zg7 mask h r);have posk:∀k,k<=runEnd mask (lp mask h r).1 - (lp mask h r).1->pos mask h (stt mask h r+k)=(lp mask h r).1+k:=fun k hk=>by
   unfold pos;rw[walk k hk]
  have hge:(lp mask h r).1<=runEnd mask (lp mask h r).1:=by unfold runEnd; split <;> omega
  have ple:∀k,k<=runEnd mask (lp mask h r).1 - (lp mask h r).1->(lp mask h r).1+k<=mask:=fun k hk=>by rw[<- posk k hk]; exact pos_le _ _ _
  show (match (List.range (runEnd mask (lp mask h r).1+1 - (lp mask h r).1)).find? (fun k=>(owner.getD ((lp mask h r).1+k) (some 0)).isNone) with
   | some k=>some ((lp mask h r).1+k)
   | none=>layClean.free mask owner fuel (leap mask (lp mask h r).1 (lp mask h r).2).1 (leap mask (lp mask h r).1 (lp mask h r).2).2)=_
  by_cases hin:ne<=stt mask h r+(runEnd mask (lp mask h r).1 - (lp mask h r).1)
  ·have ef:(List.range (runEnd mask (lp mask h r).1+1 - (lp mask h r).1)).find? (fun k=>(owner.getD ((lp mask h r).1+k) (some 0)).isNone)=some (ne - stt mask h r):=by
    rw[List.find?_range_eq_some];refine⟨?_,List.mem_range.mpr (by omega),fun k hk=>?_⟩
    ·show (owner.getD ((lp mask h r).1+(ne - stt mask h r)) (some 0)).isNone=true
     rw[zcV hz (ple _ (by omega)),<- posk _ (by omega),show stt mask h r+(ne - stt mask h r)=ne by omega];exact he
    ·have q:¬ (owner.getD ((lp mask h r).1+k) (some 0)).isNone=true:=by
      rw[zcV hz (ple _ (by omega)),<- posk k (by omega)];exact fun z=>z (hm _ (by omega))
     rw[Bool.not_eq_true] at q;rw[q]
     rfl
   rw[ef];dsimp only;rw[<- posk _ (by omega),show stt mask h r+(ne - stt mask h r)=ne by omega]
  ·have ef:(List.range (runEnd mask (lp mask h r).1+1 - (lp mask h r).1)).find? (fun k=>(owner.getD ((lp mask h r).1+k) (some 0)).isNone)=none:=by
    rw[List.find?_eq_none];intro k hk;have hk':=List.mem_range.mp hk;rw[zcV hz (ple _ (by omega)),<- posk k (by omega)];exact fun z=>z (hm _ (by omega))
   rw[ef];dsimp only;refine ih (r+1) ?_ (by omega);show stt mask h r+(runEnd mask (lp mask h r).1 - (lp mask h r).1)+1<=ne;omega
structure Lay (mask:Nat) (hashes:List Int) (owner:Array (Option Nat)) (k:Nat):Prop where
 size:owner.size=mask+1
 all:∀q:Nat,q<k->∃j:Nat,owner[j]?=some (some q)
 back:∀j q:Nat,owner[j]?=some (some q)->q<k
 one:∀(i j q:Nat),owner[i]?=some (some q)->owner[j]?=some (some q)->i=j
 path:∀(j q:Nat) (h:Int),owner[j]?=some (some q)->hashes[q]?=some h->∃n,pos mask h n=j/\∀m,m<n->Own owner (pos mask h m)
theorem Lay.room {mask:Nat}{hashes:List Int}{owner:Array (Option Nat)}{k:Nat} (L:Lay mask hashes owner k) (hk:k<=mask):∃x,x<=mask/\¬ Own owner x:=by
 apply Classical.byContradiction;intro hn;have all:∀x,x<=mask->∃q,q<k/\owner[x]?=some (some q):=fun x hx=>by
  have:Own owner x:=Classical.byContradiction fun q=>hn ⟨x,hx,q⟩;obtain⟨q,e⟩:=this;exact⟨q,L.back x q e,e⟩
 have sub:((List.range (mask+1)).map fun x=>(owner.getD x none).getD 0) ⊆ List.range k:=fun y hy=>by
  obtain⟨x,hx,e⟩:=List.mem_map.mp hy;obtain⟨q,hq,e2⟩:=all x (Nat.lt_succ_iff.mp (List.mem_range.mp hx));rw[Array.getD_eq_getD_getElem?,e2] at e;subst e;exact List.mem_range.mpr hq
 have nd:((List.range (mask+1)).map fun x=>(owner.getD x none).getD 0).Nodup:=by
  refine List.nodup_iff_pairwise_ne.mpr (List.pairwise_map.mpr ?_);refine List.Pairwise.imp_of_mem ?_ (List.nodup_iff_pairwise_ne.mp (List.nodup_range (n:=mask+1)));intro a b ha hb hne e;obtain⟨q,_,e1⟩:=all a (Nat.lt_succ_iff.mp (List.mem_range.mp ha));obtain⟨p,_,e2⟩:=all b (Nat.lt_succ_iff.mp (List.mem_range.mp hb));simp only[Array.getD_eq_getD_getElem?,e1,e2,Option.getD_some] at e;subst e;exact hne (L.one a b q e1 e2)
 have:=nd.length_le_of_subset sub;rw[List.length_map,List.length_range,List.length_range] at this;omega
theorem zjR {owner:Array (Option Nat)}{mask j k:Nat} (hz:owner.size=mask+1) (hj:j<=mask) (i:Nat):(owner.setIfInBounds j (some k))[i]?=if i=j then some (some k) else owner[i]?:=by
 by_cases q:i=j
 ·subst q
  rw[if_pos rfl,Array.getElem?_setIfInBounds_self_of_lt (by omega)]
 ·rw[if_neg q,Array.getElem?_setIfInBounds_ne (Ne.symm q)]
theorem Lay.step {mask:Nat}{hashes:List Int}{owner:Array (Option Nat)}{k:Nat}{h:Int} (hc:Cov mask) (L:Lay mask hashes owner k) (hk:k<=mask) (hh:hashes[k]?=some h) :
  ∃j,layClean.free mask owner (turns mask) (bits h % (mask+1)) (bits h)=some j/\Lay mask hashes (owner.setIfInBounds j (some k)) (k+1):=by
 obtain⟨x,hx,fx⟩:=L.room hk;obtain⟨d,hd,e⟩:=hc (lp mask h 13).1 x (zla mask h 13) hx;have eR:pos mask h (stt mask h (13+d))=x:=by
  unfold pos;rw[zg7];show (lp mask h (13+d)).1=x;rw[zkm,e]
 obtain⟨ne,h1,h2,h3⟩:=least (P:=fun m=>¬ Own owner (pos mask h m)) (stt mask h (13+d)) (by rw[eR]; exact fx);have hm:∀m,m<ne->Own owner (pos mask h m):=fun m q=>Classical.byContradiction fun z=>h3 m q z;refine⟨pos mask h ne,zgN L.size h h2 hm h1 (turns mask) 0 (Nat.zero_le _) (by unfold turns; omega),?_⟩;have hle:pos mask h ne<=mask:=pos_le _ _ _;have sg:=zjR (k:=k) L.size hle;have own:∀i,Own owner i->Own (owner.setIfInBounds (pos mask h ne) (some k)) i:=fun i ⟨q,e⟩=>by
  by_cases z:i=pos mask h ne
  ·exact⟨k,by rw[sg,if_pos z]⟩
  ·exact⟨q,by rw[sg,if_neg z]; exact e⟩
 refine⟨by rw[Array.size_setIfInBounds]; exact L.size,fun q hq=>?_,fun j q e=>?_,fun i j q e1 e2=>?_,fun j q h' e1 e2=>?_⟩
 ·by_cases z:q=k
  ·exact⟨pos mask h ne,by rw[sg,if_pos rfl,z]⟩
  ·obtain⟨j,ej⟩:=L.all q (by omega)
   refine⟨j,?_⟩;rw[sg,if_neg fun w=>h2 ⟨q,by rw[<- w]; exact ej⟩];exact ej
 ·rw[sg] at e
  by_cases z:j=pos mask h ne
  ·rw[if_pos z] at e; cases e; omega
  ·rw[if_neg z] at e; have:=L.back j q e; omega
 ·rw[sg] at e1 e2
  by_cases z1:i=pos mask h ne
  ·rw[if_pos z1] at e1; cases e1
   by_cases z2:j=pos mask h ne
   ·omega
   ·rw[if_neg z2] at e2; have:=L.back j k e2; omega
  ·rw[if_neg z1] at e1
   by_cases z2:j=pos mask h ne
   ·rw[if_pos z2] at e2; cases e2; have:=L.back i k e1; omega
   ·rw[if_neg z2] at e2; exact L.one i j q e1 e2
 ·rw[sg] at e1
  by_cases z:j=pos mask h ne
  ·rw[if_pos z] at e1; cases e1
   rw[hh] at e2; cases e2;exact⟨ne,z.symm,fun m q=>own _ (hm m q)⟩
  ·rw[if_neg z] at e1
   obtain⟨n,a,b⟩:=L.path j q h' e1 e2;exact⟨n,a,fun m q=>own _ (b m q)⟩
theorem Lay.nil (mask:Nat) (hashes:List Int):Lay mask hashes (Array.replicate (mask+1) none) 0:=by
 have no:∀(j q:Nat),(Array.replicate (mask+1) (none:Option Nat))[j]?=some (some q)->False:=fun j q e=>by
  rw[Array.getElem?_replicate] at e;split at e <;> cases e
 exact⟨by simp,fun q h=>absurd h (Nat.not_lt_zero _),fun j q e=>(no j q e).elim,fun i j q e=>(no i q e).elim,fun j q h e=>(no j q e).elim⟩
theorem zeN {mask:Nat} (hc:Cov mask) (hashes:Array Int) (hk:hashes.size<=mask+1):∃owner,layClean mask hashes=some owner/\Lay mask hashes.toList owner hashes.size:=by
 have go:∀(rest:List Int) (owner:Array (Option Nat)) (k:Nat),Lay mask hashes.toList owner k->hashes.toList.drop k=rest->
   ∃owner',(rest.foldl (fun acc h=>do
    let (owner,k) <- acc
    let j <- layClean.free mask owner (turns mask) (bits h % (mask+1)) (bits h)
    pure (owner.setIfInBounds j (some k),k+1)) (some (owner,k)))=some (owner',k+rest.length)/\Lay mask hashes.toList owner' (k+rest.length):=by
  intro rest
  induction rest with
  | nil=>intro owner k L _; exact⟨owner,rfl,L⟩
  | cons h rest ih=>
   intro owner k L e;have hlt:k<hashes.toList.length:=by
    rcases Nat.lt_or_ge k hashes.toList.length with q | q
    ·exact q
    ·rw[List.drop_eq_nil_of_le q] at e; cases e
   have eh:hashes.toList[k]?=some h:=by
    rw[List.drop_eq_getElem_cons hlt] at e;injection e with e1 _
    rw[List.getElem?_eq_getElem hlt,e1]
   have er:hashes.toList.drop (k+1)=rest:=by
    rw[List.drop_eq_getElem_cons hlt] at e;injection e
   rw[Array.length_toList] at hlt;obtain⟨j,ej,L'⟩:=L.step hc (by omega) eh;obtain⟨o',a,b⟩:=ih (owner.setIfInBounds j (some k)) (k+1) L' er;refine⟨o',?_,?_⟩
   ·rw[List.foldl_cons]
    show List.foldl _ (layClean.free mask owner (turns mask) (bits h % (mask+1)) (bits h) >>= fun j=>pure (owner.setIfInBounds j (some k),k+1)) rest=_;rw[ej];show List.foldl _ (some (owner.setIfInBounds j (some k),k+1)) rest=_;rw[a,List.length_cons,show k+1+rest.length=k+(rest.length+1) by omega]
   ·rw[List.length_cons,show k+(rest.length+1)=k+1+rest.length by omega]
    exact b
 obtain⟨o,a,b⟩:=go hashes.toList _ 0 (Lay.nil mask _) rfl;rw[Nat.zero_add,Array.length_toList] at a b;refine⟨o,?_,b⟩;unfold layClean;rw[<- Array.foldl_toList,a]
 rfl
def zaj (owner:Array (Option Nat)) (n:Nat):List (Nat×Nat):=(List.range n).filterMap fun j=>(owner.getD j none).map (j,·)
theorem zay {owner:Array (Option Nat)}{n:Nat}{x:Nat×Nat}:x∈zaj owner n ↔ x.1<n/\owner[x.1]?=some (some x.2):=by
 unfold zaj;rw[List.mem_filterMap];constructor
 ·rintro⟨j,hj,e⟩
  rw[Option.map_eq_some_iff] at e;obtain⟨q,e1,rfl⟩:=e;refine⟨List.mem_range.mp hj,?_⟩;rw[Array.getD_eq_getD_getElem?] at e1;cases c:owner[j]? with
  | none=>rw[c] at e1; cases e1
  | some v=>rw[c] at e1; simp only[Option.getD_some] at e1; rw[e1]
 ·rintro⟨h1,h2⟩
  refine⟨x.1,List.mem_range.mpr h1,?_⟩;rw[Array.getD_eq_getD_getElem?,h2]
  rfl
theorem zeY (owner:Array (Option Nat)) (n:Nat):(zaj owner n).Pairwise fun x y=>x.1<y.1:=by
 unfold zaj;refine List.Pairwise.filterMap (S:=fun x y:Nat×Nat=>x.1<y.1) _ ?_ (List.pairwise_lt_range (n:=n));intro a a' h b hb b' hb';rw[Option.map_eq_some_iff] at hb hb';obtain⟨_,_,rfl⟩:=hb;obtain⟨_,_,rfl⟩:=hb';exact h
theorem ziE {mask:Nat}{hashes:List Int}{owner:Array (Option Nat)}{k:Nat} (L:Lay mask hashes owner k):(zaj owner (mask+1)).length=k/\((zaj owner (mask+1)).map (·.2)).Nodup:=by
 have nd:((zaj owner (mask+1)).map (·.2)).Nodup:=by
  refine List.nodup_iff_pairwise_ne.mpr (List.pairwise_map.mpr ?_);refine List.Pairwise.imp_of_mem ?_ (zeY owner (mask+1));intro a b ha hb hlt e;have h1:=(zay.mp ha).2;have h2:=(zay.mp hb).2;rw[<- e] at h2;have:=L.one _ _ _ h1 h2;omega
 refine⟨?_,nd⟩;have s1:(zaj owner (mask+1)).map (·.2) ⊆ List.range k:=fun q hq=>by
  obtain⟨x,hx,rfl⟩:=List.mem_map.mp hq;exact List.mem_range.mpr (L.back _ _ (zay.mp hx).2)
 have s2:List.range k ⊆ (zaj owner (mask+1)).map (·.2):=fun q hq=>by
  obtain⟨j,ej⟩:=L.all q (List.mem_range.mp hq);have hj:j<mask+1:=by rw[<- L.size]; exact (Array.getElem?_eq_some_iff.mp ej).1
  exact List.mem_map.mpr ⟨(j,q),zay.mpr ⟨hj,ej⟩,rfl⟩
 have l1:=nd.length_le_of_subset s1;have l2:=(List.nodup_range (n:=k)).length_le_of_subset s2;rw[List.length_map,List.length_range] at l1;rw[List.length_range,List.length_map] at l2;omega
theorem zjE {mask:Nat} (hc:Cov mask) (ho:mask % 2=1) (finger moves:Nat) (led plain:Bool) (hashes:Array Int) (hk:hashes.size<=mask) :
  ∃t order,laid mask finger moves led plain hashes=some (t,order)/\t.mask=mask/\t.led=led/\t.plain=plain/\order.size=hashes.size/\order.toList.Nodup/\(∀q∈order.toList,q<hashes.size)/\
   Tb t (order.map fun q=>(hashes[q]?).getD 0):=by
 obtain⟨owner,e,L⟩:=zeN hc hashes (by omega);obtain⟨ll,nd⟩:=ziE L;refine⟨_,_,by unfold laid; rw[e]; exact rfl,rfl,rfl,rfl,?_,?_,?_,?_⟩
 ·show ((zaj owner (mask+1)).map (·.2)).toArray.size=_
  rw[List.size_toArray,List.length_map,ll]
 ·exact nd
 ·intro q hq
  obtain⟨x,hx,rfl⟩:=List.mem_map.mp (show q∈(zaj owner (mask+1)).map (·.2) from hq);exact L.back _ _ (zay.mp hx).2
 ·have pg:∀i:Nat,(((zaj owner (mask+1)).map (·.1)).toArray)[i]?=((zaj owner (mask+1))[i]?).map (·.1):=fun i=>by
   rw[List.getElem?_toArray,List.getElem?_map]
  have og:∀i:Nat,(((zaj owner (mask+1)).map (·.2)).toArray)[i]?=((zaj owner (mask+1))[i]?).map (·.2):=fun i=>by
   rw[List.getElem?_toArray,List.getElem?_map]
  have occ:∀j,Own owner j->∃i:Nat,(((zaj owner (mask+1)).map (·.1)).toArray)[i]?=some j:=fun j ⟨q,ej⟩=>by
   have hj:j<mask+1:=by rw[<- L.size]; exact (Array.getElem?_eq_some_iff.mp ej).1
   obtain⟨i,hi,ei⟩:=List.mem_iff_getElem.mp (zay.mpr ⟨hj,ej⟩:(j,q)∈zaj owner (mask+1));exact⟨i,by rw[pg,List.getElem?_eq_getElem hi,ei]; rfl⟩
  refine⟨fun i j a b ha hb hij=>?_,rfl,?_,fun i j ej=>?_,hc,ho,?_,fun k j h e1 e2=>?_⟩
  ·have ha':((zaj owner (mask+1))[i]?).map (·.1)=some a:=by rw[<- pg]; exact ha
   have hb':((zaj owner (mask+1))[j]?).map (·.1)=some b:=by rw[<- pg]; exact hb
   obtain⟨x,ex,rfl⟩:=Option.map_eq_some_iff.mp ha';obtain⟨y,ey,rfl⟩:=Option.map_eq_some_iff.mp hb';obtain⟨hi,rfl⟩:=List.getElem?_eq_some_iff.mp ex;obtain⟨hj,rfl⟩:=List.getElem?_eq_some_iff.mp ey;exact List.pairwise_iff_getElem.mp (zeY owner (mask+1)) i j hi hj hij
  ·show ((zaj owner (mask+1)).map (·.1)).toArray.size=(Array.map _ ((zaj owner (mask+1)).map (·.2)).toArray).size
   rw[Array.size_map,List.size_toArray,List.size_toArray,List.length_map,List.length_map]
  ·have ej':((zaj owner (mask+1))[i]?).map (·.1)=some j:=by rw[<- pg]; exact ej
   obtain⟨x,ex,rfl⟩:=Option.map_eq_some_iff.mp ej';exact Nat.lt_succ_iff.mp (zay.mp (List.mem_of_getElem? ex)).1
  ·show (Array.map _ ((zaj owner (mask+1)).map (·.2)).toArray).size<=mask
   rw[Array.size_map,List.size_toArray,List.length_map,ll];exact hk
  ·have e2':((zaj owner (mask+1))[k]?).map (·.1)=some j:=by rw[<- pg]; exact e2
   obtain⟨x,ex,rfl⟩:=Option.map_eq_some_iff.mp e2';have e1':(Array.map (fun q=>(hashes[q]?).getD 0) ((zaj owner (mask+1)).map (·.2)).toArray)[k]?=some h:=e1;rw[Array.getElem?_map,og,ex] at e1';have hx:=(zay.mp (List.mem_of_getElem? ex)).2;have hq:=L.back _ _ hx;have eh:hashes.toList[x.2]?=some h:=by
    rw[Array.getElem?_toList];have:hashes[x.2]?=some hashes[x.2]:=getElem?_pos hashes x.2 hq;simp only[Option.map_some,this,Option.getD_some] at e1';rw[this,Option.some.inj e1']
   obtain⟨n,a,b⟩:=L.path x.1 x.2 h hx eh;exact⟨n,a,fun m hm=>occ _ (b m hm)⟩
end STb
end
section
namespace STb
open PySem PySem.SetTable
section
variable {prog:Program}{w:World}{K:Type} [DecidableEq K] {knd:KeyKind prog w K}{A:Around}{E:Value->Shared->Prop}{s:Shared}
theorem fits_of {t:SetTable}{es:Array (Int×Value)} (T:Tb t (es.map (·.1))):t.fits es.size=true:=by
 have h1:=T.size;have h2:=T.room;rw[Array.size_map] at h1 h2;unfold SetTable.fits SetTable.fill;rw[T.dum,h1];simp;exact h2
theorem zhC (n:Nat) {v:Value} (h:carriedByValue v=true):ofAClassStatement n v=pure false:=by
 cases v with
 | ref a=>simp[carriedByValue] at h
 | _=>cases n <;> rfl
theorem zhq {ks:List K}{b:Addr}{Q:Bool->Shared->Prop} (hk:IsTupleKey knd s.heap ks b) (h:Q false s):wpAny (model prog w) A (ofAClassStatement 8 (.ref b)) Q E s:=by
 have hT:=hk.typeIs;obtain⟨o,items,n,ho,_,hd,hi⟩:=hk;unfold ofAClassStatement;refine wpAny_bind (wpAny_typeOf hT ?_);show wpAny _ _ ((if ("tuple" == "tuple")=true then pure true else isSubtype (.type "tuple") (.type "tuple")) >>= _) _ _ s;rw[if_pos (by decide)];refine wpAny_bind (wpAny_pure ?_);simp only[Bool.not_true,Bool.false_eq_true,if_false];refine wpAny_bind (wpAny_seqItems ho hd ?_);refine wpAny_bind ?_;show wpAny _ _ (forIn items _ _) _ _ s;rw[<- Array.forIn_toList];refine wpAny_forIn_list _ (fun rest r s'=>r.1=none/\s'=s/\∀v∈rest,carriedByValue v=true) _ ?_ ?_ _ _ ⟨rfl,rfl,hi.byValue⟩
 ·rintro v rest r s' ⟨hr,rfl,hall⟩
  rw[zhC _ (hall v List.mem_cons_self)];refine wpAny_bind (wpAny_pure ?_);simp only[Bool.false_eq_true,if_false];exact wpAny_pure ⟨rfl,rfl,fun u hu'=>hall u (List.mem_cons_of_mem _ hu')⟩
 ·rintro⟨r1,r2⟩ s' ⟨hr,rfl,_⟩
  simp only at hr;subst hr;exact wpAny_pure h
theorem zhg {ks:List K}{b:Addr}{ys:List Value}{Q:Bool->Shared->Prop} (hk:IsTupleKey knd s.heap ks b) (hy:∀y∈ys,∃k' c,y=.ref c/\IsTupleKey knd s.heap k' c) (h:Q false s) :
  wpAny (model prog w) A (searchCouldBeSeen (.ref b) ys) Q E s:=by
 unfold searchCouldBeSeen;refine wpAny_bind ?_;refine wpAny_forIn_list _ (fun rest r s'=>r.1=none/\s'=s/\∀y∈rest,∃k' c,y=.ref c/\IsTupleKey knd s.heap k' c) _ ?_ ?_ _ _ ⟨rfl,rfl,hy⟩
 ·rintro v rest r s' ⟨hr,rfl,hall⟩
  obtain⟨k',c,rfl,hc⟩:=hall v List.mem_cons_self;have nx:∀u∈rest,∃k' c,u=.ref c/\IsTupleKey knd s'.heap k' c:=fun u hu'=>hall u (List.mem_cons_of_mem _ hu');dsimp only;split
  ·exact wpAny_pure ⟨rfl,rfl,nx⟩
  ·refine wpAny_bind (wpAny_eqIsQuiet_tuple hk ?_)
   simp only[Bool.not_true,Bool.false_eq_true,if_false];refine wpAny_bind (wpAny_eqIsQuiet_tuple hc ?_);simp only[Bool.not_true,Bool.false_eq_true,if_false];refine wpAny_bind (zhq hk ?_);simp only[Bool.false_eq_true,if_false];refine wpAny_bind (zhq hc ?_);simp only[Bool.false_eq_true,if_false];exact wpAny_pure ⟨rfl,rfl,nx⟩
 ·rintro⟨r1,r2⟩ s' ⟨hr,rfl,_⟩
  simp only at hr;subst hr;exact wpAny_pure h
structure TS (knd:KeyKind prog w K) (h:Heap) (S:Addr) (o:Obj) (es:Array (Int×Value)) (ep:Nat) (t:SetTable) (ks:List (List K)) (B:List Addr):Prop where
 at_:h.get? S=some o
 ex:o.ExactSet
 dt:o.data=.set es ep t
 tb:Tb t (es.map (·.1))
 sz:es.size=ks.length
 nd:ks.Nodup
 el:∀e∈es.toList,∃k b,k∈ks/\e=(tupleKeyHash knd k,Value.ref b)/\IsTupleKey knd h k b
 ke:∀k∈ks,∃b,(tupleKeyHash knd k,Value.ref b)∈es.toList/\IsTupleKey knd h k b
 msk:(t.mask=7/\es.size<=4) \/ (t.mask=31/\es.size<=18) \/ (t.mask=127/\es.size<=76) \/ (t.mask=15/\es.size<=8) \/ (t.mask=63/\es.size<=37) \/ (t.mask=255/\es.size<=152)
 ad:∀e∈es.toList,∃b∈B,e.2=Value.ref b
 wk:w.params.followText "set-order"=true \/ (t.led=true/\t.plain=true)
theorem zhc {B:List Addr}{S:Addr}{o:Obj}{es:Array (Int×Value)}{ep:Nat}{t:SetTable}{ks:List (List K)} (X:TS knd s.heap S o es ep t ks B) (hu:A.units<cLine) {k:List K}{b:Addr} (hk:IsTupleKey knd s.heap k b)
  {ne:Nat} (hne:ne<10*turns t.mask) (he:¬ Occ t (pos t.mask (tupleKeyHash knd k) ne)) (hm:∀m,m<ne->Occ t (pos t.mask (tupleKeyHash knd k) m)) {add:Bool} {Q:SetFound->Shared->Prop}
  (h1:k∈ks->∀r:Option Nat,(add=false->r.isSome=true)->Q (.there r) s) (h2:k∉ks->Q (.free (pos t.mask (tupleKeyHash knd k) ne) false) s) :
  ∀(fuel n:Nat) (stand:Option Probe),ne<n+fuel->n<=ne->stand.getD (t.probeStart (tupleKeyHash knd k))=pr t.mask (tupleKeyHash knd k) n->
   (∀(m i:Nat) (c:Addr),m<n->t.place[i]?=some (pos t.mask (tupleKeyHash knd k) m)->es[i]?=some (tupleKeyHash knd k,Value.ref c)->¬ IsTupleKey knd s.heap k c)->
   wpAny (model prog w) A (setSearchFrom S (.ref b) (tupleKeyHash knd k) add fuel stand) Q E s:=by
 have T:=X.tb;have fit:=fits_of T;have hA:∀i:Nat,(es.map (·.1))[i]?=(es[i]?).map (·.1):=fun i=>Array.getElem?_map ..;intro fuel
 induction fuel with
 | zero=>intro n stand a1 a2 _ _; omega
 | succ fuel ih=>
  intro n stand a1 a2 a3 a4;unfold setSearchFrom;refine wpAny_bind (wpAny_setState_of X.at_ X.dt fit ?_);dsimp only;have gw:t.gaveWay=false:=by
   unfold SetTable.gaveWay;rw[T.odd]
   rfl
  rw[gw];simp only[Bool.false_eq_true,if_false];rw[a3];rcases probe_spec T (hashAt:=fun i=>((es[i]?).map (·.1)).getD 0) hne he hm a2 with ⟨ep1,none_⟩ | ⟨N,i,b1,b2,b3,b4,b5,b6⟩
  ·have ep1':t.probe (fun i=>((es[i]?).map (·.1)).getD 0) (tupleKeyHash knd k) (pr t.mask (tupleKeyHash knd k) n)=some (.empty (pos t.mask (tupleKeyHash knd k) ne) none):=ep1
   show wpAny _ _ (match t.probe (fun i=>((es[i]?).map (·.1)).getD 0) (tupleKeyHash knd k) (pr t.mask (tupleKeyHash knd k) n) with | some met=>_ | _=>_) _ _ s;rw[ep1'];dsimp only;refine wpAny_pure (h2 fun hin=>?_);obtain⟨c,hc1,hc2⟩:=X.ke k hin;obtain⟨i,hi,ei⟩:=List.mem_iff_getElem.mp hc1;have ei':es[i]?=some (tupleKeyHash knd k,.ref c):=by
    rw[<- Array.getElem?_toList,List.getElem?_eq_getElem hi,ei]
   have hlt:i<t.place.size:=by rw[T.size,Array.size_map]; simpa using hi
   have ej:t.place[i]?=some t.place[i]:=getElem?_pos t.place i hlt;obtain⟨N,hN,eN⟩:=zk4 T he (k:=i) (by rw[hA,ei']; rfl) ej;rcases Nat.lt_or_ge N n with q | q
   ·exact a4 N i c q (by rw[eN]; exact ej) ei' hc2
   ·exact none_ N i q hN (by rw[eN]; exact ej) (by show ((es[i]?).map (·.1)).getD 0=_; rw[ei']; rfl)
  ·show wpAny _ _ (match t.probe (fun i=>((es[i]?).map (·.1)).getD 0) (tupleKeyHash knd k) (pr t.mask (tupleKeyHash knd k) n) with | some met=>_ | _=>_) _ _ s
   rw[b5];dsimp only;have hi:i<es.size:=by
    have:=(Array.getElem?_eq_some_iff.mp b3).1;rw[T.size,Array.size_map] at this;exact this
   have ei:es[i]?=some es[i]:=getElem?_pos es i hi;obtain⟨k',c,hk',ee,hc⟩:=X.el es[i] (by simp);rw[ee] at ei;have eh:tupleKeyHash knd k'=tupleKeyHash knd k:=by
    have:((es[i]?).map (·.1)).getD 0=tupleKeyHash knd k:=b4;rw[ei] at this;exact this
   rw[eh] at ei;have sm:t.sameMemory t.moves t.mask=some true:=by unfold SetTable.sameMemory; rw[if_pos (by simp)]
   have nxt':k'≠k->wpAny (model prog w) A (setSearchFrom S (.ref b) (tupleKeyHash knd k) add fuel (some (pr t.mask (tupleKeyHash knd k) (N+1)))) Q E s:=fun eq=>by
    refine ih (N+1) _ (by omega) (by omega) rfl fun m i2 c2 q1 q2 q3 q4=>?_;rcases Nat.lt_or_ge m n with z | z
    ·exact a4 m i2 c2 z q2 q3 q4
    ·rcases Nat.lt_or_ge m N with z2 | z2
     ·exact b6 m i2 z z2 q2 (by show ((es[i2]?).map (·.1)).getD 0=_; rw[q3]; rfl)
     ·have:m=N:=by omega
      subst this;have:=T.ris.inj q2 b3;subst this;rw[ei] at q3;cases q3;exact eq (IsTupleKey.inj hc q4)
   cases led:t.led
   all_goals simp only[Bool.not_true,Bool.not_false,Bool.false_eq_true,if_true,if_false]
   ·refine wpAny_bind (zhg hk (fun y hy=>?_) ?_)
    ·obtain⟨e,he',rfl⟩:=List.mem_map.mp hy
     rw[Array.toList_filter] at he';obtain⟨k2,c2,_,e2,h2'⟩:=X.el e (List.mem_filter.mp he').1;exact⟨k2,c2,by rw[e2],h2'⟩
    simp only[Bool.false_eq_true,if_false];rw[ei];refine wpAny_bind (wpAny_holding (wpAny_eqBool_tuple hu hc hk ?_));refine wpAny_bind (wpAny_setState_of X.at_ X.dt fit ?_)
    by_cases eq:k'=k
    ·subst eq
     cases add
     ·simp only[decide_true,Bool.false_and,Bool.false_eq_true,if_false]
      rw[sm];simp only[if_true];rw[zaH T b3];dsimp only;rw[ei];refine wpAny_bind (wpAny_isSame_ref_self (wpAny_bind (wpAny_pure ?_)));simp only[if_true];exact wpAny_pure (h1 hk' _ fun _=>rfl)
     ·simp only[decide_true,Bool.and_self,if_true]
      exact wpAny_pure (h1 hk' _ fun z=>by cases z)
    ·rw[decide_eq_false eq]
     simp only[Bool.and_false,Bool.false_eq_true,if_false];rw[sm];simp only[if_true];rw[zaH T b3];dsimp only;rw[ei];refine wpAny_bind (wpAny_isSame_ref_self (wpAny_bind (wpAny_pure ?_)));simp only[if_true];exact nxt' eq
   ·rw[ei]
    refine wpAny_bind (wpAny_holding (wpAny_eqBool_tuple hu hc hk ?_));refine wpAny_bind (wpAny_setState_of X.at_ X.dt fit ?_)
    by_cases eq:k'=k
    ·subst eq
     cases add
     ·simp only[decide_true,Bool.false_and,Bool.false_eq_true,if_false]
      rw[sm];simp only[if_true];rw[zaH T b3];dsimp only;rw[ei];refine wpAny_bind (wpAny_isSame_ref_self (wpAny_bind (wpAny_pure ?_)));simp only[if_true];exact wpAny_pure (h1 hk' _ fun _=>rfl)
     ·simp only[decide_true,Bool.and_self,if_true]
      exact wpAny_pure (h1 hk' _ fun z=>by cases z)
    ·rw[decide_eq_false eq]
     simp only[Bool.and_false,Bool.false_eq_true,if_false];rw[sm];simp only[if_true];rw[zaH T b3];dsimp only;rw[ei];refine wpAny_bind (wpAny_isSame_ref_self (wpAny_bind (wpAny_pure ?_)));simp only[if_true];exact nxt' eq
end
end STb
end
section
namespace STb
open PySem PySem.SetTable
section
variable {prog:Program}{w:World}{K:Type} [DecidableEq K] {knd:KeyKind prog w K}{A:Around}{E:Value->Shared->Prop}{s:Shared}
theorem zaJ {h h':Heap}{S b:Addr}{k:List K}{o:Obj}{es ep t} (hk:IsTupleKey knd h k b) (ho:h.get? S=some o) (hd:o.data=.set es ep t) (hs:Heap.SameBut S h h'):IsTupleKey knd h' k b:=by
 obtain⟨o',items,n,ho',hc,hd',hi⟩:=hk;have hne:b≠S:=by
  rintro rfl;obtain rfl:o'=o:=Option.some.inj (ho'.symm.trans ho);rw[hd] at hd'; exact nomatch hd'
 exact⟨o',items,n,(hs.2 b hne).trans ho',hc,hd',hi⟩
theorem zlw {ks:List K}{b:Addr}{Q:Bool->Shared->Prop} (hv:∀k v n,knd.is k v=true->hashByValue n v=pure true) (hk:IsTupleKey knd s.heap ks b) (h:Q true s):wpAny (model prog w) A (hashByValue 8 (.ref b)) Q E s:=by
 have hT:=hk.typeIs;obtain⟨o,items,n,ho,_,hd,hi⟩:=hk;unfold hashByValue;refine wpAny_bind (wpAny_specialOf hT F.slot_tuple_hash.lookup ?_);dsimp only;refine wpAny_bind (wpAny_seqItems ho hd ?_);refine wpAny_bind ?_;show wpAny _ _ (forIn items _ _) _ _ s;rw[<- Array.forIn_toList];refine wpAny_forIn_list _ (fun rest r s'=>r.1=none/\s'=s/\∃ks',ItemsAre knd ks' rest) _ ?_ ?_ _ _ ⟨rfl,rfl,ks,hi⟩
 ·rintro v rest r s' ⟨hr,rfl,ks',hi'⟩
  cases hi' with
  | @cons k _ ks'' _ h1 h2=>
   rw[hv k v 7 h1];refine wpAny_bind (wpAny_pure ?_);simp only[Bool.not_true,Bool.false_eq_true,if_false];exact wpAny_pure ⟨rfl,rfl,ks'',h2⟩
 ·rintro⟨r1,r2⟩ s' ⟨hr,rfl,_⟩
  simp only at hr;subst hr;exact wpAny_pure h
theorem zcF {h:Heap}{S:Addr}{o:Obj}{es:Array (Int×Value)}{ep:Nat}{t:SetTable}{es':Array (Int×Value)}{t':SetTable} (ho:h.get? S=some o) (hd:o.data=.set es ep t) :
  (h.update S (Obj.putSet es' t')).get? S=some { o with data:=.set es' (ep+1) t' }:=by
 have:=Heap.get?_update_self (Obj.putSet es' t') ho (by rw[putSet_of es' t' hd]; rfl);rw[putSet_of es' t' hd] at this;exact this
theorem ziM {α:Type}{es:Array α}:∀{l:List Nat},(∀q∈l,q<es.size)->∃l':List α,l.filterMap (es[·]?)=l'/\l'.length=l.length/\(∀x∈l',x∈es.toList)/\(∀(i q:Nat),l[i]?=some q->l'[i]?=es[q]?)
 | [],_=>⟨[],rfl,rfl,(fun x hx=>by cases hx),(fun i q e=>by cases i <;> simp at e)⟩
 | q::l,h=>by
  obtain⟨l',e1,e2,e3,e4⟩:=ziM (l:=l) fun x hx=>h x (List.mem_cons_of_mem _ hx);have hq:=h q List.mem_cons_self;refine⟨es[q]::l',?_,by rw[List.length_cons,List.length_cons,e2],fun x hx=>?_,fun i p e=>?_⟩
  ·rw[List.filterMap_cons,getElem?_pos es q hq,e1]
  ·rcases List.mem_cons.mp hx with rfl | hx
   ·simp
   ·exact e3 x hx
  ·cases i with
   | zero=>simp at e; subst e; simp[getElem?_pos es q hq]
   | succ i=>simp at e ⊢; exact e4 i p e
theorem zhS {B:List Addr}{S:Addr}{o:Obj}{es:Array (Int×Value)}{ep:Nat}{t:SetTable}{ks:List (List K)}{want m2:Nat} (hat:s.heap.get? S=some o) (hex:o.ExactSet) (hd:o.data=.set es ep t) (T:Tb t (es.map (·.1)))
  (hsz:es.size=ks.length) (nd:ks.Nodup) (ad:∀e∈es.toList,∃b∈B,e.2=Value.ref b) (el:∀e∈es.toList,∃k b,k∈ks/\e=(tupleKeyHash knd k,Value.ref b)/\IsTupleKey knd s.heap k b) (ke:∀k∈ks,∃b,(tupleKeyHash knd k,Value.ref b)∈es.toList/\IsTupleKey knd s.heap k b)
  (hw:SetTable.sizeAbove want - 1=m2) (hw2:SetTable.sizeAbove want<=sizeLine) (hc:Cov m2) (ho:m2 % 2=1) (hr:es.size<=m2) (hz:es.size<=1000)
  (hmk:(m2=7/\es.size<=4) \/ (m2=31/\es.size<=18) \/ (m2=127/\es.size<=76) \/ (m2=15/\es.size<=8) \/ (m2=63/\es.size<=37) \/ (m2=255/\es.size<=152)) (wk:w.params.followText "set-order"=true \/ (t.led=true/\t.plain=true)) {Q:Unit->Shared->Prop}
  (h:∀h' o' es' ep' t',TS knd h' S o' es' ep' t' ks B->Heap.SameBut S s.heap h'->Q () { s with heap:=h' }):wpAny (model prog w) A (setRelay S want) Q E s:=by
 have fit:=fits_of T;unfold setRelay;refine wpAny_bind (wpAny_setState_of hat hd fit ?_);dsimp only;rw[if_neg (Nat.not_lt.mpr hw2)];obtain⟨t2,order,e1,e2,e3,e4,e5,e6,e7,e8⟩:=zjE hc ho t.finger (t.movedTo m2) t.led t.plain (es.map (·.1)) (by rw[Array.size_map]; exact hr);have er:t.relaid (es.map (·.1)) want=some (t2,order):=by
  unfold SetTable.relaid;rw[hw];exact e1
 rw[Array.size_map] at e5 e7;obtain⟨l',f1,f2,f3,f4⟩:=ziM (es:=es) e7;have eo:order.filterMap (es[·]?)=l'.toArray:=by
  apply Array.toList_inj.mp;rw[Array.toList_filterMap,f1]
 have hl:l'.length=es.size:=by rw[f2,Array.length_toList,e5]
 rw[er];refine wpAny_bind ?_;show wpAny _ _ (ite (((order.filterMap (es[·]?)).size != es.size)=true) _ _) _ _ _;rw[if_neg (by rw[eo,List.size_toArray,hl]; simp),eo];refine wpAny_pure ?_;dsimp only;have hes:(l'.toArray.map (·.1))=order.map fun q=>((es.map (·.1))[q]?).getD 0:=by
  apply Array.ext_getElem?;intro i;rw[Array.getElem?_map,Array.getElem?_map,List.getElem?_toArray];cases q:order[i]? with
  | none=>
   have:order.toList.length<=i:=by rw[Array.length_toList]; exact Array.getElem?_eq_none_iff.mp q
   rw[List.getElem?_eq_none (by omega)]
   rfl
  | some p=>
   have e:=f4 i p (by rw[Array.getElem?_toList]; exact q);have hp:=e7 p (by rw[<- Array.getElem?_toList] at q; exact List.mem_of_getElem? q);rw[e,getElem?_pos es p hp];simp[hp]
 have T2:Tb t2 (l'.toArray.map (·.1)):=by rw[hes]; exact e8
 have hne:∀q,q<es.size->q∈order.toList:=fun q hq=>Classical.byContradiction fun z=>by
  have nd2:(q::order.toList).Nodup:=List.nodup_cons.mpr ⟨z,e6⟩;have sub:(q::order.toList) ⊆ List.range es.size:=fun x hx=>by
   rcases List.mem_cons.mp hx with rfl | hx
   ·exact List.mem_range.mpr hq
   ·exact List.mem_range.mpr (e7 x hx)
  have:=nd2.length_le_of_subset sub;rw[List.length_cons,Array.length_toList,e5,List.length_range] at this;omega
 refine wpAny_storeSet_of hat hd ?_ (by rw[List.size_toArray,hl,sizeLine_eq]; omega);refine h _ { o with data:=.set l'.toArray (ep+1) t2 } l'.toArray (ep+1) t2 ?_ (Heap.SameBut.update ..);have sb:Heap.SameBut S s.heap (s.heap.update S (Obj.putSet l'.toArray t2)):=Heap.SameBut.update ..;refine⟨zcF hat hd,hex,rfl,T2,by rw[List.size_toArray,hl]; exact hsz,nd,fun e he=>?_,fun k hk=>?_,?_,fun e he=>ad e (f3 e he),by rw[e3,e4]; exact wk⟩
 ·obtain⟨k,b,a1,a2,a3⟩:=el e (f3 e he)
  exact⟨k,b,a1,a2,zaJ a3 hat hd sb⟩
 ·obtain⟨b,a1,a2⟩:=ke k hk
  refine⟨b,?_,zaJ a2 hat hd sb⟩;obtain⟨q,hq,eq⟩:=List.mem_iff_getElem.mp a1;rw[Array.length_toList] at hq;obtain⟨i,hi,ei⟩:=List.mem_iff_getElem.mp (hne q hq);have e:=f4 i q (by rw[List.getElem?_eq_getElem hi,ei]);refine List.mem_of_getElem? (i:=i) ?_;rw[e,<- eq];simp[hq]
 ·rw[e2,List.size_toArray,hl]
  exact hmk
theorem ins_map {α β:Type} (f:α->β) (xs:Array α) (p:Nat) (x:α) (hp:p<=xs.size):(insertAt xs p x).map f=insertAt (xs.map f) p (f x):=by
 apply Array.ext_getElem?;intro i;rw[Array.getElem?_map,zad _ _ _ hp,zad _ _ _ (by rw[Array.size_map]; exact hp),Array.getElem?_map,Array.getElem?_map]
 by_cases h1:i<p
 ·rw[if_pos h1,if_pos h1]
 ·rw[if_neg h1,if_neg h1]
  by_cases h2:i=p
  ·rw[if_pos h2,if_pos h2]; rfl
  ·rw[if_neg h2,if_neg h2]
theorem ins_mem {α:Type}{xs:Array α}{p:Nat}{x y:α} (hp:p<=xs.size):y∈(insertAt xs p x).toList ↔ y=x \/ y∈xs.toList:=by
 constructor
 ·intro h
  obtain⟨i,hi,e⟩:=List.mem_iff_getElem.mp h;have e2:(insertAt xs p x)[i]?=some y:=by rw[<- Array.getElem?_toList,List.getElem?_eq_getElem hi,e]
  rw[zad _ _ _ hp] at e2
  by_cases h1:i<p
  ·rw[if_pos h1,<- Array.getElem?_toList] at e2; exact .inr (List.mem_of_getElem? e2)
  ·rw[if_neg h1] at e2
   by_cases h2:i=p
   ·rw[if_pos h2] at e2; exact .inl (Option.some.inj e2).symm
   ·rw[if_neg h2,<- Array.getElem?_toList] at e2; exact .inr (List.mem_of_getElem? e2)
 ·rintro (rfl | h)
  ·refine List.mem_of_getElem? (i:=p) ?_
   rw[Array.getElem?_toList,zad _ _ _ hp,if_neg (Nat.lt_irrefl _),if_pos rfl]
  ·obtain⟨i,hi,e⟩:=List.mem_iff_getElem.mp h
   have e2:xs[i]?=some y:=by rw[<- Array.getElem?_toList,List.getElem?_eq_getElem hi,e]
   by_cases h1:i<p
   ·refine List.mem_of_getElem? (i:=i) ?_
    rw[Array.getElem?_toList,zad _ _ _ hp,if_pos h1]; exact e2
   ·refine List.mem_of_getElem? (i:=i+1) ?_
    rw[Array.getElem?_toList,zad _ _ _ hp,if_neg (by omega),if_neg (by omega),Nat.add_sub_cancel]; exact e2
theorem zj1 {B:List Addr}{S:Addr}{o:Obj}{es:Array (Int×Value)}{ep:Nat}{t:SetTable}{ks:List (List K)} (X:TS knd s.heap S o es ep t ks B) (hu:A.units<cLine) (hv:∀k v n,knd.is k v=true->hashByValue n v=pure true)
  {k:List K} {b:Addr} (hk:IsTupleKey knd s.heap k b) (hbB:b∈B) (hn:ks.length<60) {Q:Bool->Shared->Prop}
  (h:∀(r:Bool) h' o' es' ep' t',TS knd h' S o' es' ep' t' (if k∈ks then ks else ks++[k]) B->Heap.SameBut S s.heap h'->Q r { s with heap:=h' }):wpAny (model prog w) A (setAddHashed S (.ref b) (tupleKeyHash knd k)) Q E s:=by
 unfold setAddHashed;refine wpAny_holding ?_;have T:=X.tb;have fit:=fits_of T;have X':TS knd s.heap S o es ep t ks B:=X;unfold setAddHashedIn;refine wpAny_bind (wpAny_setState_of (s:=s) X.at_ X.dt fit ?_);dsimp only;have nb:byScan (.ref b) es=false:=rfl;rw[nb];simp only[Bool.false_eq_true,if_false];obtain⟨ne,hne,he,hm⟩:=zfB T (tupleKeyHash knd k);refine wpAny_bind ?_;unfold setSearch;refine zhc (s:=s) X' hu hk hne he hm (fun hin r0 _=>?_) (fun hout=>?_) 100000 0 none ?_ (Nat.zero_le _) rfl (fun m i c hm'=>absurd hm' (Nat.not_lt_zero _))
 ·dsimp only
  refine wpAny_pure (h false s.heap o es ep t ?_ (Heap.SameBut.refl ..));rw[if_pos hin];exact X
 ·dsimp only
  refine wpAny_bind (wpAny_setState_of (s:=s) X.at_ X.dt fit ?_);dsimp only;have hroom:(es.map (·.1)).size+1<=t.mask:=by
   rw[Array.size_map];rcases X.msk with ⟨a,b⟩ | ⟨a,b⟩ | ⟨a,b⟩ | ⟨a,b⟩ | ⟨a,b⟩ | ⟨a,b⟩ <;> omega
  obtain⟨p1,p2,p3⟩:=zkG T he hm hroom;rw[Array.size_map] at p1;obtain⟨t1,p,eput⟩:∃t1 p,t.put (pos t.mask (tupleKeyHash knd k) ne)=(t1,p):=⟨_,_,rfl⟩;rw[eput] at p1 p2 p3 ⊢;dsimp only at p1 p2 p3 ⊢;have hnin:k∉ks:=hout;have hsz2:(insertAt es p (tupleKeyHash knd k,Value.ref b)).size=es.size+1:=zbX _ _ _ p1;have hlen:=X.sz;have hle:es.size<60:=by omega
  have hst:∀t2:SetTable,Tb t2 (insertAt (es.map (·.1)) p (tupleKeyHash knd k))->t2.mask=t.mask->wpAny (model prog w) A (storeSet S (insertAt es p (tupleKeyHash knd k,Value.ref b)) t2)
    (fun _ s'=>∃h',s'={ s with heap:=h' }/\h'.get? S=some { o with data:=.set (insertAt es p (tupleKeyHash knd k,Value.ref b)) (ep+1) t2 }/\Heap.SameBut S s.heap h') E s:=fun t2 T2 m2=>
   wpAny_storeSet_of (s:=s) X.at_ X.dt ⟨_,rfl,zcF X.at_ X.dt,Heap.SameBut.update ..⟩ (by rw[hsz2,sizeLine_eq]; omega)
  have emap:(insertAt es p (tupleKeyHash knd k,Value.ref b)).map (·.1)=insertAt (es.map (·.1)) p (tupleKeyHash knd k):=ins_map (·.1) es p _ p1;have knd2:(ks++[k]).Nodup:=by
   rw[List.nodup_append];refine⟨X.nd,by simp,fun x hx y hy=>?_⟩;rw[List.mem_singleton.mp hy];exact fun z=>hnin (z ▸ hx)
  have els:∀h',Heap.SameBut S s.heap h'->∀e∈(insertAt es p (tupleKeyHash knd k,Value.ref b)).toList,∃k' b',k'∈ks++[k]/\e=(tupleKeyHash knd k',Value.ref b')/\IsTupleKey knd h' k' b':=fun h' hsb e he=>by
   rcases (ins_mem p1).mp he with rfl | he
   ·exact⟨k,b,by simp,rfl,zaJ hk X.at_ X.dt hsb⟩
   ·obtain⟨k',b',a1,a2,a3⟩:=X.el e he
    exact⟨k',b',List.mem_append_left _ a1,a2,zaJ a3 X.at_ X.dt hsb⟩
  have kes:∀h',Heap.SameBut S s.heap h'->∀k'∈ks++[k],∃b',(tupleKeyHash knd k',Value.ref b')∈(insertAt es p (tupleKeyHash knd k,Value.ref b)).toList/\IsTupleKey knd h' k' b':=fun h' hsb k' hk'=>by
   rcases List.mem_append.mp hk' with hk' | hk'
   ·obtain⟨b',a1,a2⟩:=X.ke k' hk'
    exact⟨b',(ins_mem p1).mpr (.inr a1),zaJ a2 X.at_ X.dt hsb⟩
   ·rw[List.mem_singleton.mp hk']
    exact⟨b,(ins_mem p1).mpr (.inl rfl),zaJ hk X.at_ X.dt hsb⟩
  have ads:∀e∈(insertAt es p (tupleKeyHash knd k,Value.ref b)).toList,∃b'∈B,e.2=Value.ref b':=fun e he=>by
   rcases (ins_mem p1).mp he with rfl | he
   ·exact⟨b,hbB,rfl⟩
   ·exact X.ad e he
  have hlast:∀(t2:SetTable) (h':Heap),Tb t2 (insertAt (es.map (·.1)) p (tupleKeyHash knd k))->t2.mask=t.mask->(w.params.followText "set-order"=true \/ (t2.led=true/\t2.plain=true))->h'.get? S=some { o with data:=.set (insertAt es p (tupleKeyHash knd k,Value.ref b)) (ep+1) t2 }->Heap.SameBut S s.heap h'->
    wpAny (model prog w) A (if (!false && t2.tooFull)=true then (setRelay S (SetTable.grown (es.size+1)) >>= fun _=>pure true) else pure true) Q E { s with heap:=h' }:=fun t2 h' T2 m2 wk2 hg hsb=>by
   have T2':Tb t2 ((insertAt es p (tupleKeyHash knd k,Value.ref b)).map (·.1)):=by rw[emap]; exact T2
   have fl:t2.fill=es.size+1:=by
    unfold SetTable.fill;rw[T2'.dum,T2'.size,Array.size_map,hsz2]
    rfl
   have tf:t2.tooFull=decide ((es.size+1)*5 ≥ t.mask*3):=by unfold SetTable.tooFull; rw[fl,m2]
   have lk:es.size+1=(ks++[k]).length:=by rw[List.length_append,hlen]; rfl
   have stay:((es.size+1)*5<t.mask*3)->((t2.mask=7/\es.size+1<=4) \/ (t2.mask=31/\es.size+1<=18) \/ (t2.mask=127/\es.size+1<=76) \/ (t2.mask=15/\es.size+1<=8) \/ (t2.mask=63/\es.size+1<=37) \/ (t2.mask=255/\es.size+1<=152))->wpAny (model prog w) A (if (!false && t2.tooFull)=true then (setRelay S (SetTable.grown (es.size+1)) >>= fun _=>pure true) else pure true) Q E { s with heap:=h' }:=fun q mk=>by
    rw[tf,decide_eq_false (by omega)];simp only[Bool.and_false,Bool.false_eq_true,if_false];refine wpAny_pure (h true h' { o with data:=.set (insertAt es p (tupleKeyHash knd k,Value.ref b)) (ep+1) t2 } (insertAt es p (tupleKeyHash knd k,Value.ref b)) (ep+1) t2 ?_ hsb);rw[if_neg hnin];exact⟨hg,X.ex,rfl,T2',by rw[hsz2]; exact lk,knd2,els h' hsb,kes h' hsb,by rw[hsz2]; exact mk,ads,wk2⟩
   have grow:∀m3 n,es.size+1=n->((es.size+1)*5 ≥ t.mask*3)->SetTable.sizeAbove (SetTable.grown n) - 1=m3->SetTable.sizeAbove (SetTable.grown n)<=1000->Cov m3->m3 % 2=1->es.size+1<=m3->((m3=7/\es.size+1<=4) \/ (m3=31/\es.size+1<=18) \/ (m3=127/\es.size+1<=76) \/ (m3=15/\es.size+1<=8) \/ (m3=63/\es.size+1<=37) \/ (m3=255/\es.size+1<=152))->
     wpAny (model prog w) A (if (!false && t2.tooFull)=true then (setRelay S (SetTable.grown (es.size+1)) >>= fun _=>pure true) else pure true) Q E { s with heap:=h' }:=fun m3 n en q w1 w2 c1 c2 c3 mk=>by
    rw[tf,decide_eq_true q];simp only[Bool.not_false,Bool.and_self,if_true];subst en;refine wpAny_bind (zhS (s:={ s with heap:=h' }) (ks:=ks++[k]) hg X.ex rfl T2' (by rw[hsz2]; exact lk) knd2 ads (els h' hsb) (kes h' hsb) w1 (by rw[sizeLine_eq]; omega) c1 c2 (by rw[hsz2]; exact c3) (by rw[hsz2]; omega) (by rw[hsz2]; exact mk) wk2 fun h'' o'' es'' ep'' t'' X'' hsb2=>?_);refine wpAny_pure (h true h'' o'' es'' ep'' t'' ?_ (hsb.trans hsb2));rw[if_neg hnin];exact X''
   rcases X.msk with ⟨a,c⟩ | ⟨a,c⟩ | ⟨a,c⟩ | ⟨a,c⟩ | ⟨a,c⟩ | ⟨a,c⟩
   ·by_cases q:es.size+1<=4
    ·exact stay (by omega) (.inl ⟨by omega,q⟩)
    ·exact grow 31 5 (by omega) (by omega) (by decide +kernel) (by decide +kernel) cov31 rfl (by omega) (.inr (.inl ⟨rfl,by omega⟩))
   ·by_cases q:es.size+1<=18
    ·exact stay (by omega) (.inr (.inl ⟨by omega,q⟩))
    ·exact grow 127 19 (by omega) (by omega) (by decide +kernel) (by decide +kernel) cov127 rfl (by omega) (.inr (.inr (.inl ⟨rfl,by omega⟩)))
   ·exact stay (by omega) (.inr (.inr (.inl ⟨by omega,by omega⟩)))
   ·by_cases q:es.size+1<=8
    ·exact stay (by omega) (.inr (.inr (.inr (.inl ⟨by omega,q⟩))))
    ·exact grow 63 9 (by omega) (by omega) (by decide +kernel) (by decide +kernel) cov63 rfl (by omega) (.inr (.inr (.inr (.inr (.inl ⟨rfl,by omega⟩)))))
   ·by_cases q:es.size+1<=37
    ·exact stay (by omega) (.inr (.inr (.inr (.inr (.inl ⟨by omega,q⟩)))))
    ·exact grow 255 38 (by omega) (by omega) (by decide +kernel) (by decide +kernel) cov255 rfl (by omega) (.inr (.inr (.inr (.inr (.inr ⟨rfl,by omega⟩)))))
   ·exact stay (by omega) (.inr (.inr (.inr (.inr (.inr ⟨by omega,by omega⟩)))))
  have wk1:w.params.followText "set-order"=true \/ (t1.led=true/\t1.plain=true):=by
   have e1:t1=(t.put (pos t.mask (tupleKeyHash knd k) ne)).1:=by rw[eput]
   have e2:t1.led=t.led:=by rw[e1]; rfl
   have e3:t1.plain=t.plain:=by rw[e1]; rfl
   rw[e2,e3];exact X.wk
  cases hpl:t1.plain with
  | true=>
   simp only[if_true];refine wpAny_bind (zlw (s:=s) hv hk ?_);simp only[if_true];refine wpAny_bind (wpAny_mono (hst t1 p3 p2) (fun _ s' hs'=>?_) fun _ _ e=>e);obtain⟨h',rfl,g1,g2⟩:=hs';exact hlast t1 h' p3 p2 wk1 g1 g2
  | false=>
   simp only[Bool.false_eq_true,if_false];refine wpAny_bind (wpAny_pure ?_);simp only[if_true];refine wpAny_bind (wpAny_mono (hst t1 p3 p2) (fun _ s' hs'=>?_) fun _ _ e=>e);obtain⟨h',rfl,g1,g2⟩:=hs';exact hlast t1 h' p3 p2 wk1 g1 g2
 ·have:t.mask<=255:=by rcases X.msk with ⟨a,_⟩ | ⟨a,_⟩ | ⟨a,_⟩ | ⟨a,_⟩ | ⟨a,_⟩ | ⟨a,_⟩ <;> omega
  unfold turns at hne;omega
theorem zll {B:List Addr}{S:Addr}{o:Obj}{es:Array (Int×Value)}{ep:Nat}{t:SetTable}{ks:List (List K)} (X:TS knd s.heap S o es ep t ks B) (hu:A.units<cLine) (hv:∀k v n,knd.is k v=true->hashByValue n v=pure true)
  {k:List K} {b:Addr} (hk:IsTupleKey knd s.heap k b) (hbB:b∈B) (hn:ks.length<60) {Q:Bool->Shared->Prop}
  (h:∀(r:Bool) h' o' es' ep' t',TS knd h' S o' es' ep' t' (if k∈ks then ks else ks++[k]) B->Heap.SameBut S s.heap h'->Q r { s with heap:=h',toks:=s.toks+(k.length+1) }):wpAny (model prog w) A (setAdd S (.ref b)) Q E s:=by
 unfold setAdd;exact wpAny_holding (wpAny_bind (wpAny_pyHash_tuple hu hk (zj1 (s:={ s with toks:=s.toks+(k.length+1) }) X hu hv hk hbB hn h)))
end
end STb
end
section
namespace STb
def dd {α:Type} [DecidableEq α] (l:List α):List α:=l.foldl (fun acc x=>if x∈acc then acc else acc++[x]) []
theorem zck {α:Type} [DecidableEq α] (l:List α) (x:α):dd (l++[x])=if x∈dd l then dd l else dd l++[x]:=by unfold dd; rw[List.foldl_append]; rfl
theorem zbp {α:Type} [DecidableEq α] (l:List α):(dd l).length<=l.length:=by
 have:∀(l acc:List α),(l.foldl (fun acc x=>if x∈acc then acc else acc++[x]) acc).length<=acc.length+l.length:=by
  intro l
  induction l with
  | nil=>intro acc; simp
  | cons x l ih=>
   intro acc;rw[List.foldl_cons];refine Nat.le_trans (ih _) ?_;split
   ·rw[List.length_cons]; omega
   ·rw[List.length_append,List.length_cons,List.length_cons,List.length_nil]; omega
 simpa[dd] using this l []
theorem zaC {α:Type} [DecidableEq α] (l:List α) (x:α):x∈dd l ↔ x∈l:=by
 have:∀(l acc:List α),x∈(l.foldl (fun acc x=>if x∈acc then acc else acc++[x]) acc) ↔ x∈acc \/ x∈l:=by
  intro l
  induction l with
  | nil=>intro acc; simp
  | cons y l ih=>
   intro acc;rw[List.foldl_cons,ih]
   by_cases h:y∈acc
   ·rw[if_pos h,List.mem_cons]
    constructor
    ·rintro (q | q)
     ·exact .inl q
     ·exact .inr (.inr q)
    ·rintro (q | q | q)
     ·exact .inl q
     ·subst q; exact .inl h
     ·exact .inr q
   ·rw[if_neg h,List.mem_append,List.mem_singleton,List.mem_cons]
    constructor
    ·rintro ((q | q) | q)
     ·exact .inl q
     ·exact .inr (.inl q)
     ·exact .inr (.inr q)
    ·rintro (q | q | q)
     ·exact .inl (.inl q)
     ·exact .inl (.inr q)
     ·exact .inr q
 simpa[dd] using this l []
theorem zba {α:Type} [DecidableEq α] (l:List α):(dd l).Nodup:=by
 have:∀(l acc:List α),acc.Nodup->(l.foldl (fun acc x=>if x∈acc then acc else acc++[x]) acc).Nodup:=by
  intro l
  induction l with
  | nil=>intro acc h; exact h
  | cons y l ih=>
   intro acc h;rw[List.foldl_cons]
   by_cases q:y∈acc
   ·rw[if_pos q]; exact ih acc h
   ·rw[if_neg q]
    refine ih _ ?_;rw[List.nodup_append];refine⟨h,by simp,fun a ha b hb e=>?_⟩;rw[List.mem_singleton] at hb;subst hb; subst e; exact q ha
 exact this l [] List.nodup_nil
theorem zdo {α:Type} [DecidableEq α] (l m:List α):(dd (l++m)).length<=(dd l).length+m.length:=by
 have:∀(m acc:List α),(m.foldl (fun acc x=>if x∈acc then acc else acc++[x]) acc).length<=acc.length+m.length:=by
  intro m
  induction m with
  | nil=>intro acc; simp
  | cons x l ih=>
   intro acc;rw[List.foldl_cons];refine Nat.le_trans (ih _) ?_;split
   ·rw[List.length_cons]; omega
   ·rw[List.length_append,List.length_cons,List.length_cons,List.length_nil]; omega
 unfold dd;rw[List.foldl_append];exact this m _
theorem ziu {α:Type} [DecidableEq α] (l:List α) (h:∀(k:Nat) x,l[k]?=some x->x∉l.take k):dd l=l:=by
 have:∀k,k<=l.length->dd (l.take k)=l.take k:=by
  intro k
  induction k with
  | zero=>intro _; rfl
  | succ k ih=>
   intro hk;have hx:l[k]?=some l[k]:=List.getElem?_eq_getElem (by omega);rw[List.take_add_one,hx];show dd (l.take k++[l[k]])=_;rw[zck,ih (by omega),if_neg (h k _ hx)]
   rfl
 have q:=this l.length (Nat.le_refl _);rw[List.take_of_length_le (Nat.le_refl _)] at q;exact q
theorem ziw {α:Type} [DecidableEq α] (l:List α) {k:Nat}{x:α} (h:l[k]?=some x) (hx:x∈l.take k):(dd l).length<l.length:=by
 have hk:k<l.length:=(List.getElem?_eq_some_iff.mp h).1;have e:l=(l.take k++[x])++l.drop (k+1):=by
  have:=List.take_append_drop (k+1) l;rw[List.take_add_one,h] at this;exact this.symm
 have h1:=zdo (l.take k++[x]) (l.drop (k+1));rw[<- e,zck,if_pos ((zaC _ _).mpr hx)] at h1;have h2:=zbp (l.take k);rw[List.length_take] at h2;rw[List.length_drop] at h1;omega
theorem zkK {α:Type} [DecidableEq α] (l:List α):(dd l).length<l.length ↔ ∃(k:Nat) (x:α),l[k]?=some x/\x∈l.take k:=by
 constructor
 ·intro h
  apply Classical.byContradiction;intro n;have:=ziu l fun k x e hx=>n ⟨k,x,e,hx⟩;rw[this] at h;exact Nat.lt_irrefl _ h
 ·rintro⟨k,x,e,hx⟩
  exact ziw l e hx
end STb
end
section
set_option maxHeartbeats 3200000
namespace STb
open PySem PySem.SetTable PyProof.Rows
section
variable {prog:Program}{w:World}{K:Type} [DecidableEq K] {knd:KeyKind prog w K}{A:Around}{R:Result->Shared->Prop}{I:Addr}{fp wr:List Addr}{G:Array GenState->Array GenState->Prop}{n:Nat}{P:Nat->Value->Prop}{St:Nat->Shared->Prop}
theorem TS.moved {B:List Addr}{h h':Heap}{S:Addr}{o:Obj}{es:Array (Int×Value)}{ep:Nat}{t:SetTable}{ks:List (List K)} (X:TS knd h S o es ep t ks B) (hS:h'.get? S=some o) (hk:∀k b,IsTupleKey knd h k b->IsTupleKey knd h' k b):TS knd h' S o es ep t ks B:=
 ⟨hS,X.ex,X.dt,X.tb,X.sz,X.nd,fun e he=>let ⟨k,b,a1,a2,a3⟩:=X.el e he; ⟨k,b,a1,a2,hk k b a3⟩,fun k hk'=>let ⟨b,a1,a2⟩:=X.ke k hk'; ⟨b,a1,hk k b a2⟩,X.msk,X.ad,X.wk⟩
theorem zii {h h':Heap}{k:List K}{b:Addr} (hk:IsTupleKey knd h k b) (e:∀o,h.get? b=some o->h'.get? b=some o):IsTupleKey knd h' k b:=by
 obtain⟨o,items,n,ho,r⟩:=hk;exact⟨o,items,n,e o ho,r⟩
theorem zim {B:List Addr} (W:WalksS prog w A.in1 I fp wr G n P St) (hu:A.in1.units<cLine) (hv:∀k v n,knd.is k v=true->hashByValue n v=pure true) (S:Addr) (hSf:S∉fp) (vals:List (List K)) (adr:Nat->Addr) (hn:vals.length=n) (hB:∀i,i<n->adr i∈B) (hz:n<=59)
  (hval:∀i v,P i v->v=.ref (adr i)) (hna:∀b o,(∃items m,o.cls=Value.type "tuple"/\o.data=.seq items m)->∀s i,St i s->s.heap.get? b=some o->b∉wr) :
  ∀(k i:Nat) (s:Shared),n - i=k->i<=n->St i s->(∃o es ep t,TS knd s.heap S o es ep t (dd (vals.take i)) B)->(∀(j:Nat) (x:List K),vals[j]?=some x->IsTupleKey knd s.heap x (adr j))->
   (∀s',Moved (S::wr) G s s'->(∃o es ep t,TS knd s'.heap S o es ep t (dd vals) B)->R (.ok (.ret .none)) s')->codeAny (model prog w) A (.builtin "set.update.loop" ⟨[.ref S,.ref I],[]⟩) R s:=by
 have hSw:S∉wr:=fun h=>hSf (W.sub _ h);have hsub:∀b∈wr,b∈S::wr:=fun b hb=>List.mem_cons_of_mem _ hb;have kmove:∀{i:Nat} {s s':Shared} {x:List K} {b:Addr},St i s->Moved wr G s s'->IsTupleKey knd s.heap x b->IsTupleKey knd s'.heap x b:=fun {i s s' x b} hst hm hk=>by
  obtain⟨o,items,m,ho,hc,hd,hi⟩:=id hk;exact⟨o,items,m,hm.heap b o (hna b o ⟨items,m,hc,hd⟩ s i hst ho) ho,hc,hd,hi⟩
 intro k
 induction k with
 | zero=>
  intro i s hk hi hst hS hT hR;have hin:i=n:=by omega
  subst hin;refine codeAny_builtin F.entry_set_update_loop ?_;rw[Around.under_plainId F.plain_set_update_loop _];show wpAny _ A.in1 (pyNext (.ref I) >>= _) _ _ s;refine wpAny_bind (W.done s _ _ hst fun s' hm=>?_);show wpAny _ A.in1 (ret Value.none) _ _ s';refine wpAny_pure (hR s' (hm.mono hsub) ?_);obtain⟨o,es,ep,t,X⟩:=hS;rw[List.take_of_length_le (by omega)] at X;exact⟨o,es,ep,t,X.moved (hm.heap S _ hSw X.at_) fun k b hk=>kmove hst hm hk⟩
 | succ k ih=>
  intro i s hk hi hst hS hT hR;have hlt:i<n:=by omega
  refine codeAny_builtin F.entry_set_update_loop ?_;rw[Around.under_plainId F.plain_set_update_loop _];show wpAny _ A.in1 (pyNext (.ref I) >>= _) _ _ s;refine wpAny_bind (W.item i s _ _ hlt hst fun v s' hP hst' hm=>?_);obtain rfl:=hval i v hP;obtain⟨o,es,ep,t,X⟩:=hS;have X':TS knd s'.heap S o es ep t (dd (vals.take i)) B:=X.moved (hm.heap S _ hSw X.at_) fun k b hk=>kmove hst hm hk;have hx:vals[i]?=some vals[i]:=List.getElem?_eq_getElem (by omega);have hlen:=zbp (vals.take i);rw[List.length_take] at hlen;show wpAny _ A.in1 (holding [Value.ref (adr i)] (setAdd S (.ref (adr i))) >>= _) _ _ s';refine wpAny_bind (wpAny_holding (zll X' hu hv (kmove hst hm (hT i _ hx)) (hB i hlt) (by omega) fun r h' o' es' ep' t' X2 hsb=>?_));have htk:s'.toks<=s'.toks+(vals[i].length+1):=Nat.le_add_right _ _;have st2:St (i+1) { s' with heap:=h',toks:=s'.toks+(vals[i].length+1) }:=W.frame _ s' _ _ hst' htk fun b hb o2 e=>by
   rw[hsb.2 b (fun h:b=S=>hSf (by rw[<- h]; exact hb))]; exact e
  have etake:vals.take (i+1)=vals.take i++[vals[i]]:=by rw[List.take_add_one,hx]; rfl
  have X3:TS knd h' S o' es' ep' t' (dd (vals.take (i+1))) B:=by
   rw[etake,zck]
   by_cases q:vals[i]∈dd (vals.take i)
   ·rw[if_pos q] at X2 ⊢; exact X2
   ·rw[if_neg q] at X2 ⊢; exact X2
  refine wpAny_pure ⟨plainId_quiet F.plain_set_update_loop _,ih (i+1) _ (by omega) hlt st2 ⟨o',es',ep',t',X3⟩ (fun j x hj=>zaJ (kmove hst hm (hT j x hj)) X'.at_ X'.dt hsb) fun s'' hm'' hS''=>?_⟩;refine hR s'' (Moved.trans W.gtrans ((hm.mono hsub).then_heap htk fun b o2 hb e=>?_) hm'') hS'';rw[hsb.2 b (fun h:b=S=>hb (by rw[h]; exact List.mem_cons_self))]; exact e
end
end STb
end
section
namespace STb
open PySem PySem.SetTable PyProof.Rows
section
variable {prog:Program}{w:World}{K:Type} [DecidableEq K] {knd:KeyKind prog w K}{A:Around}{E:Value->Shared->Prop}{s:Shared}
theorem zhG (a:Value) {Q₁:Value->Shared->Prop} (h:Q₁ (.ref s.heap.objs.size) { s with heap:=s.heap.push { cls:=.type "set",dict:=none,data:=.set #[] 0 (.fresh 0 0 (!w.params.followText "set-order")) } }) :
  codeAny (model prog w) A (.call (.builtin "set.__new__") ⟨[.type "set",a],[]⟩) (wants Q₁ E) s:=by
 refine codeAny_of_tree (show wpAny _ A.in1 (do checkBuiltinCall "set.__new__" ⟨[.type "set",a],[]⟩; again (.builtin "set.__new__" ⟨[.type "set",a],[]⟩)) _ _ s from wpAny_bind (wpAny_of_eq (F.newCall_set_1 a) (wpAny_pure ⟨plainId_quiet F.plain_set_new _,codeAny_builtin F.entry_set_new ?_⟩)));rw[Around.under_plainId F.plain_set_new _]; unfold Builtin.«set.__new__» Builtin.Frozenset.newClass;have hsub:=sub_set_self; obtain⟨hp,g,d,tk,os⟩:=s;dsimp only; wp_walk;refine wpAny_askSetting (wpAny_pure ?_); dsimp only; simp only[newObj];exact wpAny_bind (wpAny_alloc (wpAny_pure (wpAny_pure h)))
theorem zb8 {B:List Addr}{l:Addr}{items:Array Value}{vals:List (List K)}{adr:Nat->Addr}{Q:Value->Shared->Prop}
  (hh:A.handled=none) (hl:s.heap.IsList l items) (hu:A.units+64<cLine) (hv:∀k v n,knd.is k v=true->hashByValue n v=pure true) (hz:items.size<=59) (hn:vals.length=items.size) (hB:∀i,i<items.size->adr i∈B)
  (hit:∀(i:Nat) v,items[i]?=some v->v=.ref (adr i)) (hT:∀(j:Nat) x,vals[j]?=some x->IsTupleKey knd s.heap x (adr j))
  (h:∀h' tk,(∃o es ep t,TS knd h' s.heap.objs.size o es ep t (dd vals) B)->(∀b o,b<s.heap.objs.size->s.heap.get? b=some o->h'.get? b=some o)->Q (.ref s.heap.objs.size) { s with heap:=h',toks:=tk }) :
  wpAny (model prog w) A (call (.type "set") [.ref l]) Q E s:=by
 obtain⟨c,tl,hmro⟩:=F.called_set.mro;have hmade:=F.called_set.made;have hsub:=F.called_set.sub;refine wpAny_call (codeAny_of_tree ?_);show wpAny _ _ (callAny (.type "set") _) _ _ _;refine wpAny_pure ⟨Code.quiet_builtin _ (by decide +kernel),codeAny_builtin F.entry_type_call ?_⟩;rw[Around.under_plain (weight_type_call_type "set" [.ref l] []) rfl];have h1:=F.called_set.notType;have h2:=F.called_set.canCreate;have hct:=F.typeCall_set_1 (.ref l)
 repeat (any_goals (first | assumption | wp_step))
 refine codeAny_mono (zhG (.ref l) (E:=E) (Q₁:=fun obj s₁=>∃led:Bool,(w.params.followText "set-order"=true \/ led=true)/\obj=.ref s.heap.objs.size/\s₁={ s with heap:=s.heap.push { cls:=.type "set",dict:=none,data:=.set #[] 0 (.fresh 0 0 led) } }) ⟨_,by cases w.params.followText "set-order" <;> simp,rfl,rfl⟩) fun r s₁ hr=>?_;cases r with
 | error e=>exact hr
 | ok fl=>
  cases fl with
  | ret obj=>
   obtain⟨led,hled,rfl,rfl⟩:=hr;have hS:(s.heap.push { cls:=.type "set",dict:=none,data:=.set #[] 0 (.fresh 0 0 led) }).get? s.heap.objs.size=some { cls:=.type "set",dict:=none,data:=.set #[] 0 (.fresh 0 0 led) }:=Heap.get?_push_size _ rfl;have hTy:Shared.TypeIs { s with heap:=s.heap.push { cls:=.type "set",dict:=none,data:=.set #[] 0 (.fresh 0 0 led) } } (.ref s.heap.objs.size) "set":=⟨_,hS,rfl⟩;have hli:=F.called_set.init.lookup;have hbi:=F.called_set.init.bind (.ref s.heap.objs.size)
   repeat (any_goals (first | assumption | wp_step))
   refine codeAny_mono (codeAny_call_builtin (R:=wants (fun r s₂=>r=.none/\∃h' tk,s₂={ s with heap:=h',toks:=tk }/\
     (∃o es ep t,TS knd h' s.heap.objs.size o es ep t (dd vals) B)/\
     (∀b o,b<s.heap.objs.size->s.heap.get? b=some o->h'.get? b=some o)) E) F.called_set.init.plain F.entry_set_init (check_set_init_1 hTy ?_)) fun r₂ s₂ hr₂=>?_
   ·obtain⟨ol,hol,hcl,nl,hdl⟩:=hl
    obtain⟨ocls,odict,odata,oslots⟩:=ol;simp only at hcl hdl;subst hcl; subst hdl;have hol':(s.heap.push { cls:=.type "set",dict:=none,data:=.set #[] 0 (.fresh 0 0 led) }).get? l=some { cls:=.type "list",dict:=odict,data:=.seq items nl,slots:=oslots }:=Heap.get?_push_of_some _ hol;have hsls:=F.sub_list_set;have hslf:=F.sub_list_frozenset;have hne:(Value.type "list" == Value.type "dict")=false:=by decide
    have hl1:(s.heap.push { cls:=.type "set",dict:=none,data:=.set #[] 0 (.fresh 0 0 led) }).IsList l items:=⟨_,hol',rfl,nl,rfl⟩;unfold Builtin.«set.__init__» noKeywords Builtin.Frozenset.updateFrom;generalize hPI:pyIter=PI
    wp_walk
    subst hPI;refine wpAny_pyIter_list hl1 ?_;refine wpAny_bind (wpAny_runValue ?_);have hlS:l<s.heap.objs.size:=Heap.lt_size hol;have hh3:A.in1.in1.in1.handled=none:=by simp[hh]
    have hneI:l≠(s.heap.push { cls:=.type "set",dict:=none,data:=.set #[] 0 (.fresh 0 0 led) }).objs.size:=by
     rw[Heap.size_push]; exact Nat.ne_of_lt (Nat.lt_succ_of_lt hlS)
    have hSf:s.heap.objs.size∉[(s.heap.push { cls:=.type "set",dict:=none,data:=.set #[] 0 (.fresh 0 0 led) }).objs.size,l]:=by
     rw[Heap.size_push]; simp only[List.mem_cons,List.mem_singleton,List.not_mem_nil,or_false,not_or];exact⟨Nat.ne_of_lt (Nat.lt_succ_self _),Nat.ne_of_gt hlS⟩
    refine zim (knd:=knd) ((Walks.list hh3 _ l hneI items).toS) (by show A.units+1+1+1<cLine; omega) hv s.heap.objs.size hSf vals adr hn hB hz (fun i v q=>hit i v q) (fun b o ho s' i st e hb=>?hna)
     (items.size - 0) 0 _ (by omega) (Nat.zero_le _) ⟨⟨_,Heap.get?_push_size _ rfl,rfl,rfl⟩,(hl1.push _)⟩ ⟨{ cls:=.type "set",dict:=none,data:=.set #[] 0 (.fresh 0 0 led) },#[],0,.fresh 0 0 led,?hS0⟩ (fun j x hx=>zii (hT j x hx) fun o e=>Heap.get?_push_of_some _ (Heap.get?_push_of_some _ e)) ?hR
    case hna=>
     obtain⟨⟨oi,e1,e2,_⟩,_⟩:=st;obtain⟨its,m,hc,_⟩:=ho;simp only[List.mem_singleton] at hb;subst hb;have e3:=Option.some.inj (e1.symm.trans e);rw[<- e3,e2] at hc;exact absurd hc (by decide)
    case hS0=>
     have hget:((s.heap.push { cls:=.type "set",dict:=none,data:=.set #[] 0 (.fresh 0 0 led) }).push { cls:=.type "list_iterator",data:=.fields #[.ref l,.int 0 0] }).get? s.heap.objs.size
      =some { cls:=.type "set",dict:=none,data:=.set #[] 0 (.fresh 0 0 led) }:=Heap.get?_push_of_some _ hS
     exact⟨hget,⟨rfl,rfl,rfl⟩,rfl,(by simpa using zir 0 0 led),rfl,List.nodup_nil,fun e he=>by simp at he,fun k hk=>by simp[dd] at hk,.inl ⟨rfl,Nat.zero_le _⟩,(fun e he=>by simp at he),hled.imp id fun z=>⟨z,rfl⟩⟩
    case hR=>
     intro s' hm hS';obtain⟨h',g',d',tk',os'⟩:=s';have eg:g'=s.gens:=hm.gens;have ed:d'=s.drawn:=hm.drawn;have eo:os'=s.os:=hm.os;subst eg; subst ed; subst eo;show wpAny _ _ _ _ _ _;refine wpAny_pure ?_;show wpAny _ _ (ret Value.none) _ _ _;refine wpAny_pure ⟨rfl,h',tk',rfl,hS',fun b o hb e=>?_⟩;have hb1:b≠s.heap.objs.size:=Nat.ne_of_lt hb;have hb2:b≠(s.heap.push { cls:=.type "set",dict:=none,data:=.set #[] 0 (.fresh 0 0 led) }).objs.size:=by
      rw[Heap.size_push]; exact Nat.ne_of_lt (Nat.lt_succ_of_lt hb)
     exact hm.heap b o (by simp only[List.mem_cons,List.mem_singleton,List.not_mem_nil,or_false,not_or]; exact⟨hb1,hb2⟩) (Heap.get?_push_of_some _ (Heap.get?_push_of_some _ e))
   ·cases r₂ with
    | error e=>exact hr₂
    | ok fl₂=>
     cases fl₂ with
     | ret r=>
      obtain⟨rfl,h',tk,rfl,hS',hk'⟩:=hr₂
      repeat (any_goals (first | assumption | wp_step))
      exact h _ _ hS' hk'
     | _=>exact hr₂.elim
  | _=>exact hr.elim
end
end STb
namespace L2
open PySem PySem.Spec PyProof.Rows
def SetN (D:Addr) (n:Nat):HO:=.ext fun h=>∃o es ep t,h.get? D=some o/\o.ExactSet/\o.data=.set es ep t/\t.fits es.size=true/\es.size=n/\n<=100
section
variable {X:Cx}
theorem zjx {prog:Program}{w:World}:∀(k:Int) (v:Value) (n:Nat),(intKind prog w).is k v=true->hashByValue n v=pure true:=by
 intro k v n h;obtain⟨t,rfl⟩:=Value.isInt_shape h;cases n <;> rfl
theorem zaO {prog:Program}{w:World}{h:Heap}{c:Addr}{cs:List Value}{qs:List Int} (hc:IsTup h c cs.toArray) (hi:IntsAre cs qs):IsTupleKey (intKind prog w) h qs c:=by
 obtain⟨o,e,hcl,k,d⟩:=hc;refine⟨o,cs.toArray,k,e,hcl,d,?_⟩;have:∀{cs:List Value} {qs:List Int},IntsAre cs qs->ItemsAre (intKind prog w) qs cs:=by
  intro cs qs hi
  induction hi with
  | nil=>exact .nil
  | cons n t h ih=>exact .cons (by show Value.isInt n (.int n t)=true; simp[Value.isInt]) ih
 simpa using this hi
theorem zdD (hc:X.calm=true) (hu:X.A.units+64<cLine):zbl X (.type "set") (fun xs H Q=>∃(l:Addr) (as:List Addr) (pss:List (List Int)),xs=[.ref l]/\SqL X.K H l (as.map V.ref)/\Tps H as pss/\pss.length<=59/\
  ∀D,H D=none->Q (.ref D) (upd H D (SetN D (STb.dd pss).length))):=by
 intro pins s σ H xs us Q I r h;obtain⟨l,as,pss,rfl,hq,hp,hz,q⟩:=h;obtain⟨u,rfl,ru⟩:=vals1 r;cases ru;obtain⟨its,r1,p1,_⟩:=I.list hq;obtain rfl:=vals_refs r1;have hla:=hp.length;refine STb.zb8 (B:=as) (knd:=intKind X.prog X.w) (vals:=pss) (adr:=fun i=>as.getD i 0) (I.ok.hd hc) p1.isList hu zjx (by rw[List.size_toArray,List.length_map]; omega) (by rw[List.size_toArray,List.length_map]; omega) (fun i hi=>by rw[List.size_toArray,List.length_map] at hi; rw[List.getD_eq_getElem?_getD,List.getElem?_eq_getElem hi]; exact List.getElem_mem hi)
  (fun i v e=>?_) (fun j x e=>?_) fun h' tk ⟨o,es,ep,t,T⟩ kk=>?_
 ·have e':(as.map Value.ref)[i]?=some v:=by simpa using e
  rw[List.getElem?_map] at e';cases ea:as[i]? with
  | none=>rw[ea] at e'; simp at e'
  | some a=>
   rw[ea] at e';rw[<- Option.some.inj e',List.getD_eq_getElem?_getD,ea]
   rfl
 ·have hj:j<as.length:=by rw[hla]; exact (List.getElem?_eq_some_iff.mp e).1
  have ea:as[j]?=some as[j]:=List.getElem?_eq_getElem hj;obtain⟨ps',e1,e2⟩:=hp.get ea;rw[e] at e1;obtain rfl:=Option.some.inj e1;obtain⟨its,r2,p2,_⟩:=I.tuple (SqT.of (K:=X.K) e2);rw[List.getD_eq_getElem?_getD,ea];exact zaO p2 (intsAre_of r2)
 ·have hlen:=STb.zbp pss
  refine⟨.ref s.heap.objs.size,_,I.laid (o:=SetN s.heap.objs.size (STb.dd pss).length) (fun b u e=>kk b u (Heap.lt_size e) e) (Nat.le_refl _) ?_,rfl,q _ (I.hok.fresh (Nat.le_refl _))⟩;refine⟨⟨o,es,ep,t,T.at_,T.ex,T.dt,STb.fits_of T.tb,T.sz,by omega⟩,⟨o,T.at_⟩,fun h1 h2 ⟨o',es',ep',t',g1,g2⟩ kp=>⟨o',es',ep',t',kp _ g1,g2⟩⟩
theorem zc8:zbl X (.builtin "len") (fun xs H Q=>∃D n,xs=[.ref D]/\H D=some (SetN D n)/\Q (.int n) H):=by
 intro pins s σ H xs us Q I r h;obtain⟨D,n,rfl,hq,q⟩:=h;obtain⟨u,rfl,ru⟩:=vals1 r;cases ru;obtain⟨⟨o,es,ep,t,h1,h2,h3,h4,h5,h6⟩,_⟩:=(show zO X.prog X.w H s.heap D (SetN D n) from I.hok D _ hq);exact call_len_set h1 h2 h3 h4 (by omega) ⟨.int n,H,I.tok _,⟨_,by rw[h5]⟩,q⟩
end
end L2
end
section
namespace Spl
open PySem PySem.Spec PySem.Builtin PySem.Builtin.Str PyProof.Rows
section
variable {prog:Program}{w:World}{A:Around}{E:Value->Shared->Prop}{s:Shared}{x y:PySem.Str}{t u:Tok}{Q:Value->Shared->Prop}
theorem split1 (hy:(y.length == 0)=false)
  (h:∀(l:List (PySem.Str×Tok)) k,l.map (·.1)=Txt.split x y->Q (.ref s.heap.objs.size) { s with heap:=s.heap.push { cls:=.type "list",data:=.seq (strValues l).toArray },toks:=k })
  (hsz:x.length+2<=sizeLine):wpAny (model prog w) A (call (.builtin "str.split") [.str x t,.str y u]) Q E s:=by
 have hn:(partsBetween x (occurrences x y 0 x.length (x.length+1)) y.length).length<=sizeLine:=by
  have e1:=StrLaws.occ_length_le x y 0 x.length (x.length+1);rw[length_partsBetween]; omega
 cases h1:(decide (x.length<y.length) || decide (strKind x<strKind y))
 ·cases hf:(occurrences x y 0 x.length (x.length+1)).isEmpty
  ·refine call_meets F.slot_str_split (typeIs_str _ _ _) F.entry_str_split (F.args_str_split_2 _ _) (meets_str_split_sep x y t u h1 hy hf (by omega) hn) ?_
   show wants Q E _ { s with toks:=_,heap:=s.heap.push { cls:=.type "list",data:=.seq (strsFrom s.toks (partsBetween x (occurrences x y 0 x.length (x.length+1)) y.length)).toArray } };rw[strsFrom_eq];exact h (numbered s.toks _) _ ((numbered_texts _ _).trans ((if_neg (ne_true_of_eq_false h1)).trans (if_neg (ne_true_of_eq_false hf))).symm)
  ·exact call_meets F.slot_str_split (typeIs_str _ _ _) F.entry_str_split (F.args_str_split_2 _ _) (meets_str_split_not_found x y t u h1 hy hf)
    (h [(x,t)] s.toks ((if_neg (ne_true_of_eq_false h1)).trans (if_pos hf)).symm)
 ·exact call_meets F.slot_str_split (typeIs_str _ _ _) F.entry_str_split (F.args_str_split_2 _ _) (meets_str_split_cannot_occur x y t u h1)
   (h [(x,t)] s.toks (if_pos h1).symm)
end
end Spl
namespace L2
open PySem PySem.Spec PyProof.Rows
section
variable {X:Cx}
theorem zdY:∀(l:List (PySem.Str×Tok)),Vals ((l.map (·.1)).map V.str) (strValues l)
 | []=>.nil
 | p::l=>.cons ⟨p.2,rfl⟩ (zdY l)
def zln:V->List V->Hp->VK->Prop:=fun x vs H Q=>∃z y,x=.str z/\vs=[.str y]/\(y.length == 0)=false/\z.length+2<=sizeLine/\(Txt.split z y).length<=sizeLine/\∀D,H D=none->Q (.ref D) (upd H D (.lst ((Txt.split z y).map V.str)))
theorem zib:MtM X "str.split" zln:=by
 intro pins s σ H x vs v us Q I rx rv h;obtain⟨z,y,rfl,rfl,hy,hz,hl,q⟩:=h;obtain⟨t,rfl⟩:=rx;obtain⟨u,rfl,ru⟩:=rv.one;obtain⟨t',rfl⟩:=ru;refine Spl.split1 hy (fun l k e=>?_) hz;refine⟨.ref s.heap.objs.size,_,I.laid (t':=k) (o:=.lst ((Txt.split z y).map V.str)) (fun b ob q=>Heap.get?_push_of_some _ q) (Nat.le_refl _) ?_,rfl,q _ (I.hok.fresh (Nat.le_refl _))⟩;refine⟨by rw[List.length_map]; exact hl,strValues l,0,?_,Heap.get?_push_size _ rfl⟩;rw[<- e];exact zdY l
def Its (x:PySem.Str):It:=⟨fun i _=>i<x.cps.size,fun i H v H'=>H'=H/\∃c,x.cps[i]?=some c/\v=.str ⟨#[c]⟩,fun i _=>i=x.cps.size⟩
theorem zfw {P:Program}{w:World}{K:PySem.W.Frag}{tg:Expr} (x:PySem.Str) (it:Addr) (T:String) (hn:["enumerate","zip","dict_itemiterator","dict_reverseitemiterator","odict_iterator","itertools.zip_longest","itertools.pairwise"].contains T=false) (t:Tok)
  (W:∀A':Around,A'.handled=none->Walks P w A' it [it] [it] x.cps.size (SignAt x) (fun i h=>h.IsStrIter it T x t i))
  (slf:∀(A:Around) (i:Nat) (s:Shared) (Q:Value->Shared->Prop) (E:Value->Shared->Prop),s.heap.IsStrIter it T x t i->Q (.ref it) s->wpAny (model P w) A (pyIter (.ref it)) Q E s) :
  Turn P w K tg (Its x) [it] it (fun i h=>h.IsStrIter it T x t i) where
 mem:=by simp
 obj:=fun i h st b hb=>by
  have e:b=it:=by simpa using hb
  subst e;obtain⟨o,e,c,d⟩:=st;exact⟨o,e,fun v z=>by rw[d] at z; cases z⟩
 keep:=fun i h h' st k=>by
  obtain⟨o,e,c⟩:=st;exact⟨o,k it (by simp) o e,c⟩
 item:=by
  intro X hP hw hK hc i pins s σ H E I hf st hg;subst hP hw hK;obtain⟨f0,f1,f2,f3,f4,f5⟩:=hf it (by simp);refine (W X.A (I.ok.hd hc)).item i s _ _ hg st fun v h' tk hv st' kk=>?_;obtain⟨c,u,hx,rfl⟩:=hv;have I1:Inv X pins σ H { s with heap:=h',toks:=tk }:=I.turned (fun b o hb e=>kk b o (by simpa using hb) e) f0 f1 f3 f4 f5;obtain⟨o,e1,e2,e3⟩:=id st';exact⟨_,rfl,ziF (s:={ s with heap:=h',toks:=tk }) e1 e2 e3 hn ⟨.str ⟨#[c]⟩,H,I1,⟨u,rfl⟩,⟨rfl,c,hx,rfl⟩,st',fun b hb=>(hf b hb).1⟩⟩
 done:=by
  intro X hP hw hK hc i pins s σ H E I hf st hg;subst hP hw hK;obtain⟨f0,f1,f2,f3,f4,f5⟩:=hf it (by simp);have hi:i=x.cps.size:=hg;subst hi;exact (W X.A (I.ok.hd hc)).done s _ _ st fun h' tk kk=>⟨rfl,I.turned (fun b o hb e=>kk b o (by simpa using hb) e) f0 f1 f3 f4 f5⟩
 self:=slf
def iStr (te:TE):TI:=fun σ H R=>te σ H fun v H1=>∃x,v=.str x/\R (Its x) H1
theorem zkN {tg l:Expr}{tl:TE} (hl:PE X l tl):PI X tg l (iStr tl):=by
 intro pins s σ H R I h;refine thn (hl pins s σ H _ I h) fun v s1 ⟨x,H1,I1,r1,q1⟩=>?_;obtain⟨z,e,q⟩:=q1;subst e;obtain⟨t,rfl⟩:=r1;have fin:∀(o:Obj),Inv X pins σ H1 { s1 with heap:=s1.heap.push o }:=fun o=>I1.kept (t':=s1.toks) fun b o e=>Heap.get?_push_of_some _ e;have fp:∀b∈[s1.heap.objs.size],FpOk X pins H1 b:=fun b hb=>by
  have e:b=s1.heap.objs.size:=by simpa using hb
  subst e;exact I1.fpOk (Nat.le_refl _) (I1.hok.fresh (Nat.le_refl _))
 cases ha:z.cps.all (·<128)
 ·refine wpAny_pyIter_wide ha ?_
  exact⟨s1.heap.objs.size,[s1.heap.objs.size],_,_,H1,rfl,fin _,zfw z _ "str_iterator" (by decide) t (fun A' hA=>Walks.strWide hA _ z t) (fun A i s Q E st h=>wpAny_pyIter_striter_wide st h),⟨_,Heap.get?_push_size _ rfl,rfl,rfl⟩,fp,q⟩
 ·refine wpAny_pyIter_ascii ha ?_
  exact⟨s1.heap.objs.size,[s1.heap.objs.size],_,_,H1,rfl,fin _,zfw z _ "str_ascii_iterator" (by decide) t (fun A' hA=>Walks.strAscii hA _ z t) (fun A i s Q E st h=>wpAny_pyIter_striter_ascii st h),⟨_,Heap.get?_push_size _ rfl,rfl,rfl⟩,fp,q⟩
theorem zh4 {g:TG}{tc:TT}{te:TE}{σ:St}{H1:Hp}{Q:VK}{D:Addr}{x:PySem.Str} (Pv:Nat->St->List V->Hp->Prop) (h0:Pv 0 σ [] (upd H1 D (.lst [])))
  (hs:∀i σ ys H c,x.cps[i]?=some c->i<x.cps.size->ys.length<=i->Pv i σ ys H->g (.str ⟨#[c]⟩) σ H fun σ3 H4=>tc σ3 H4 fun b H5=>if b=true then te σ3 H5 (CPut x.cps.size Pv D i σ3) else CSkip x.cps.size Pv i σ3 H5)
  (hd:∀σ ys H,Pv x.cps.size σ ys H->Q (.ref D) H):zau (Its x) g tc te σ H1 D Q:=by
 refine zce x.cps.size Pv h0 (fun σ ys H p=>rfl) (fun i σ ys H hi p=>hi) (fun i σ ys H v H' hi hy p y=>?_) hd;obtain⟨e,c,hc,rfl⟩:=y;subst e;exact hs i σ ys _ c hc hi hy p
end
end L2
end
section
namespace K1
open STb
def subs (ps:List Int):List (List Int):=ps.foldl (fun found x=>found++found.map (·++[x])) [[]]
def parts (ps:List Int):List (List Int):=(subs ps).drop 1
theorem zcf (ps:List Int) (x:Int):subs (ps++[x])=subs ps++(subs ps).map (·++[x]):=by unfold subs; rw[List.foldl_append]; rfl
theorem zbU (ps:List Int):(subs ps).length=2 ^ ps.length:=by
 have:∀(ps:List Int) (acc:List (List Int)),(ps.foldl (fun found x=>found++found.map (·++[x])) acc).length=acc.length*2 ^ ps.length:=by
  intro ps
  induction ps with
  | nil=>intro acc; simp
  | cons x ps ih=>
   intro acc;rw[List.foldl_cons,ih,List.length_append,List.length_map,List.length_cons,Nat.pow_succ];rw[<- Nat.two_mul,Nat.mul_comm 2,Nat.mul_assoc,Nat.mul_comm 2]
 simpa[subs] using this ps [[]]
theorem zcs (ps:List Int):∃t,subs ps=[]::t/\∀q∈t,q≠[]:=by
 have:∀(ps:List Int) (acc:List (List Int)),(∃t,acc=[]::t/\∀q∈t,q≠[])->∃t,ps.foldl (fun found x=>found++found.map (·++[x])) acc=[]::t/\∀q∈t,q≠[]:=by
  intro ps
  induction ps with
  | nil=>intro acc h; exact h
  | cons x ps ih=>
   rintro acc ⟨t,rfl,h⟩;rw[List.foldl_cons];refine ih _ ⟨t++([]::t).map (·++[x]),rfl,fun q hq=>?_⟩;rcases List.mem_append.mp hq with hq | hq
   ·exact h q hq
   ·obtain⟨r,_,rfl⟩:=List.mem_map.mp hq
    simp
 exact this ps [[]] ⟨[],rfl,fun q hq=>nomatch hq⟩
theorem zdN (ps:List Int):(subs ps).filter (fun q=>!decide (q=[]))=parts ps:=by
 obtain⟨t,e,h⟩:=zcs ps;unfold parts;rw[e];show List.filter _ ([]::t)=t;rw[List.filter_cons,if_neg (by simp)];exact List.filter_eq_self.mpr fun q hq=>by simp[h q hq]
theorem zaB (ps:List Int):(parts ps).length=2 ^ ps.length - 1:=by unfold parts; rw[List.length_drop,zbU]
theorem zbO (ps:List Int):∀q∈subs ps,q.length<=ps.length:=by
 have:∀(ps:List Int) (acc:List (List Int)) (n:Nat),(∀q∈acc,q.length<=n)->∀q∈ps.foldl (fun found x=>found++found.map (·++[x])) acc,q.length<=n+ps.length:=by
  intro ps
  induction ps with
  | nil=>intro acc n h q hq; simpa using h q hq
  | cons x ps ih=>
   intro acc n h q hq;rw[List.foldl_cons] at hq;have:=ih _ (n+1) (fun r hr=>by
    rcases List.mem_append.mp hr with hr | hr
    ·exact Nat.le_succ_of_le (h r hr)
    ·obtain⟨u,hu,rfl⟩:=List.mem_map.mp hr
     rw[List.length_append];exact Nat.succ_le_succ (h u hu)) q hq
   rw[List.length_cons];omega
 intro q hq;have:=this ps [[]] 0 (fun r hr=>by simp at hr; subst hr; exact Nat.le_refl _) q hq;omega
def rises:List Int->Bool
 | a::b::r=>decide (a<b) && rises (b::r)
 | _=>true
theorem zdZ:∀ps:List Int,((ps.zip (ps.drop 1)).map fun p=>decide (p.1<p.2)).all id=rises ps
 | []=>rfl
 | [_]=>rfl
 | a::b::r=>by
  have:=zdZ (b::r);unfold rises;rw[<- this]
  rfl
theorem zcZ:∀ps:List Int,rises ps=true ↔ ∀(i:Nat) a b,ps[i]?=some a->ps[i+1]?=some b->a<b
 | []=>by simp[rises]
 | [x]=>by simp[rises]
 | x::y::r=>by
  unfold rises;rw[Bool.and_eq_true,decide_eq_true_eq,zcZ (y::r)];constructor
  ·rintro⟨h1,h2⟩ i a b ha hb
   cases i with
   | zero=>simp at ha hb; subst ha hb; exact h1
   | succ i=>exact h2 i a b (by simpa using ha) (by simpa using hb)
  ·intro h
   exact⟨h 0 x y rfl rfl,fun i a b ha hb=>h (i+1) a b (by simpa using ha) (by simpa using hb)⟩
theorem zfi (ps:List Int) (h:rises ps=true):∀(d i:Nat) a b,ps[i]?=some a->ps[i+d]?=some b->a<=b:=by
 intro d
 induction d with
 | zero=>intro i a b ha hb; rw[Nat.add_zero,ha] at hb; cases hb; exact Int.le_refl _
 | succ d ih=>
  intro i a b ha hb;have hl:i+(d+1)<ps.length:=(List.getElem?_eq_some_iff.mp hb).1;have hc:ps[i+d]?=some ps[i+d]:=List.getElem?_eq_getElem (by omega);have h1:=ih i a _ ha hc;have h2:=(zcZ ps).mp h (i+d) _ b hc hb;omega
def zX (ps:List Int):Bool:=decide (1<=ps.length) && decide (ps.length<=5) && !(decide (ps.headD 0<0)) && !(decide (99<ps.getLastD 0)) && rises ps
def zP (ps:List Int):Bool:=decide (1<=ps.length) && decide (ps.length<=5) && ps.all (fun p=>decide (0<=p) && decide (p<=99)) && rises ps
theorem ze0 (ps:List Int):zX ps=zP ps:=by
 unfold zX zP;cases ps with
 | nil=>rfl
 | cons x r=>
  by_cases hr:rises (x::r)=true
  ·rw[hr,Bool.and_true,Bool.and_true]
   by_cases h5:(x::r).length<=5
   ·have e1:(x::r).getLastD 0=(x::r)[(x::r).length - 1]:=by
     rw[List.getLastD_eq_getLast?,List.getLast?_eq_getElem?,List.getElem?_eq_getElem (by simp)]; rfl
    have key:(!(decide ((x::r).headD 0<0)) && !(decide (99<(x::r).getLastD 0)))=(x::r).all (fun p=>decide (0<=p) && decide (p<=99)):=by
     rw[Bool.eq_iff_iff];rw[Bool.and_eq_true,Bool.not_eq_true',Bool.not_eq_true',decide_eq_false_iff_not,decide_eq_false_iff_not,List.all_eq_true];constructor
     ·rintro⟨h0,h9⟩ p hp
      obtain⟨i,hi⟩:=List.mem_iff_getElem?.mp hp;have hil:i<(x::r).length:=(List.getElem?_eq_some_iff.mp hi).1;have g1:=zfi (x::r) hr i 0 x p rfl (by simpa using hi);have g2:=zfi (x::r) hr ((x::r).length - 1 - i) i p ((x::r)[(x::r).length - 1]) hi (by
       rw[show i+((x::r).length - 1 - i)=(x::r).length - 1 by omega];exact List.getElem?_eq_getElem (by simp))
      rw[e1] at h9;have h0':¬ x<0:=h0;simp only[Bool.and_eq_true,decide_eq_true_eq];constructor <;> omega
     ·intro h
      have g1:=h x List.mem_cons_self;have g2:=h ((x::r)[(x::r).length - 1]) (List.getElem_mem _);rw[e1];simp only[Bool.and_eq_true,decide_eq_true_eq] at g1 g2;constructor
      ·show ¬ x<0; omega
      ·omega
    rw[<- key];simp only[Bool.and_assoc]
   ·rw[decide_eq_false h5]; simp
  ·have:rises (x::r)=false:=by simpa using hr
   rw[this,Bool.and_false,Bool.and_false]
def webM (pss:List (List Int)):Bool:=decide (pss.length<=20) && pss.all zX && !(decide ((dd pss).length<pss.length)) && decide ((dd (pss.flatMap parts)).length<=200)
def zji (pss:List (List Int)) (k:Nat):Prop:=∀(i:Nat) ps,i<k->pss[i]?=some ps->ps∉pss.take i/\zP ps=true
theorem zit (pss:List (List Int)) (h:pss.length<=20) (hg:zji pss pss.length):webM pss=decide ((dd (pss.flatMap parts)).length<=200):=by
 unfold webM;have h1:pss.all zX=true:=List.all_eq_true.mpr fun ps hp=>by
  obtain⟨i,hi⟩:=List.mem_iff_getElem?.mp hp;rw[ze0];exact (hg i ps (List.getElem?_eq_some_iff.mp hi).1 hi).2
 have h2:¬ (dd pss).length<pss.length:=fun z=>by
  obtain⟨k,x,e,hx⟩:=(zkK pss).mp z;exact (hg k x (List.getElem?_eq_some_iff.mp e).1 e).1 hx
 rw[decide_eq_true h,h1,decide_eq_false h2]
 rfl
theorem zhE (pss:List (List Int)) (h:¬ pss.length<=20):webM pss=false:=by unfold webM; rw[decide_eq_false h]; rfl
end K1
end
section
namespace L2
open PySem PySem.Spec PyProof.Rows
def capB (N N':List Str) (caps:List (Option Nat)) (scope:Scope):Bool:=decide (caps.length=N'.length) && (caps.zip N').all fun p=>match p.1 with
 | none=>true
 | some j=>decide (N[j]?=some p.2) && decide (scope.names.lookup p.2=some .free)
theorem zcR {N N':List Str}{caps:List (Option Nat)}{scope:Scope} (h:capB N N' caps scope=true):zfR N N' caps scope:=by
 unfold capB at h;rw[Bool.and_eq_true,decide_eq_true_eq,List.all_eq_true] at h;refine⟨h.1,fun i j e=>?_⟩;have hi:i<caps.length:=(List.getElem?_eq_some_iff.mp e).1;have e2:N'[i]?=some N'[i]:=List.getElem?_eq_getElem (by rw[<- h.1]; exact hi);have:=h.2 (some j,N'[i]) (List.mem_iff_getElem?.mpr ⟨i,by rw[Srt.zipget,e,e2]; rfl⟩);simp only[Bool.and_eq_true,decide_eq_true_eq] at this;exact⟨N'[i],e2,this.1,this.2⟩
section
variable {X:Cx}{scope:Scope}{caps:List (Option Nat)}{tg iter elt:Expr}{ifs:List Expr}{wi:TI}{g:TG}{tc:TT}{te:TE}{pos:Pos}
theorem zI (N N':List Str) (caps:List (Option Nat)) (hi:PI X tg iter wi) (hg:∀cl C s₀ H₀ ex,PG (cxC X scope N' cl C s₀ H₀ ex) tg g) (ht:∀cl C s₀ H₀ ex,PTL (cxC X scope N' cl C s₀ H₀ ex) ifs tc) (he:∀cl C s₀ H₀ ex,PE (cxC X scope N' cl C s₀ H₀ ex) elt te)
  (hc:X.calm=true:=by rfl) (hk:scope.kind=.function:=by rfl) (hcell:∀y∈scope.names,y.2≠.cell:=by decide +kernel) (hnames:∀y∈scope.names,y.2=.local->scope.names.lookup y.1=some .local:=by decide +kernel)
  (hfr:∀y∈scope.names,y.2=.free->X.env.kindOf y.1=some .cell \/ X.env.kindOf y.1=some .free) (hN:X.N=N:=by rfl) (hcap:capB N N' caps scope=true:=by decide +kernel)
  (hs:∀x,foldedSetIterable iter X.env x=pure x:=by intro _; rfl):PE X (.ListComp elt [⟨tg,iter,ifs,0⟩] scope pos) (tLC wi caps g tc te):=
 zj5 hc hk hcell hnames hfr (zcR (by rw[hN]; exact hcap)) hi hg ht he hs
end
theorem nofr {env:Env}{scope:Scope} (h:scope.names.all (fun y=>decide (y.2≠.free))=true):∀y∈scope.names,y.2=.free->env.kindOf y.1=some .cell \/ env.kindOf y.1=some .free:=fun y hy e=>
 absurd e (of_decide_eq_true (List.all_eq_true.mp h y hy))
theorem frOf {env:Env}{scope:Scope} (sc:Scope) (h:scope.names.all (fun y=>decide (y.2≠.free) || decide (sc.names.lookup y.1=some .cell) || decide (sc.names.lookup y.1=some .free))=true) (hsc:env.scope=sc:=by rfl):∀y∈scope.names,y.2=.free->env.kindOf y.1=some .cell \/ env.kindOf y.1=some .free:=fun y hy e=>by
 subst hsc;have:=List.all_eq_true.mp h y hy;simp only[Bool.or_eq_true,decide_eq_true_eq] at this;rcases this with (q | q) | q
 ·exact absurd e q
 ·exact .inl q
 ·exact .inr q
theorem ndN (l:List Str) (h:l.Nodup:=by decide +kernel):l.Nodup:=h
theorem yes_ {te:TE}{σ:St}{H:Hp}{P:VK}{S:Hp->Prop} (h:te σ H P):tYes σ H fun b H5=>if b=true then te σ H5 P else S H5:=by
 show if true=true then te σ H P else S H;rw[if_pos rfl];exact h
theorem gyes {i:Nat}{v:V}{te:TE}{σ:St}{H:Hp}{P:St->VK}{S:St->Hp->Prop} (h:te (σ.set i (some v)) H (P (σ.set i (some v)))) :
  zap i v σ H fun σ3 H4=>tYes σ3 H4 fun b H5=>if b=true then te σ3 H5 (P σ3) else S σ3 H5:=yes_ (S:=S (σ.set i (some v))) h
theorem zN {J:It}{g:TG}{tc:TT}{te:TE}{σ:St}{H1:Hp}{Q:VK}{D:Addr} (h:zau J g tc te σ H1 D Q):zau J g tc te σ H1 D Q:=h
end L2
namespace L2
open PySem PySem.Spec PyProof.Rows
theorem Paired.of_at {α β:Type}{R:α->β->Prop}:∀{l:List α}{m:List β},l.length=m.length->(∀(i:Nat) x y,l[i]?=some x->m[i]?=some y->R x y)->Paired R l m
 | [],[],_,_=>.nil
 | x::l,y::m,h,f=>.cons (f 0 x y rfl rfl) (Paired.of_at (by simpa using h) fun i a b h1 h2=>f (i+1) a b (by simpa using h1) (by simpa using h2))
 | [],_::_,h,_=>by simp at h
 | _::_,[],h,_=>by simp at h
end L2
end
section
namespace HT
open PySem PyProof.Rows
section
variable {prog:Program}{w:World}{A:Around}{E:Value->Shared->Prop}{s:Shared}
theorem zbf {t sl:Addr}{items:Array Value}{vl vu:Value}{lo hi:Option Int}{Q:Value->Shared->Prop} (ht:IsTup s.heap t items) (hs:s.heap.IsSliceOf sl vl vu .none) (pl:IsPart vl lo) (pu:IsPart vu hi)
  (hw:sIx items.size 0 lo=0/\sIx items.size items.size hi=items.size)
  (h:Q (.ref t) s):wpAny (model prog w) A (getItem (.ref t) (.ref sl)) Q E s:=by
 obtain⟨os,hos,hcs,hds⟩:=id hs;have hTs:s.TypeIs (.ref sl) "slice":=⟨os,hos,hcs⟩;obtain⟨ot,hot,hct,nt,hdt⟩:=id ht;unfold getItem
 try with_reducible refine wpAny_holding ?_
 first | refine wpAny_bind (wpAny_pure ?_) | skip
 refine wpAny_bind (wpAny_sequenceKey ht.typeIs (by decide) ?_);refine wpAny_bind (wpAny_callSpecial?_slot (name:=Str.ofString "__getitem__") ht.typeIs PyProof.Rows.slot_tuple_getitem
  (wpAny_call_entry PyProof.Rows.slot_tuple_getitem ht.typeIs entry_tuple_getitem ?_ (args_tuple_getitem _ _)))
 show wpAny _ _ (Builtin.Tuple.tupleItemsOf (.ref t) >>= _) _ _ s;refine wpAny_bind (tupleItemsOf_ ht ?_);refine wpAny_bind (wpAny_typeOf hTs ?_);rw[if_pos (by decide)];refine wpAny_bind (zaP hs pl pu ?_);have hyes:((((sIx items.size 0 lo:Nat):Int) == 0 && (1:Int) == 1 && (sIx items.size items.size hi - sIx items.size 0 lo) == items.size)=true):=by
  rw[hw.1,hw.2]; simp
 show wpAny _ _ (if (((sIx items.size 0 lo:Nat):Int) == 0 && (1:Int) == 1 && (sIx items.size items.size hi - sIx items.size 0 lo) == items.size)=true then _ else _) _ _ s;rw[if_pos hyes];refine wpAny_bind ?_;unfold Builtin.Tuple.tupleIsExact;refine wpAny_bind (wpAny_typeOf ht.typeIs (wpAny_pure ?_));rw[if_pos (by decide)];refine wpAny_bind (wpAny_rule ?_);exact wpAny_pure ⟨_,rfl,wpAny_pure h⟩
end
end HT
namespace L2
open PySem PySem.Spec PyProof.Rows
section
variable {X:Cx}
def rSlA:V->Option Int->Option Int->Hp->VK->Prop:=fun x lo hi H Q=>∃a xs,x=.ref a/\H a=some (.tup xs)/\∀p H',Same H H'->H' p=some (.tup (cutV xs lo hi))->Q (.ref p) H'
theorem zcU:SlR X rSlA:=by
 intro pins s σ H x v vl vu lo hi sl Q I rx hs pl pu h;obtain⟨a,xs,rfl,hx,q⟩:=h
 by_cases hw:HT.sIx xs.length 0 lo=0/\HT.sIx xs.length xs.length hi=xs.length
 ·cases rx
  obtain⟨its,r,ht,hz⟩:=I.tuple (SqT.of (K:=X.K) hx);have hlen:its.toArray.size=xs.length:=by rw[List.size_toArray]; exact r.length.symm
  refine⟨"tuple",_,PyProof.Rows.slot_tuple_getitem.lookup,ht.typeIs,HT.zbf ht hs pl pu (by rw[hlen]; exact hw) ⟨.ref a,H,I,rfl,q a H (Same.refl H) ?_⟩⟩;rw[hx];unfold cutV;rw[hw.1,hw.2,List.drop_zero,Nat.sub_zero,List.take_of_length_le (Nat.le_refl _)]
 ·exact zjh pins s σ H (.ref a) v vl vu lo hi sl Q I rx hs pl pu ⟨a,xs,rfl,SqT.of hx,hw,fun p hp=>q p _ (Same.new hp) zd⟩
end
end L2
end
section
namespace K43
open K1
open PySem L2
def top (i:Nat):Stmt:=PySem.Challenge.pw_seamwright_k43_whole_rows_of_pushes.main.body.getD i (.Pass ⟨0,0,0,0⟩)
abbrev zcj:Stmt:=top 6
abbrev zbw:Stmt:=top 7
abbrev sKey:Stmt:=top 9
abbrev zbr:Stmt:=top 10
abbrev sAll:Stmt:=top 11
abbrev zb5:Stmt:=top 16
structure Bt (mg:Str->Option Value):Prop where
 len:mg "len"=none
 all:mg "all"=none
 zip:mg "zip"=none
 sorted:mg "sorted"=none
 set:mg "set"=none
 list:mg "list"=none
 tuple:mg "tuple"=none
 range:mg "range"=none
 enumerate:mg "enumerate"=none
 int:mg "int"=none
 isinstance:mg "isinstance"=none
 reversed:mg "reversed"=none
 bool:mg "bool"=none
theorem za3:bootBuiltins "len"=some (.builtin "len"):=by decide +kernel
theorem zlk:bootBuiltins "all"=some (.builtin "all"):=by decide +kernel
theorem zlO:bootBuiltins "zip"=some (.type "zip"):=by decide +kernel
theorem zdm:bootBuiltins "sorted"=some (.builtin "sorted"):=by decide +kernel
theorem zlQ:bootBuiltins "set"=some (.type "set"):=by decide +kernel
theorem zbJ:bootBuiltins "list"=some (.type "list"):=by decide +kernel
theorem zb4:bootBuiltins "tuple"=some (.type "tuple"):=by decide +kernel
theorem zlG:bootBuiltins "int"=some (.type "int"):=by decide +kernel
theorem zaR:bootBuiltins "isinstance"=some (.builtin "isinstance"):=by decide +kernel
theorem zh {n:Nat} (h:n<=100000):n<=sizeLine:=by rw[sizeLine_eq]; omega
theorem zS {n:Nat} (h:n<=100000):n<sizeLine:=by rw[sizeLine_eq]; omega
theorem zj7 (x:Int) (r:List Int):atI ((x::r).map V.int) (-1)=some (.int ((x::r).getLastD 0)):=by
 obtain⟨q,z,e⟩:∃q z,x::r=q++[z]:=⟨(x::r).dropLast,(x::r).getLast (List.cons_ne_nil x r),(List.dropLast_concat_getLast (List.cons_ne_nil x r)).symm⟩;rw[e,List.map_append,List.getLastD_eq_getLast?,List.getLast?_append];exact zh6 _ _
theorem zdF {ps:List Int}{i:Nat}{x:V} (h:(ps.map V.int)[i]?=some x):∃p,ps[i]?=some p/\x=.int p:=by
 rw[List.getElem?_map] at h;cases e:ps[i]? with
 | none=>rw[e] at h; cases h
 | some p=>rw[e] at h; exact⟨p,rfl,(Option.some.inj h).symm⟩
theorem zT {as:List Addr}{i:Nat}{x:V} (h:(as.map V.ref)[i]?=some x):∃a,as[i]?=some a/\x=.ref a:=by
 rw[List.getElem?_map] at h;cases e:as[i]? with
 | none=>rw[e] at h; cases h
 | some p=>rw[e] at h; exact⟨p,rfl,(Option.some.inj h).symm⟩
theorem take_snoc {α:Type}{l:List α}{i:Nat}{x:α} (h:l[i]?=some x):l.take (i+1)=l.take i++[x]:=by rw[List.take_add_one,h]; rfl
theorem take_all {α:Type} (l:List α):l.take l.length=l:=List.take_of_length_le (Nat.le_refl _)
theorem cut1 (x:Int) (r:List Int):cutV ((x::r).map V.int) (some 1) none=r.map V.int:=by
 unfold cutV;have e:HT.sIx ((x::r).map V.int).length 0 (some 1)=1:=by
  have:=HT.zcm ((x::r).map V.int).length 0 1;rw[show ((1:Nat):Int)=1 from rfl] at this;rw[this,List.length_map,List.length_cons]; omega
 rw[e,HT.zb0];show List.take _ (r.map V.int)=_;rw[List.take_of_length_le (by simp)]
section
variable {P:Program}{w:World}{K:PySem.W.Frag}{mg:Str->Option Value}{base:Heap}
def zhv:Sp:=fun vs H Q _=>∃a ps,vs=[.ref a]/\Tp H a ps/\∀H',Same H H'->Q (.bl (zX ps)) H'
theorem zjV:zt ["numbers"] ["numbers"] (zg zcj):=⟨rfl,rfl,rfl,by decide +kernel,rfl,by decide +kernel,by decide +kernel⟩
theorem zh8 {f:Addr}{fd:FuncData}{t5 t99:Tok} (F:Fun K "is_piece" "is_piece" zcj f fd) (B:Bt mg) (m5:mg "MOST_POINTS"=some (.int 5 t5)) (m99:mg "LAST_POINT"=some (.int 99 t99)) :
  FnOk P w K mg base CX0 1 f fd ["numbers"] zhv:=by
 refine F.ok zjV (fun vs H Q E h=>?_) (fun cdv A outer s H vs Q E hr h=>?_)
 ·obtain⟨a,ps,rfl,_⟩:=h; rfl
 ·obtain⟨a,ps,rfl,ha,k⟩:=h
  refine⟨_,zf (zav (zcA (zhz zjL zjL zj (zu zn rfl B.len za3 (zc (pv 0) ze)) (zdh rfl m5 (v:=.int 5) ⟨_,rfl⟩))) (zi (zr zaY)) zD)
   (zf (zav (PW.pt (zgh (zx zhJ (zai zaT (pv 0) zj (fun _ _=>rfl)) zj (nomark _)) (zfs (zx zhR (zai zaT (pv 0) (zlL zkw zj) (fun _ _=>rfl)) (zdh rfl m99 (v:=.int 99) ⟨_,rfl⟩) (nomark _))))) (zi (zr zaY)) zD)
   (zi (zr (zu (ze8 rfl) rfl B.all zlk (zc
    (zI ["numbers"] ["low","high"] [none,none] (zlf rfl B.zip zlO (zc (pv 0) (zc (za5 zjh (pv 0) (zbA zj) zbC) ze)))
     (fun cl C s₀ H₀ ex=>zk9 rfl (zfe (zm (i:=0) (ndN ["low","high"]) rfl (Or.inl rfl)) (zfe (zm (i:=1) (ndN ["low","high"]) rfl (Or.inl rfl)) zjP)))
     (fun cl C s₀ H₀ ex=>zas) (fun cl C s₀ H₀ ex=>zex zhJ (pv 0) (pv 1) (nomark _)) (hfr:=nofr (by decide +kernel)) (g:=gTup K 2 (zjO (zap 0) (zjO (zap 1) gNil)))) ze))))),?_⟩
  have no:zX ps=false->Q (.bl false) H:=fun e=>by have:=k H (Same.refl H); rw[e] at this; exact this
  refine⟨_,rfl,a,_,rfl,.inr (SqT.of ha),_,_,rfl,rfl,_,rfl,?_⟩;rw[List.length_map];refine ite2 (fun h1=>?_) (fun h1=>?_)
  ·refine⟨_,_,rfl,rfl,_,rfl,?_⟩
   have h1':1<=ps.length:=by have:=of_decide_eq_true h1; omega
   cases h5:decide ((ps.length:Int)<=5) with
   | false=>
    have h5':¬ ps.length<=5:=by have:=of_decide_eq_false h5; omega
    exact iteT (no (by unfold zX; rw[decide_eq_false h5']; simp))
   | true=>
    have h5':ps.length<=5:=by have:=of_decide_eq_true h5; omega
    refine iteF ?_;obtain⟨x,r,rfl⟩:∃x r,ps=x::r:=by
     cases ps with
     | nil=>simp at h1'
     | cons x r=>exact⟨x,r,rfl⟩
    refine⟨_,rfl,a,_,_,_,rfl,rfl,SqT.of ha,zJ (j:=0) rfl,_,_,rfl,rfl,_,rfl,?_⟩;refine ite2 (fun hx=>?_) (fun hx=>?_)
    ·refine iteT (no ?_)
     unfold zX;rw[show decide ((x::r).headD 0<0)=true from hx];simp
    ·refine⟨_,rfl,_,rfl,a,_,_,_,rfl,rfl,SqT.of ha,zj7 x r,_,_,rfl,rfl,_,rfl,?_⟩
     cases hl:decide (99<(x::r).getLastD 0) with
     | true=>
      refine iteT (no ?_);unfold zX;rw[hl];simp
     | false=>
      refine iteF ?_;refine⟨_,rfl,_,rfl,_,rfl,a,_,rfl,SqT.of ha,?_,fun p hp=>?_⟩
      ·intro z
       have e:=HT.zcm ((x::r).map V.int).length 0 1;rw[show ((1:Nat):Int)=1 from rfl,z.1,List.length_map,List.length_cons] at e;omega
      ·rw[cut1]
       have s1:Same H (upd H p (.tup (r.map V.int))):=Same.new hp;refine⟨a,p,rfl,⟨_,SqT.of (s1.tp ha)⟩,⟨_,SqT.of zd⟩,fun D hD=>?_⟩;have hm:min ((x::r).map V.int).length (r.map V.int).length=r.length:=by simp
       refine zN (zh3 (K:=K) (xs:=(x::r).map V.int) (ys:=r.map V.int) (fun i σ zs H3=>∃v1 v2,σ=[v1,v2]/\Same (upd H p (.tup (r.map V.int))) H3/\H3 D=some (.lst zs)/\zs=((((x::r).zip r).map fun q=>decide (q.1<q.2)).take i).map V.bl)
        ⟨none,none,rfl,Same.new hD,zd,rfl⟩ (fun i σ zs H3 ⟨_,_,_,sm,_⟩=>⟨SqT.of (sm.tp (s1.tp ha)),SqT.of (sm _ _ zd)⟩) ?_ ?_)
       ·rintro i σ zs H3 p' y1 y2 e1 e2 hi hz ⟨v1,v2,rfl,sm,hD3,rfl⟩ hp'
        obtain⟨q1,g1,rfl⟩:=zdF e1;obtain⟨q2,g2,rfl⟩:=zdF e2;refine⟨p',_,rfl,SqT.of zd,rfl,_,_,rfl,_,_,rfl,rfl,yes_ ?_⟩;refine⟨_,rfl,_,rfl,_,_,rfl,rfl,cput (Nat.le_trans (Nat.min_le_right _ _) (by rw[List.length_map]; exact zh (by simp at h5'; omega))) hi hz (by rw[upd_ne (ne_of_none hD3 hp')]; exact hD3) ⟨_,_,rfl,?_,zd,?_⟩⟩
        ·exact (sm.then (sm.free hp')).then hD
        ·have e3:(((x::r).zip r).map fun q=>decide (q.1<q.2))[i]?=some (decide (q1<q2)):=by
          rw[List.getElem?_map,Srt.zipget,g1,g2]; rfl
         rw[take_snoc e3,List.map_append]; rfl
       ·rintro σ zs H3 ⟨v1,v2,rfl,sm,hD3,rfl⟩
        refine⟨D,(((x::r).zip r).map fun q=>decide (q.1<q.2)),rfl,SqL.of ?_,?_⟩
        ·rw[hD3,hm,List.take_of_length_le (by simp)]
        ·have:=k H3 (s1.trans sm)
         have e4:=zdZ (x::r);rw[show (x::r).drop 1=r from rfl] at e4;rw[e4];have e5:zX (x::r)=rises (x::r):=by
          unfold zX;rw[decide_eq_true h1',decide_eq_true h5',hl];rw[show decide ((x::r).headD 0<0)=false from by simpa using hx]
          rfl
         rw[e5] at this;exact this
  ·refine⟨_,rfl,iteT (no ?_)⟩
   have h1':¬ 1<=ps.length:=fun z=>h1 (decide_eq_true (by omega));unfold zX;rw[decide_eq_false h1']
   rfl
end
end K43
end
section
namespace K43
open K1
open PySem L2
section
variable {P:Program}{w:World}{K:PySem.W.Frag}{mg:Str->Option Value}{base:Heap}
def zc2:Sp:=fun vs H Q _=>∃a ps,vs=[.ref a]/\Tp H a ps/\ps.length<=5/\∀D as H',Same H H'->H D=none->H' D=some (.lst (as.map V.ref))->Tps H' as (parts ps)->Q (.ref D) H'
theorem zdq:zt ["piece","found","point"] ["piece"] (zg zbw):=⟨rfl,rfl,rfl,by decide +kernel,rfl,by decide +kernel,by decide +kernel⟩
theorem pow5 {n:Nat} (h:n<=5):2 ^ n<=32:=by
 have:2 ^ n<=2 ^ 5:=Nat.pow_le_pow_right (by decide) h;exact this
theorem zcJ {H2:Hp}{as:List Addr}{fs:List (List Int)}{q:Int}{D:Addr}{l:Addr}{Q:VK} (hl:H2 l=some (.lst (as.map V.ref))) (ht:Tps H2 as fs) (hz:as.length<=100) (hz2:∀f∈fs,f.length<=100) (hD:H2 D=none)
  (k:∀bs H3,Same H2 H3->H3 D=some (.lst (bs.map V.ref))->Tps H3 bs (fs.map (·++[q]))->Q (.ref D) H3) :
  zau (Itl K l) (zap 0) tYes (tOp zj9 (tVar 0) (tTup (zbc (tVar 1) tNil))) [none,some (.int q)] H2 D Q:=by
 have hla:=ht.length;refine zag (xs:=as.map V.ref) (fun j σ ys H3=>∃bs v,σ=[v,some (.int q)]/\Same H2 H3/\H3 D=some (.lst ys)/\ys=bs.map V.ref/\Tps H3 bs ((fs.take j).map (·++[q]))) ?_ ?_ ?_ ?_
 ·exact⟨[],none,rfl,Same.new hD,zd,rfl,.nil⟩
 ·rintro j σ ys H3 ⟨bs,v,rfl,sm,hD3,rfl,hb⟩
  exact SqL.of (sm _ _ hl)
 ·rintro j σ ys H3 x hx hj hy ⟨bs,v,rfl,sm,hD3,rfl,hb⟩
  obtain⟨a,ea,rfl⟩:=zT hx;obtain⟨f,ef,hf⟩:=ht.get ea;refine gyes ?_;refine⟨_,rfl,_,rfl,zh (by simp),fun t htn=>?_⟩;have hf3:=sm.tp hf;have s1:Same H3 (upd H3 t (.tup [.int q])):=Same.new htn;refine⟨a,t,_,_,rfl,rfl,s1 _ _ hf3,zd,?_,fun p H4 s2 hp=>?_⟩
  ·rw[List.length_map]
   exact zh (by have:=hz2 f (List.mem_of_getElem? ef); simp; omega)
  ·have s3:Same H3 H4:=s1.trans s2
   refine cput (ys:=bs.map V.ref) (by rw[List.length_map]; exact zh (by omega)) hj hy (s3 _ _ hD3) ⟨bs++[p],_,rfl,(sm.trans s3).then hD,zd,by rw[List.map_append]; rfl,?_⟩;rw[take_snoc ef,List.map_append];have hpD:p≠D:=zaA hp (s3 _ _ hD3) (by intro z; cases z);have keep:∀c xs,H4 c=some (.tup xs)->upd H4 D (.lst (bs.map V.ref++[V.ref p])) c=some (.tup xs):=fun c xs e=>by
    rw[upd_ne (zaA e (s3 _ _ hD3) (by intro z; cases z))]; exact e
   refine Tps.snoc (Paired.mapP (s3.tps hb) fun c xs e=>keep c _ e) (keep p _ ?_);rw[hp,List.map_append]; rfl
 ·rintro σ ys H3 ⟨bs,v,rfl,sm,hD3,rfl,hb⟩
  rw[List.length_map,hla,take_all] at hb;exact k bs H3 sm hD3 hb
theorem ziy {f:Addr}{fd:FuncData} (F:Fun K "parts_of" "parts_of" zbw f fd):FnOk P w K mg base CX0 1 f fd ["piece"] zc2:=by
 refine F.ok zdq (fun vs H Q E h=>?_) (fun cdv A outer s H vs Q E hr h=>?_)
 ·obtain⟨a,ps,rfl,_⟩:=h; rfl
 ·obtain⟨a,ps,rfl,ha,h5,k⟩:=h
  refine⟨_,zf (zq (i:=1) zdq.nd rfl (Or.inl rfl) (z0 (zc (zaF ze) ze)))
   (zf (zaa PassesOwn.never rfl (zgk (pv 0)) (zm (i:=2) zdq.nd rfl (Or.inr rfl))
    (zi (zq (i:=1) zdq.nd rfl (Or.inl rfl) (zC zcw (pv 1) (zI ["piece","found","point"] ["part","point"] [none,some 2] (zz (pv 1)) (fun cl C s₀ H₀ ex=>zm (i:=0) (ndN ["part","point"]) rfl (Or.inl rfl)) (fun cl C s₀ H₀ ex=>zas)
     (fun cl C s₀ H₀ ex=>zC zds (pv 0) (zaF (zc (pv 1) ze))) (hfr:=frOf (zg zbw) (by decide +kernel)))))))
   (zi (zr (za5 zjB (pv 1) (zbA zj) zbC)))),?_⟩
  refine⟨zh (by simp),fun e he=>⟨zh (by simp),fun l hl=>?_⟩⟩;have s1:Same H (upd (upd H e (.tup [])) l (.lst [.ref e])):=(Same.new he).then ((Same.new he).free hl);have hle:e≠l:=ne_of_none (H:=upd H e (.tup [])) zd hl;refine⟨_,rfl,a,rfl,⟨_,SqT.of (s1 _ _ ha)⟩,zg8 (K:=K) (a:=a) (xs:=ps.map V.int) (fun i σ H2=>∃l as v,σ=[some (.ref a),some (.ref l),v]/\Same H H2/\H l=none/\H2 l=some (.lst (as.map V.ref))/\Tps H2 as (subs (ps.take i)))
   ⟨l,[e],none,rfl,s1,(Same.new he).free hl,zd,.cons (by show upd _ _ _ e=_; rw[upd_ne hle]; exact zd) .nil⟩ (fun i σ H2 _ ⟨_,_,_,_,sm,_⟩=>SqT.of (sm _ _ ha)) ?_ ?_⟩
  ·rintro i x σ H2 hx ⟨l,as,v,rfl,sm,hl0,hl,ht⟩
   obtain⟨q,eq,rfl⟩:=zdF hx;have hi:i<ps.length:=(List.getElem?_eq_some_iff.mp eq).1;have hla:=ht.length;have hn:as.length<=32:=by
    rw[hla,zbU,List.length_take];exact pow5 (by omega)
   have hm:∀f∈subs (ps.take i),f.length<=100:=fun f hf=>by
    have:=zbO _ f hf;rw[List.length_take] at this;omega
   refine⟨_,rfl,_,rfl,l,rfl,⟨_,SqL.of hl⟩,fun D hD=>zN (zcJ hl ht (by omega) hm hD fun bs H3 sm3 hD3 hb=>?_)⟩;have hlb:=hb.length;rw[List.length_map] at hlb;refine⟨l,D,_,_,rfl,rfl,sm3 _ _ hl,hD3,by rw[List.length_map,List.length_map]; exact zh (by omega),fun l2 hl2=>?_⟩;have h02:H l2=none:=(sm.trans sm3).free hl2;refine⟨l2,as++bs,_,rfl,(sm.trans sm3).then h02,h02,by rw[zd,List.map_append],?_⟩;rw[take_snoc eq,zcf];exact (Same.new hl2).tps ((sm3.tps ht).append hb)
  ·rintro σ H2 ⟨l,as,v,rfl,sm,hl0,hl,ht⟩
   rw[List.length_map,take_all] at ht;refine⟨_,rfl,_,rfl,l,_,rfl,SqL.of hl,fun D hD=>?_⟩;have h0:H D=none:=sm.free hD;obtain⟨t,et,_⟩:=zcs ps;refine k D (as.drop 1) _ (sm.then h0) h0 ?_ ?_
   ·rw[zd]
    unfold cutV;have hl1:1<=as.length:=by rw[ht.length,et]; simp
    have e1:HT.sIx (as.map V.ref).length 0 (some 1)=1:=by
     have:=HT.zcm (as.map V.ref).length 0 1;rw[show ((1:Nat):Int)=1 from rfl] at this;rw[this,List.length_map]; omega
    rw[e1,HT.zb0,<- List.map_drop,List.take_of_length_le (by simp)]
   ·exact (Same.new hD).tps (ht.drop 1)
theorem zlI:zt ["piece"] ["piece"] (zg sKey):=⟨rfl,rfl,rfl,by decide +kernel,rfl,by decide +kernel,by decide +kernel⟩
theorem zlu {f:Addr}{fd:FuncData} (F:Fun K "order_key" "order_key" sKey f fd) (B:Bt mg):FnOk P w K mg base CX0 1 f fd ["piece"] zhV:=by
 refine F.ok zlI (fun vs H Q E h=>?_) (fun cdv A outer s H vs Q E hr h=>?_)
 ·obtain⟨a,ps,rfl,_⟩:=h; rfl
 ·obtain⟨a,ps,rfl,ha,k⟩:=h
  refine⟨_,zi (zr (zaF (zc (zu zn rfl B.len za3 (zc (pv 0) ze)) (zc (pv 0) ze)))),?_⟩;refine⟨_,rfl,a,_,rfl,.inr (SqT.of ha),_,rfl,zh (by simp),fun p hp=>?_⟩;rw[List.length_map];exact k p hp
def zef (K:PySem.W.Frag):Sp:=fun vs H Q _=>∃l as pss,vs=[.ref l]/\SqL K H l (as.map V.ref)/\Tps H as pss/\pss.length<1000/\
 ∀D H2 (qs:List (List Int×Addr)),Same H H2->H D=none->H2 D=some (.lst (qs.map fun q=>V.ref q.2))->qs.Perm (pss.zip as)->qs.Pairwise (fun a b=>HT.lexLt ((b.1.length:Int)::b.1) ((a.1.length:Int)::a.1)=false)->Q (.ref D) H2
theorem zkc:zt ["some"] ["some"] (zg zbr):=⟨rfl,rfl,rfl,by decide +kernel,rfl,by decide +kernel,by decide +kernel⟩
theorem ze6 {f fk:Addr}{fd fdk:FuncData} (F:Fun K "in_order" "in_order" zbr f fd) (B:Bt mg) (Fk:Fun K "order_key" "order_key" sKey fk fdk) (bk:Binds K fdk ["piece"] []) (mk:mg "order_key"=some (.ref fk)):FnOk P w K mg base CX0 4 f fd ["some"] (zef K):=by
 have Gk:FnOk P w K mg base CX0 1 fk fdk ["piece"] zhV:=zlu Fk B;refine F.ok zkc (fun vs H Q E h=>?_) (fun cdv A outer s H vs Q E hr h=>?_)
 ·obtain⟨l,as,pss,rfl,_⟩:=h; rfl
 ·obtain⟨l,as,pss,rfl,hl,ht,h64,k⟩:=h
  refine⟨_,zi (zr (zfI Gk hr bk rfl B.sorted zdm rfl mk (zc (pv 0) ze))),?_⟩;exact⟨_,rfl,l,as,pss,rfl,hl,ht,h64,k⟩
end
end K43
end
section
namespace K43
open K1
open PySem L2 STb
theorem Tps.upd {H:Hp}{d:Addr}{o o':HO}{as:List Addr}{pss:List (List Int)} (h:Tps H as pss) (hd:H d=some o') (hn:∀xs,o'≠.tup xs):Tps (L2.upd H d o) as pss:=
 Paired.mapP h fun a ps e=>by
  show L2.upd H d o a=_;rw[upd_ne (zaA (show H a=some _ from e) hd fun z=>hn _ z.symm)]; exact e
def kvM (seq:List (List Int)):List (List Key×V):=(dd seq).map fun ps=>((ps.map Sum.inl:List Key),V.bl true)
theorem zeq (seq:List (List Int)):(kvM seq).length<=seq.length:=by unfold kvM; rw[List.length_map]; exact zbp seq
theorem zeP (seq:List (List Int)) (ps:List Int):putK (kvM seq) (ps.map Sum.inl) (.bl true)=kvM (seq++[ps]):=by
 unfold putK kvM;rw[zck];have ha:(((dd seq).map fun ps=>((ps.map Sum.inl:List Key),V.bl true)).any fun kv=>decide (kv.1=ps.map Sum.inl))=decide (ps∈dd seq):=by
  rw[List.any_map]
  by_cases h:ps∈dd seq
  ·rw[decide_eq_true h,List.any_eq_true]
   exact⟨ps,h,by simp⟩
  ·rw[decide_eq_false h,List.any_eq_false]
   intro q hq;simp only[Function.comp,decide_eq_true_eq,zgO];rintro rfl;exact h hq
 rw[ha]
 by_cases h:ps∈dd seq
 ·rw[decide_eq_true h,if_pos rfl,if_pos h,List.map_map]
  refine List.map_congr_left fun q hq=>?_;simp only[Function.comp];split <;> rfl
 ·rw[decide_eq_false h,if_neg (by simp),if_neg h,List.map_append]
  rfl
theorem zfn {H:Hp}{seq:List (List Int)}{bs:List Addr} (h:Paired (fun (p:List Key×V) b=>H b=some (.tup (p.1.map kV))) (kvM seq) bs):Tps H bs (dd seq):=by
 unfold kvM at h;generalize dd seq=l at h
 induction l generalizing bs with
 | nil=>cases h; exact .nil
 | cons x l ih=>
  rw[List.map_cons] at h;cases h with
  | cons r t=>
   refine .cons ?_ (ih t);show H _=_;rw[r,List.map_map]
   rfl
theorem zdp (pss:List (List Int)) (h:∀ps∈pss,ps.length<=5):(pss.flatMap parts).length<=31*pss.length:=by
 induction pss with
 | nil=>simp
 | cons x l ih=>
  rw[List.flatMap_cons,List.length_append,zaB,List.length_cons];have:=ih fun ps hp=>h ps (List.mem_cons_of_mem _ hp);have:=pow5 (h x List.mem_cons_self);omega
theorem zdB {pss:List (List Int)}{i:Nat}{ps:List Int} (h:pss[i]?=some ps):(pss.take (i+1)).flatMap parts=(pss.take i).flatMap parts++parts ps:=by
 rw[take_snoc h,List.flatMap_append]; simp
def Told (H H2:Hp) (pss:List (List Int)) (D:Addr) (qs:List (List Int×Addr)):Prop:=
 Same H H2/\H D=none/\H2 D=some (.lst (qs.map fun q=>V.ref q.2))/\(∀q∈qs,Tp H2 q.2 q.1)/\(qs.map (·.1)).Perm (dd (pss.flatMap parts))/\qs.Pairwise (fun a b=>HT.lexLt ((b.1.length:Int)::b.1) ((a.1.length:Int)::a.1)=false)
section
variable {P:Program}{w:World}{K:PySem.W.Frag}{mg:Str->Option Value}{base:Heap}
def zgY (K:PySem.W.Frag):Sp:=fun vs H Q _=>∃l as pss,vs=[.ref l]/\SqL K H l (as.map V.ref)/\Tps H as pss/\(∀ps∈pss,ps.length<=5)/\pss.length<=20/\(dd (pss.flatMap parts)).length<1000/\∀D H2 qs,Told H H2 pss D qs->Q (.ref D) H2
theorem zhP:zt ["some","found","piece","part"] ["some"] (zg sAll):=⟨rfl,rfl,rfl,by decide +kernel,rfl,by decide +kernel,by decide +kernel⟩
theorem ziY {f fp fo fk:Addr}{fd fdp fdo fdk:FuncData} (F:Fun K "all_parts" "all_parts" sAll f fd) (B:Bt mg)
  (Fp:Fun K "parts_of" "parts_of" zbw fp fdp) (bp:Binds K fdp ["piece"] []) (mp:mg "parts_of"=some (.ref fp)) (Fo:Fun K "in_order" "in_order" zbr fo fdo) (bo:Binds K fdo ["some"] []) (mo:mg "in_order"=some (.ref fo))
  (Fk:Fun K "order_key" "order_key" sKey fk fdk) (bk:Binds K fdk ["piece"] []) (mk:mg "order_key"=some (.ref fk)):FnOk P w K mg base CX0 5 f fd ["some"] (zgY K):=by
 have Gp:FnOk P w K mg base CX0 1 fp fdp ["piece"] zc2:=ziy Fp;have Go:FnOk P w K mg base CX0 4 fo fdo ["some"] (zef K):=ze6 Fo B Fk bk mk;refine F.ok zhP (fun vs H Q E h=>?_) (fun cdv A outer s H vs Q E hr h=>?_)
 ·obtain⟨l,as,pss,rfl,_⟩:=h; rfl
 ·obtain⟨l,as,pss,rfl,hl,ht,h5,h20,h64,k⟩:=h
  have hu:=zdC hr;have hr1:Room 1 _:=hr.mono (by decide);refine⟨_,zf (zq (i:=1) zhP.nd rfl (Or.inl rfl) zbo)
   (zf (zaa PassesOwn.never rfl (zz (pv 0)) (zm (i:=2) zhP.nd rfl (Or.inl rfl))
    (zi (zaa PassesOwn.never rfl (zz (zl Gp hr1 rfl mp Fp.kp bp .nil pass0 (zc (pv 2) ze))) (zm (i:=3) zhP.nd rfl (Or.inl rfl))
     (zi (zct hu (pv 1) (pv 3) zaY rfl)))))
   (zi (zr (zl Go hr rfl mo Fo.kp bo .nil pass0 (zc (zL (zbL rfl) rfl B.list zbJ (zc (pv 1) ze)) ze))))),?_⟩
  intro d hd;have hla:=ht.length;refine⟨_,rfl,l,rfl,⟨_,(Same.new hd).seq hl⟩,zK (K:=K) (a:=l) (xs:=as.map V.ref) (fun i σ H2=>∃v v',σ=[some (.ref l),some (.ref d),v,v']/\Same H H2/\H2 d=some (.dT (kvM ((pss.take i).flatMap parts))))
   ⟨none,none,rfl,Same.new hd,zd⟩ (fun i σ H2 _ ⟨_,_,_,sm,_⟩=>sm.seq hl) ?_ ?_⟩
  ·rintro i x σ H2 hx ⟨v,v',rfl,sm,hd2⟩
   obtain⟨a,ea,rfl⟩:=zT hx;obtain⟨ps,eps,hps⟩:=ht.get ea;have hps5:=h5 ps (List.mem_of_getElem? eps);have hi:i<pss.length:=(List.getElem?_eq_some_iff.mp eps).1;refine⟨_,rfl,a,ps,rfl,sm.tp hps,hps5,fun D cs H3 sm3 hD0 hD hcs=>⟨D,rfl,⟨_,SqL.of hD⟩,?_⟩⟩;have hlc:=hcs.length;have hdD:D≠d:=zaA hD (sm3 _ _ hd2) (by intro z; cases z);refine zK (K:=K) (a:=D) (xs:=cs.map V.ref) (fun j σ H4=>∃v',σ=[some (.ref l),some (.ref d),some (.ref a),v']/\Same H H4/\H4 D=some (.lst (cs.map V.ref))/\Tps H4 cs (parts ps)/\H4 d=some (.dT (kvM ((pss.take i).flatMap parts++(parts ps).take j))))
    ⟨_,rfl,sm.trans sm3,hD,hcs,by rw[List.take_zero,List.append_nil]; exact sm3 _ _ hd2⟩ (fun j σ H4 _ ⟨_,_,_,q,_⟩=>SqL.of q) ?_ ?_
   ·rintro j x σ H4 hx ⟨v',rfl,sm4,hD4,hcs4,hd4⟩
    obtain⟨c,ec,rfl⟩:=zT hx;obtain⟨f,ef,hf⟩:=hcs4.get ec;have hlen:(kvM ((pss.take i).flatMap parts++(parts ps).take j)).length<sizeLine:=by
     refine zS (Nat.le_trans (zeq _) ?_);rw[List.length_append];have h1:=zdp (pss.take i) (fun q hq=>h5 q (List.mem_of_mem_take hq));have h2:=zaB ps;have h3:=pow5 hps5;rw[List.length_take] at h1 ⊢;omega
    refine⟨_,rfl,_,rfl,d,_,rfl,DPut.t (k:=f.map Sum.inl) hd4 (by rw[List.map_map]; exact hf) hlen,⟨_,rfl,sm4.then hd,?_,?_,?_⟩⟩
    ·rw[upd_ne hdD]; exact hD4
    ·exact Tps.upd hcs4 hd4 (by intro xs z; cases z)
    ·rw[zd,zeP,List.append_assoc,<- take_snoc ef]
   ·rintro σ H4 ⟨v',rfl,sm4,hD4,hcs4,hd4⟩
    refine⟨_,_,rfl,sm4,?_⟩;rw[List.length_map,hlc,take_all] at hd4;rw[zdB eps];exact hd4
  ·rintro σ H2 ⟨v,v',rfl,sm,hd2⟩
   rw[List.length_map,hla,take_all] at hd2;refine⟨_,rfl,d,_,rfl,hd2,fun bs hb l2 hl2=>?_⟩;have tb:=zfn hb;have hlb:=tb.length;refine⟨l2,bs,dd (pss.flatMap parts),rfl,SqL.of zd,(Same.new hl2).tps tb,h64,fun D H3 qs sm3 hD hD3 hp hs=>?_⟩;have hl20:H l2=none:=sm.free hl2;refine k D H3 qs ⟨(sm.then hl20).trans sm3,(sm.then hl20).free hD,hD3,fun q hq=>?_,?_,hs⟩
   ·obtain⟨m,em⟩:=List.mem_iff_getElem?.mp (hp.mem_iff.mp hq)
    rw[Srt.zipget] at em;cases e1:(dd (pss.flatMap parts))[m]? with
    | none=>rw[e1] at em; cases em
    | some f=>
     cases e2:bs[m]? with
     | none=>rw[e1,e2] at em; cases em
     | some b=>
      rw[e1,e2] at em;obtain rfl:(f,b)=q:=Option.some.inj em;exact sm3.tp ((Same.new hl2).tp (za0 tb m b f e2 e1))
   ·have:=hp.map (·.1)
    rw[List.map_fst_zip (by omega)] at this;exact this
def zgn (K:PySem.W.Frag):Sp:=fun vs H Q _=>∃l as pss,vs=[.ref l]/\SqL K H l (as.map V.ref)/\Tps H as pss/\(pss.all zX=true->(dd (pss.flatMap parts)).length<1000)/\∀H',Same H H'->Q (.bl (webM pss)) H'
theorem zjT:zt ["web"] ["web"] (zg zb5):=⟨rfl,rfl,rfl,by decide +kernel,rfl,by decide +kernel,by decide +kernel⟩
theorem zhU {f fi fa fp fo fk:Addr}{fd fdi fda fdp fdo fdk:FuncData}{t5 t99 t20 t200:Tok} (F:Fun K "is_web" "is_web" zb5 f fd) (B:Bt mg) (m5:mg "MOST_POINTS"=some (.int 5 t5)) (m99:mg "LAST_POINT"=some (.int 99 t99))
  (m20:mg "MOST_HANDED"=some (.int 20 t20)) (m200:mg "MOST_PIECES"=some (.int 200 t200))
  (Fi:Fun K "is_piece" "is_piece" zcj fi fdi) (bi:Binds K fdi ["numbers"] []) (mi:mg "is_piece"=some (.ref fi))
  (Fa:Fun K "all_parts" "all_parts" sAll fa fda) (ba:Binds K fda ["some"] []) (ma:mg "all_parts"=some (.ref fa))
  (Fp:Fun K "parts_of" "parts_of" zbw fp fdp) (bp:Binds K fdp ["piece"] []) (mp:mg "parts_of"=some (.ref fp)) (Fo:Fun K "in_order" "in_order" zbr fo fdo) (bo:Binds K fdo ["some"] []) (mo:mg "in_order"=some (.ref fo))
  (Fk:Fun K "order_key" "order_key" sKey fk fdk) (bk:Binds K fdk ["piece"] []) (mk:mg "order_key"=some (.ref fk)):FnOk P w K mg base CX0 6 f fd ["web"] (zgn K):=by
 have Gi:FnOk P w K mg base CX0 1 fi fdi ["numbers"] zhv:=zh8 Fi B m5 m99;have Ga:FnOk P w K mg base CX0 5 fa fda ["some"] (zgY K):=ziY Fa B Fp bp mp Fo bo mo Fk bk mk;refine F.ok zjT (fun vs H Q E h=>?_) (fun cdv A outer s H vs Q E hr h=>?_)
 ·obtain⟨l,as,pss,rfl,_⟩:=h; rfl
 ·obtain⟨l,as,pss,rfl,hl,ht,h64,k⟩:=h
  have hu64:=hr.units;have hr1:Room 1 _:=hr.mono (by decide);refine⟨_,zf (zav (zx zhR (zu zn rfl B.len za3 (zc (pv 0) ze)) (zdh rfl m20 (v:=.int 20) ⟨_,rfl⟩) (nomark _)) (zi (zr zaY)) zD)
   (zf (zav (zcA (zd8 (zu (ze8 rfl) rfl B.all zlk (zc
    (zI ["web"] ["numbers"] [none] (zz (pv 0)) (fun cl C s₀ H₀ ex=>zm (i:=0) (ndN ["numbers"]) rfl (Or.inl rfl)) (fun cl C s₀ H₀ ex=>zas)
     (fun cl C s₀ H₀ ex=>zl Gi hr1 rfl mi Fi.kp bi .nil pass0 (zc (pv 0) ze)) (hfr:=nofr (by decide +kernel))) ze)))) (zi (zr zaY)) zD)
   (zf (zav (zx zhJ (zu zc8 rfl B.len za3 (zc (zL (zdD rfl hu64) rfl B.set zlQ (zc (pv 0) ze)) ze)) (zu zn rfl B.len za3 (zc (pv 0) ze)) (nomark _)) (zi (zr zaY)) zD)
   (zi (zr (zex zjL (zu zn rfl B.len za3 (zc (zl Ga hr rfl ma Fa.kp ba .nil pass0 (zc (pv 0) ze)) ze)) (zdh rfl m200 (v:=.int 200) ⟨_,rfl⟩) (nomark _)))))),?_⟩
  have hla:=ht.length;refine⟨_,rfl,l,_,rfl,.inl hl,_,_,rfl,rfl,_,rfl,?_⟩;rw[List.length_map];refine ite2 (fun h1=>?_) (fun h1=>?_)
  ·have:=k H (Same.refl H)
   rw[zhE pss (by have:=of_decide_eq_true h1; omega)] at this;exact this
  ·have h20:pss.length<=20:=by
    have:¬ ((20:Int)<as.length):=fun z=>h1 (decide_eq_true z);omega
   refine⟨_,rfl,l,rfl,⟨_,hl⟩,fun D hD=>zN (zag (K:=K) (a:=l) (xs:=as.map V.ref) (fun i σ ys H3=>∃v,σ=[v]/\Same H H3/\H3 D=some (.lst ys)/\ys=((pss.map zX).take i).map V.bl)
    ⟨none,rfl,Same.new hD,zd,rfl⟩ (fun i σ ys H3 ⟨_,_,sm,_⟩=>sm.seq hl) ?_ ?_)⟩
   ·rintro i σ ys H3 x hx hi hy ⟨v,rfl,sm,hD3,rfl⟩
    obtain⟨a,ea,rfl⟩:=zT hx;obtain⟨ps,eps,hps⟩:=ht.get ea;refine gyes ?_;refine⟨_,rfl,a,ps,rfl,sm.tp hps,fun H4 sm4=>cput (by rw[List.length_map]; exact zh (by omega)) hi hy (sm4 _ _ hD3) ⟨_,rfl,(sm.trans sm4).then hD,zd,?_⟩⟩;have e:(pss.map zX)[i]?=some (zX ps):=by rw[List.getElem?_map,eps]; rfl
    rw[take_snoc e,List.map_append]; rfl
   ·rintro σ ys H3 ⟨v,rfl,sm,hD3,rfl⟩
    rw[List.length_map,hla,List.take_of_length_le (by simp)] at hD3;refine⟨D,pss.map zX,rfl,SqL.of hD3,_,rfl,?_⟩;have eall:(pss.map zX).all id=pss.all zX:=by rw[List.all_map]; rfl
    rw[eall];cases hp:pss.all zX with
    | false=>
     refine iteT ?_;have:=k H3 sm;rw[show webM pss=false from by unfold webM; rw[hp]; simp] at this;exact this
    | true=>
     refine iteF ?_;refine⟨_,rfl,l,as,pss,rfl,sm.seq hl,sm.tps ht,by omega,fun S hS=>?_⟩;have sS:Same H (upd H3 S (SetN S (dd pss).length)):=sm.then (sm.free hS);refine⟨S,_,rfl,zd,_,rfl,l,_,rfl,.inl (sS.seq hl),_,_,rfl,rfl,_,rfl,?_⟩;rw[List.length_map,hla];refine ite2 (fun h2=>?_) (fun h2=>?_)
     ·have h2':(dd pss).length<pss.length:=by have:=of_decide_eq_true h2; omega
      have:=k _ sS;rw[show webM pss=false from by unfold webM; rw[decide_eq_true h2']; simp] at this;exact this
     ·have h2':¬ (dd pss).length<pss.length:=fun z=>h2 (decide_eq_true (by omega))
      refine⟨_,rfl,l,as,pss,rfl,sS.seq hl,sS.tps ht,fun ps hps=>?_,h20,h64 hp,fun D2 H4 qs ⟨sm4,_,hD4,_,hperm,_⟩=>?_⟩
      ·have:=List.all_eq_true.mp hp ps hps
       unfold zX at this;simp only[Bool.and_eq_true,decide_eq_true_eq] at this;exact this.1.1.1.2
      ·refine⟨D2,_,rfl,.inl (SqL.of hD4),_,_,rfl,rfl,?_⟩
       have hlen:(qs.map fun q=>V.ref q.2).length=(dd (pss.flatMap parts)).length:=by
        rw[List.length_map,<- hperm.length_eq,List.length_map]
       rw[hlen];have:=k H4 (sS.trans sm4);have e:webM pss=decide (((dd (pss.flatMap parts)).length:Int)<=200):=by
        unfold webM;rw[hp,decide_eq_true h20,decide_eq_false h2']
        by_cases q:(dd (pss.flatMap parts)).length<=200
        ·rw[decide_eq_true q,decide_eq_true (show ((dd (pss.flatMap parts)).length:Int)<=200 by omega)]; rfl
        ·rw[decide_eq_false q,decide_eq_false (show ¬ ((dd (pss.flatMap parts)).length:Int)<=200 by omega)]; rfl
       rw[e] at this;exact this
end
end K43
end
section
namespace K43
open K1
open PySem L2 STb
abbrev zeu:Stmt:=top 25
abbrev sBox:Stmt:=top 26
abbrev zcu:Stmt:=top 27
def zld (x y:Int):Prop:=0<=x/\(y=0 \/ (y=1/\x<4294967296))
def zab (H:Hp) (p:Addr):Prop:=∃x y,H p=some (.lst [.int x,.int y])/\zld x y
def zae (p:Addr) (H H':Hp):Prop:=∀b o,b≠p->H b=some o->H' b=some o
theorem zae.trans {p:Addr}{H H1 H2:Hp} (a:zae p H H1) (b:zae p H1 H2):zae p H H2:=fun c o hc e=>b c o hc (a c o hc e)
theorem zae.of {p:Addr}{H H1:Hp} (a:Same H H1):zae p H H1:=fun c o _ e=>a c o e
theorem zae.free {p:Addr}{H H':Hp} (e:zae p H H') (hb:zab H p) (hb':zab H' p) {l:Addr} (h:H' l=none):H l=none:=by
 cases q:H l with
 | none=>rfl
 | some o=>
  obtain⟨x,y,e1,_⟩:=hb';have hl:l≠p:=fun z=>by rw[z,e1] at h; cases h
  rw[e l o hl q] at h;cases h
theorem zab.same {H H':Hp}{p:Addr} (b:zab H p) (e:Same H H'):zab H' p:=let ⟨x,y,h,o⟩:=b; ⟨x,y,e _ _ h,o⟩
theorem zab.ne {H:Hp}{p l:Addr}{as:List Addr} (b:zab H p) (h:H l=some (.lst (as.map V.ref))):l≠p:=by
 obtain⟨x,y,e,_⟩:=b;refine zaA h e fun z=>?_;injection z with z
 cases as with
 | nil=>cases z
 | cons a r=>rw[List.map_cons] at z; cases z
theorem zab.net {H:Hp}{p t:Addr}{xs:List V} (b:zab H p) (h:H t=some (.tup xs)):t≠p:=by
 obtain⟨x,y,e,_⟩:=b;exact zaA h e (by intro z; cases z)
theorem zae.tp {p:Addr}{H H':Hp}{a:Addr}{ps:List Int} (e:zae p H H') (b:zab H p) (h:Tp H a ps):Tp H' a ps:=e _ _ (b.net h) h
theorem zae.tps {p:Addr}{H H':Hp}{as:List Addr}{pss:List (List Int)} (e:zae p H H') (b:zab H p) (h:Tps H as pss):Tps H' as pss:=Paired.mapP h fun _ _ q=>e.tp b q
theorem zae.then {p:Addr}{H H1:Hp}{a:Addr}{o:HO} (e:zae p H H1) (h:H a=none):zae p H (L2.upd H1 a o):=fun b u hb q=>by rw[upd_ne (ne_of_none q h)]; exact e b u hb q
theorem zab.upd {H:Hp}{p l:Addr}{o:HO} (b:zab H p) (h:l≠p):zab (L2.upd H l o) p:=let ⟨x,y,e,k⟩:=b; ⟨x,y,by rw[upd_ne h.symm]; exact e,k⟩
theorem zab.new {H:Hp}{p l:Addr}{o:HO} (b:zab H p) (h:H l=none):zab (L2.upd H l o) p:=b.same (Same.new h)
section
variable {P:Program}{w:World}{K:PySem.W.Frag}{mg:Str->Option Value}{base:Heap}
def ziR (K:PySem.W.Frag):Sp:=fun vs H Q _=>∃(l:Addr) (ns:List Int),vs=[.ref l,.int 0]/\SqL K H l (ns.map V.int)/\∀n,Q (.int n) H
theorem zk2:zt ["script","k"] ["script","k"] (zg zeu):=⟨rfl,rfl,rfl,by decide +kernel,rfl,by decide +kernel,by decide +kernel⟩
theorem zkp {f:Addr}{fd:FuncData} (F:Fun K "_law_cell_at" "_law_cell_at" zeu f fd) (B:Bt mg):FnOk P w K mg base CX0 1 f fd ["script","k"] (ziR K):=by
 refine F.ok zk2 (fun vs H Q E h=>?_) (fun cdv A outer s H vs Q E hr h=>?_)
 ·obtain⟨l,ns,rfl,_⟩:=h; rfl
 ·obtain⟨l,ns,rfl,hl,k⟩:=h
  refine⟨_,zf (zav (zx zhJ (pv 1) (zu zn rfl B.len za3 (zc (pv 0) ze)) (nomark _)) (zi (zr (zai zac (pv 0) (pv 1) (fun _ _=>rfl)))) zD) (zi (zr zj)),?_⟩;refine⟨_,rfl,_,rfl,l,_,rfl,.inl hl,_,_,rfl,rfl,_,rfl,?_⟩;refine ite2 (fun h1=>?_) (fun h1=>?_)
  ·cases ns with
   | nil=>have:=of_decide_eq_true h1; simp at this
   | cons n ns=>exact⟨_,rfl,_,rfl,l,_,_,_,rfl,rfl,hl,zJ (j:=0) rfl,k n⟩
  ·exact k 0
def zlz:Sp:=fun vs H Q _=>∃n,vs=[.int n]/\∀p x y,H p=none->zld x y->Q (.ref p) (upd H p (.lst [.int x,.int y]))
theorem zlF:zt ["cell"] ["cell"] (zg sBox):=⟨rfl,rfl,rfl,by decide +kernel,rfl,by decide +kernel,by decide +kernel⟩
theorem zlo {f:Addr}{fd:FuncData} (F:Fun K "_law_box" "_law_box" sBox f fd):FnOk P w K mg base CX0 1 f fd ["cell"] zlz:=by
 refine F.ok zlF (fun vs H Q E h=>?_) (fun cdv A outer s H vs Q E hr h=>?_)
 ·obtain⟨n,rfl,_⟩:=h; rfl
 ·obtain⟨n,rfl,k⟩:=h
  refine⟨_,zf (zav (zx zlK (pv 0) (zC zgG zj zj) (nomark _)) (zi (zr (z0 (zc (zC ziW (pv 0) (zC zgG zj zj)) (zc zj ze))))) zD)
   (zi (zr (z0 (zc (zC zch (zC zah (zC zcB (zC zch (pv 0) (zC zgG zj zj)) zj) zj) zj) (zc zj ze))))),?_⟩
  have hc:CPow 10 18:=⟨by decide,by decide,by decide⟩;have e18:(10:Int) ^ (18:Int).toNat=1000000000000000000:=by decide
  refine⟨_,rfl,_,_,rfl,rfl,hc,_,_,rfl,rfl,_,rfl,?_⟩;refine ite2 (fun h1=>?_) (fun h1=>?_)
  ·refine⟨_,rfl,_,_,rfl,rfl,hc,_,_,rfl,rfl,zh (by simp),fun p hp=>k p _ 0 hp ⟨?_,.inl rfl⟩⟩
   have:=of_decide_eq_true h1;omega
  ·refine⟨_,rfl,_,_,rfl,rfl,hc,_,_,rfl,rfl,(by show (0:Int)<10 ^ (18:Int).toNat; rw[e18]; decide),_,_,rfl,rfl,.inr ⟨by decide,by decide⟩,_,_,rfl,rfl,_,_,rfl,rfl,(by show (0:Int)<2147483629; decide),zh (by simp),fun p hp=>k p _ 1 hp ⟨?_,.inr ⟨rfl,?_⟩⟩⟩
   ·exact Int.emod_nonneg _ (by decide)
   ·have:=Int.emod_lt_of_pos (n % 10 ^ (18:Int).toNat*69621+7001) (show (0:Int)<2147483629 by decide)
    omega
def zdW:Sp:=fun vs H Q _=>∃p m,vs=[.ref p,.int m]/\zab H p/\0<m/\m<1073741824/\∀r H',0<=r->r<m->zae p H H'->zab H' p->Q (.int r) H'
theorem zf2:zt ["box","most","found","mixed"] ["box","most"] (zg zcu):=⟨rfl,rfl,rfl,by decide +kernel,rfl,by decide +kernel,by decide +kernel⟩
theorem zc3 {f:Addr}{fd:FuncData} (F:Fun K "_law_take" "_law_take" zcu f fd):FnOk P w K mg base CX0 1 f fd ["box","most"] zdW:=by
 refine F.ok zf2 (fun vs H Q E h=>?_) (fun cdv A outer s H vs Q E hr h=>?_)
 ·obtain⟨p,m,rfl,_⟩:=h; rfl
 ·obtain⟨p,m,rfl,⟨x,y,hp,h0,hxy⟩,hm0,hm,k⟩:=h
  refine⟨_,zf (zav (zx zeB (zai zac (pv 0) zj (fun _ _=>rfl)) zj (nomark _))
    (zf (zq (i:=2) zf2.nd rfl (Or.inl rfl) (zC zch (zai zac (pv 0) zj (fun _ _=>rfl)) (pv 1)))
    (zf (ziU (zC zgp (zai zac (pv 0) zj (fun _ _=>rfl)) (pv 1)) (zi0 (pv 0) zj set_list))
    (zi (zr (pv 2))))) zD)
   (zf (zq (i:=3) zf2.nd rfl (Or.inl rfl) (zC zch (zC zah (zC zah (zC zcB (zai zac (pv 0) zj (fun _ _=>rfl)) (zai zac (pv 0) zj (fun _ _=>rfl))) (zC zcB zj (zai zac (pv 0) zj (fun _ _=>rfl)))) zj) zj))
   (zf (ziU (zC zch (zC zah (zC zah (zC zcB (pv 3) (pv 3)) (zC zcB zj (pv 3))) zj) zj) (zi0 (pv 0) zj set_list))
   (zi (zr (zC zch (zC zgp (zai zac (pv 0) zj (fun _ _=>rfl)) zj) (pv 1)))))),?_⟩
  have a0:atI ([.int x,.int y]:List V) 0=some (.int x):=zJ (j:=0) rfl;have a1:atI ([.int x,.int y]:List V) 1=some (.int y):=zJ (j:=1) rfl;refine⟨_,rfl,p,_,_,_,rfl,rfl,SqL.of hp,a1,rfl,_,rfl,?_⟩;refine ite2 (fun h1=>?_) (fun h1=>?_)
  ·refine⟨_,rfl,p,_,_,_,rfl,rfl,SqL.of hp,a0,_,rfl,_,_,rfl,rfl,hm0,?_⟩
   refine⟨_,rfl,p,_,_,_,rfl,rfl,SqL.of hp,a0,_,rfl,_,_,rfl,rfl,⟨hm0,hm⟩,_,rfl,p,_,_,0,rfl,rfl,hp,rfl,?_⟩;refine⟨_,rfl,k (x % m) _ (Int.emod_nonneg _ (by omega)) (Int.emod_lt_of_pos _ hm0) (fun b o hb e=>by rw[upd_ne hb]; exact e) ⟨x / m,y,zd,Int.ediv_nonneg h0 (by omega),?_⟩⟩;rcases hxy with q | ⟨q,hx⟩
   ·exact .inl q
   ·refine .inr ⟨q,Int.lt_of_le_of_lt (Int.ediv_le_self _ h0) hx⟩
  ·have hy:y=1/\x<4294967296:=by
    rcases hxy with q | q
    ·exact absurd (by subst q; rfl) h1
    ·exact q
   obtain⟨rfl,hx⟩:=hy;have hb:CMul x x:=.inl ⟨by omega,by omega⟩;refine⟨_,rfl,p,_,_,_,rfl,rfl,SqL.of hp,a0,_,rfl,p,_,_,_,rfl,rfl,SqL.of hp,a0,_,_,rfl,rfl,hb,_,rfl,p,_,_,_,rfl,rfl,SqL.of hp,a0,_,_,rfl,rfl,.inl ⟨by decide,by decide⟩,_,_,rfl,rfl,_,_,rfl,rfl,_,_,rfl,rfl,(by show (0:Int)<2147483647; decide),?_⟩;have m0:=Int.emod_nonneg (x*x+39373*x+12345) (show (2147483647:Int)≠0 by decide);have m1:=Int.emod_lt_of_pos (x*x+39373*x+12345) (show (0:Int)<2147483647 by decide);obtain⟨z,ez⟩:∃z,z=(x*x+39373*x+12345) % 2147483647:=⟨_,rfl⟩;rw[<- ez] at m0 m1;show tSeq _ _ _ ([some (.ref p),some (.int m),none,some (.int ((x*x+39373*x+12345) % 2147483647))]:St) H;rw[<- ez];refine⟨_,rfl,_,rfl,_,_,rfl,rfl,.inl ⟨by omega,by omega⟩,_,rfl,_,_,rfl,rfl,.inl ⟨by decide,by decide⟩,_,_,rfl,rfl,_,_,rfl,rfl,_,_,rfl,rfl,(by show (0:Int)<2147483587; decide),_,rfl,p,_,_,0,rfl,rfl,hp,rfl,?_⟩;have g0:=Int.emod_nonneg (z*z+16807*z+7) (show (2147483587:Int)≠0 by decide);have g1:=Int.emod_lt_of_pos (z*z+16807*z+7) (show (0:Int)<2147483587 by decide);obtain⟨u,eu⟩:∃u,u=(z*z+16807*z+7) % 2147483587:=⟨_,rfl⟩;rw[<- eu] at g0 g1;have hpu:upd H p (.lst [.int ((z*z+16807*z+7) % 2147483587),.int 1]) p=some (.lst [.int u,.int 1]):=by rw[eu]; exact zd
   refine⟨_,rfl,p,_,_,_,rfl,rfl,SqL.of hpu,zJ (j:=0) rfl,_,_,rfl,rfl,⟨by decide,by decide⟩,_,rfl,_,_,rfl,rfl,hm0,?_⟩;exact k _ _ (Int.emod_nonneg _ (by omega)) (Int.emod_lt_of_pos _ hm0) (fun b o hb e=>by rw[upd_ne hb]; exact e) ⟨u,1,hpu,g0,.inr ⟨rfl,by omega⟩⟩
end
end K43
end
section
namespace K43
open K1
open PySem L2 STb
abbrev zaU:Stmt:=top 28
abbrev zaM:Stmt:=top 29
section
variable {P:Program}{w:World}{K:PySem.W.Frag}{mg:Str->Option Value}{base:Heap}
theorem zeM {H2:Hp}{as:List Addr}{fs:List (List Int)}{D l:Addr}{Q:VK} (hl:H2 l=some (.lst (as.map V.ref))) (ht:Tps H2 as fs) (hz:as.length<=100) (hD:H2 D=none)
  (k:∀bs H3,Same H2 H3->H3 D=some (.lst (bs.map V.ref))->Tps H3 bs (fs.filter fun q=>!decide (q=[]))->Q (.ref D) H3) :
  zau (Itl K l) (zap 0) (zd0 (tOp (rEqT true K) (tVar 0) (tTup tNil))) (tVar 0) [none] H2 D Q:=by
 have hla:=ht.length;refine zag (xs:=as.map V.ref) (fun j σ ys H3=>∃bs v,σ=[v]/\Same H2 H3/\H3 D=some (.lst ys)/\ys=bs.map V.ref/\Tps H3 bs ((fs.take j).filter fun q=>!decide (q=[]))) ?_ ?_ ?_ ?_
 ·exact⟨[],none,rfl,Same.new hD,zd,rfl,.nil⟩
 ·rintro j σ ys H3 ⟨bs,v,rfl,sm,hD3,rfl,hb⟩
  exact SqL.of (sm _ _ hl)
 ·rintro j σ ys H3 x hx hj hy ⟨bs,v,rfl,sm,hD3,rfl,hb⟩
  obtain⟨a,ea,rfl⟩:=zT hx;obtain⟨f,ef,hf⟩:=ht.get ea;refine⟨_,rfl,zh (by simp),fun t htn=>?_⟩;have hf3:=sm.tp hf;have s1:Same H3 (upd H3 t (.tup [])):=Same.new htn;refine .inl ⟨a,t,f,[],rfl,rfl,s1.tp hf3,zd,_,rfl,?_⟩;have sm1:=sm.trans s1;have keep:∀(o:HO) c xs,upd H3 t (.tup []) c=some (.tup xs)->upd (upd H3 t (.tup [])) D o c=some (.tup xs):=fun o c xs e=>by
   rw[upd_ne (zaA e (s1 _ _ hD3) (by intro z; cases z))]; exact e
  by_cases h:f=[]
  ·subst h
   refine iteF (cskip hj hy ⟨bs,_,rfl,sm1,s1 _ _ hD3,rfl,?_⟩);rw[take_snoc ef,List.filter_append]
   simpa using s1.tps hb
  ·rw[if_pos rfl,show (!decide (f=[]))=true by simp[h]]
   refine iteT ⟨_,rfl,cput (ys:=bs.map V.ref) (by rw[List.length_map]; exact zh (by omega)) hj hy (s1 _ _ hD3) ⟨bs++[a],_,rfl,sm1.then hD,zd,by rw[List.map_append]; rfl,?_⟩⟩;rw[take_snoc ef,List.filter_append,show [f].filter (fun q=>!decide (q=[]))=[f] by simp[h]];exact Tps.snoc (Paired.mapP (s1.tps hb) fun c xs e=>keep _ c _ e) (keep _ a _ (s1.tp hf3))
 ·rintro σ ys H3 ⟨bs,v,rfl,sm,hD3,rfl,hb⟩
  rw[List.length_map,hla,take_all] at hb;exact k bs H3 sm hD3 hb
theorem zbZ:zt ["piece","found","point"] ["piece"] (zg zaU):=⟨rfl,rfl,rfl,by decide +kernel,rfl,by decide +kernel,by decide +kernel⟩
theorem zgX {f:Addr}{fd:FuncData} (F:Fun K "_law_parts" "_law_parts" zaU f fd):FnOk P w K mg base CX0 1 f fd ["piece"] zc2:=by
 refine F.ok zbZ (fun vs H Q E h=>?_) (fun cdv A outer s H vs Q E hr h=>?_)
 ·obtain⟨a,ps,rfl,_⟩:=h; rfl
 ·obtain⟨a,ps,rfl,ha,h5,k⟩:=h
  have hu64:=hr.units;refine⟨_,zf (zq (i:=1) zbZ.nd rfl (Or.inl rfl) (z0 (zc (zaF ze) ze)))
   (zf (zaa PassesOwn.never rfl (zgk (pv 0)) (zm (i:=2) zbZ.nd rfl (Or.inr rfl))
    (zi (zq (i:=1) zbZ.nd rfl (Or.inl rfl) (zC zcw (pv 1) (zI ["piece","found","point"] ["part","point"] [none,some 2] (zz (pv 1)) (fun cl C s₀ H₀ ex=>zm (i:=0) (ndN ["part","point"]) rfl (Or.inl rfl)) (fun cl C s₀ H₀ ex=>zas)
     (fun cl C s₀ H₀ ex=>zC zds (pv 0) (zaF (zc (pv 1) ze))) (hfr:=frOf (zg zaU) (by decide +kernel)))))))
   (zi (zr (zI ["piece","found","point"] ["part"] [none] (zz (pv 1)) (fun cl C s₀ H₀ ex=>zm (i:=0) (ndN ["part"]) rfl (Or.inl rfl)) (fun cl C s₀ H₀ ex=>zbk (zx (zha hu64) (pv 0) (zaF ze) (nomark _)))
     (fun cl C s₀ H₀ ex=>pv 0) (hfr:=nofr (by decide +kernel)) (tc:=zd0 (tOp (rEqT true K) (tVar 0) (tTup tNil))))))),?_⟩
  refine⟨zh (by simp),fun e he=>⟨zh (by simp),fun l hl=>?_⟩⟩;have s1:Same H (upd (upd H e (.tup [])) l (.lst [.ref e])):=(Same.new he).then ((Same.new he).free hl);have hle:e≠l:=ne_of_none (H:=upd H e (.tup [])) zd hl;refine⟨_,rfl,a,rfl,⟨_,SqT.of (s1 _ _ ha)⟩,zg8 (K:=K) (a:=a) (xs:=ps.map V.int) (fun i σ H2=>∃l as v,σ=[some (.ref a),some (.ref l),v]/\Same H H2/\H l=none/\H2 l=some (.lst (as.map V.ref))/\Tps H2 as (subs (ps.take i)))
   ⟨l,[e],none,rfl,s1,(Same.new he).free hl,zd,.cons (by show upd _ _ _ e=_; rw[upd_ne hle]; exact zd) .nil⟩ (fun i σ H2 _ ⟨_,_,_,_,sm,_⟩=>SqT.of (sm _ _ ha)) ?_ ?_⟩
  ·rintro i x σ H2 hx ⟨l,as,v,rfl,sm,hl0,hl,ht⟩
   obtain⟨q,eq,rfl⟩:=zdF hx;have hi:i<ps.length:=(List.getElem?_eq_some_iff.mp eq).1;have hla:=ht.length;have hn:as.length<=32:=by
    rw[hla,zbU,List.length_take];exact pow5 (by omega)
   have hm:∀f∈subs (ps.take i),f.length<=100:=fun f hf=>by
    have:=zbO _ f hf;rw[List.length_take] at this;omega
   refine⟨_,rfl,_,rfl,l,rfl,⟨_,SqL.of hl⟩,fun D hD=>zN (zcJ hl ht (by omega) hm hD fun bs H3 sm3 hD3 hb=>?_)⟩;have hlb:=hb.length;rw[List.length_map] at hlb;refine⟨l,D,_,_,rfl,rfl,sm3 _ _ hl,hD3,by rw[List.length_map,List.length_map]; exact zh (by omega),fun l2 hl2=>?_⟩;have h02:H l2=none:=(sm.trans sm3).free hl2;refine⟨l2,as++bs,_,rfl,(sm.trans sm3).then h02,h02,by rw[zd,List.map_append],?_⟩;rw[take_snoc eq,zcf];exact (Same.new hl2).tps ((sm3.tps ht).append hb)
  ·rintro σ H2 ⟨l,as,v,rfl,sm,hl0,hl,ht⟩
   rw[List.length_map,take_all] at ht;have hla:=ht.length;refine⟨_,rfl,l,rfl,⟨_,SqL.of hl⟩,fun D hD=>zN (zeM hl ht (by rw[hla,zbU]; have:=pow5 h5; omega) hD fun bs H3 sm3 hD3 hb=>?_)⟩;rw[zdN] at hb;exact k D bs H3 (sm.trans sm3) (sm.free hD) hD3 hb
theorem zfG {H2:Hp}{bs:List Addr}{fs:List (List Int)}{D l:Addr}{Q:VK} (hl:H2 l=some (.lst (bs.map V.ref))) (ht:Tps H2 bs fs) (hz:bs.length<=1000) (hD:H2 D=none)
  (k:∀(cs:List Addr) H3,Same H2 H3->H3 D=some (.lst (cs.map V.ref))->cs.length=bs.length->(∀(i:Nat) c,cs[i]?=some c->∃b f,bs[i]?=some b/\fs[i]?=some f/\H3 c=some (.tup [.int f.length,.ref b]))->Q (.ref D) H3) :
  zau (Itl K l) (zap 0) tYes (tTup (zbc (tCB (fun xs H Q=>∃p ys,xs=[V.ref p]/\(SqL K H p ys \/ SqT K H p ys)/\Q (.int ys.length) H) (zbc (tVar 0) tNil)) (zbc (tVar 0) tNil))) [none] H2 D Q:=by
 have hla:=ht.length;refine zag (xs:=bs.map V.ref) (fun j σ ys H3=>∃(cs:List Addr) (v:Option V),σ=[v]/\Same H2 H3/\H3 D=some (.lst ys)/\ys=cs.map V.ref/\cs.length=j/\∀(i:Nat) c,cs[i]?=some c->∃b f,bs[i]?=some b/\fs[i]?=some f/\H3 c=some (.tup [.int f.length,.ref b])) ?_ ?_ ?_ ?_
 ·exact⟨[],none,rfl,Same.new hD,zd,rfl,rfl,fun i c e=>by simp at e⟩
 ·rintro j σ ys H3 ⟨cs,v,rfl,sm,hD3,rfl,hj,hc⟩
  exact SqL.of (sm _ _ hl)
 ·rintro j σ ys H3 x hx hj hy ⟨cs,v,rfl,sm,hD3,rfl,hcl,hc⟩
  obtain⟨b,eb,rfl⟩:=zT hx;obtain⟨f,ef,hf⟩:=ht.get eb;refine gyes ?_;refine⟨_,rfl,b,_,rfl,.inr (SqT.of (sm.tp hf)),_,rfl,zh (by simp),fun t htn=>?_⟩;rw[show (f.map V.int).length=f.length from List.length_map _];have s1:Same H3 (upd H3 t (.tup [.int f.length,.ref b])):=Same.new htn;have keep:∀(o:HO) c xs,upd H3 t (.tup [.int f.length,.ref b]) c=some (.tup xs)->upd (upd H3 t (.tup [.int f.length,.ref b])) D o c=some (.tup xs):=fun o c xs e=>by
   rw[upd_ne (zaA e (s1 _ _ hD3) (by intro z; cases z))]; exact e
  refine cput (ys:=cs.map V.ref) (by rw[List.length_map]; exact zh (by omega)) hj hy (s1 _ _ hD3) ⟨cs++[t],_,rfl,(sm.trans s1).then hD,zd,by rw[List.map_append]; rfl,by rw[List.length_append,hcl]; rfl,fun i c e=>?_⟩
  by_cases hi:i<cs.length
  ·rw[List.getElem?_append_left hi] at e
   obtain⟨b',f',e1,e2,e3⟩:=hc i c e;exact⟨b',f',e1,e2,keep _ c _ (s1 _ _ e3)⟩
  ·rw[List.getElem?_append_right (by omega)] at e
   have h0:i - cs.length=0:=by
    rcases Nat.eq_zero_or_pos (i - cs.length) with z | z
    ·exact z
    ·rw[List.getElem?_eq_none (by simp only[List.length_cons,List.length_nil]; omega)] at e; cases e
   rw[h0] at e;obtain rfl:t=c:=by simpa using e
   have:i=j:=by omega
   subst this;exact⟨b,f,eb,ef,keep _ t _ zd⟩
 ·rintro σ ys H3 ⟨cs,v,rfl,sm,hD3,rfl,hcl,hc⟩
  rw[List.length_map] at hcl;exact k cs H3 sm hD3 hcl hc
def zd6 (H:Hp) (c:Addr):Addr:=match H c with
 | some (.tup [_,.ref b])=>b
 | _=>0
theorem zgK {H2:Hp}{cs:List Addr}{D l:Addr}{Q:VK} (hl:H2 l=some (.lst (cs.map V.ref))) (ht:∀c∈cs,∃n b,H2 c=some (.tup [.int n,.ref b])) (hz:cs.length<=1000) (hD:H2 D=none)
  (k:∀H3,Same H2 H3->H3 D=some (.lst (cs.map fun c=>V.ref (zd6 H2 c)))->Q (.ref D) H3) :
  zau (Itl K l) (zap 0) tYes (tOp (rIxT K) (tVar 0) (tC (.int 1))) [none] H2 D Q:=by
 refine zag (xs:=cs.map V.ref) (fun j σ ys H3=>∃v,σ=[v]/\Same H2 H3/\H3 D=some (.lst ys)/\ys=(cs.take j).map fun c=>V.ref (zd6 H2 c)) ?_ ?_ ?_ ?_
 ·exact⟨none,rfl,Same.new hD,zd,rfl⟩
 ·rintro j σ ys H3 ⟨v,rfl,sm,hD3,rfl⟩
  exact SqL.of (sm _ _ hl)
 ·rintro j σ ys H3 x hx hj hy ⟨v,rfl,sm,hD3,rfl⟩
  obtain⟨c,ec,rfl⟩:=zT hx;obtain⟨n,b,e⟩:=ht c (List.mem_of_getElem? ec);refine gyes ?_;refine⟨_,rfl,c,_,_,_,rfl,rfl,SqT.of (sm _ _ e),zJ (j:=1) rfl,cput (by rw[List.length_map]; exact zh (by omega)) hj hy hD3 ⟨_,rfl,sm.then hD,zd,?_⟩⟩;rw[take_snoc ec,List.map_append];have:zd6 H2 c=b:=by unfold zd6; rw[e]
  rw[<- this]; rfl
 ·rintro σ ys H3 ⟨v,rfl,sm,hD3,rfl⟩
  rw[List.length_map,take_all] at hD3;exact k H3 sm hD3
theorem za1:zt ["web","found","piece","part","ranked"] ["web"] (zg zaM):=⟨rfl,rfl,rfl,by decide +kernel,rfl,by decide +kernel,by decide +kernel⟩
theorem zfV {f fp:Addr}{fd fdp:FuncData} (F:Fun K "_law_pieces" "_law_pieces" zaM f fd) (B:Bt mg)
  (Fp:Fun K "_law_parts" "_law_parts" zaU fp fdp) (bp:Binds K fdp ["piece"] []) (mp:mg "_law_parts"=some (.ref fp)):FnOk P w K mg base CX0 2 f fd ["web"] (zgY K):=by
 have Gp:FnOk P w K mg base CX0 1 fp fdp ["piece"] zc2:=zgX Fp;refine F.ok za1 (fun vs H Q E h=>?_) (fun cdv A outer s H vs Q E hr h=>?_)
 ·obtain⟨l,as,pss,rfl,_⟩:=h; rfl
 ·obtain⟨l,as,pss,rfl,hl,ht,h5,h20,h64,k⟩:=h
  have hu:=zdC hr;have hu64:=hr.units;refine⟨_,zf (zq (i:=1) za1.nd rfl (Or.inl rfl) zbo)
   (zf (zaa PassesOwn.never rfl (zz (pv 0)) (zm (i:=2) za1.nd rfl (Or.inl rfl))
    (zi (zaa PassesOwn.never rfl (zz (zl Gp hr rfl mp Fp.kp bp .nil pass0 (zc (pv 2) ze))) (zm (i:=3) za1.nd rfl (Or.inl rfl))
     (zi (zct hu (pv 1) (pv 3) zaY rfl)))))
   (zf (zq (i:=4) za1.nd rfl (Or.inl rfl) (zu (zcq hu64) rfl B.sorted zdm (zc
    (zI ["web","found","piece","part","ranked"] ["piece"] [none] (zz (zL (zbL rfl) rfl B.list zbJ (zc (pv 1) ze))) (fun cl C s₀ H₀ ex=>zm (i:=0) (ndN ["piece"]) rfl (Or.inl rfl)) (fun cl C s₀ H₀ ex=>zas)
     (fun cl C s₀ H₀ ex=>zaF (zc (zu zn rfl B.len za3 (zc (pv 0) ze)) (zc (pv 0) ze))) (hfr:=nofr (by decide +kernel)) (te:=tTup (zbc (tCB (fun xs H Q=>∃p ys,xs=[V.ref p]/\(SqL K H p ys \/ SqT K H p ys)/\Q (.int ys.length) H) (zbc (tVar 0) tNil)) (zbc (tVar 0) tNil)))) ze)))
   (zi (zr (zI ["web","found","piece","part","ranked"] ["one"] [none] (zz (pv 4)) (fun cl C s₀ H₀ ex=>zm (i:=0) (ndN ["one"]) rfl (Or.inl rfl)) (fun cl C s₀ H₀ ex=>zas)
     (fun cl C s₀ H₀ ex=>zai zaT (pv 0) zj (fun _ _=>rfl)) (hfr:=nofr (by decide +kernel)) (te:=tOp (rIxT K) (tVar 0) (tC (.int 1)))))))),?_⟩
  intro d hd;have hla:=ht.length;refine⟨_,rfl,l,rfl,⟨_,(Same.new hd).seq hl⟩,zK (K:=K) (a:=l) (xs:=as.map V.ref) (fun i σ H2=>∃v v' u,σ=[some (.ref l),some (.ref d),v,v',u]/\Same H H2/\H2 d=some (.dT (kvM ((pss.take i).flatMap parts))))
   ⟨none,none,none,rfl,Same.new hd,zd⟩ (fun i σ H2 _ ⟨_,_,_,_,sm,_⟩=>sm.seq hl) ?_ ?_⟩
  ·rintro i x σ H2 hx ⟨v,v',u,rfl,sm,hd2⟩
   obtain⟨a,ea,rfl⟩:=zT hx;obtain⟨ps,eps,hps⟩:=ht.get ea;have hps5:=h5 ps (List.mem_of_getElem? eps);have hi:i<pss.length:=(List.getElem?_eq_some_iff.mp eps).1;refine⟨_,rfl,a,ps,rfl,sm.tp hps,hps5,fun D cs H3 sm3 hD0 hD hcs=>⟨D,rfl,⟨_,SqL.of hD⟩,?_⟩⟩;have hlc:=hcs.length;have hdD:D≠d:=zaA hD (sm3 _ _ hd2) (by intro z; cases z);refine zK (K:=K) (a:=D) (xs:=cs.map V.ref) (fun j σ H4=>∃v',σ=[some (.ref l),some (.ref d),some (.ref a),v',u]/\Same H H4/\H4 D=some (.lst (cs.map V.ref))/\Tps H4 cs (parts ps)/\H4 d=some (.dT (kvM ((pss.take i).flatMap parts++(parts ps).take j))))
    ⟨_,rfl,sm.trans sm3,hD,hcs,by rw[List.take_zero,List.append_nil]; exact sm3 _ _ hd2⟩ (fun j σ H4 _ ⟨_,_,_,q,_⟩=>SqL.of q) ?_ ?_
   ·rintro j x σ H4 hx ⟨v',rfl,sm4,hD4,hcs4,hd4⟩
    obtain⟨c,ec,rfl⟩:=zT hx;obtain⟨f,ef,hf⟩:=hcs4.get ec;have hlen:(kvM ((pss.take i).flatMap parts++(parts ps).take j)).length<sizeLine:=by
     refine zS (Nat.le_trans (zeq _) ?_);rw[List.length_append];have h1:=zdp (pss.take i) (fun q hq=>h5 q (List.mem_of_mem_take hq));have h2:=zaB ps;have h3:=pow5 hps5;rw[List.length_take] at h1 ⊢;omega
    refine⟨_,rfl,_,rfl,d,_,rfl,DPut.t (k:=f.map Sum.inl) hd4 (by rw[List.map_map]; exact hf) hlen,⟨_,rfl,sm4.then hd,?_,?_,?_⟩⟩
    ·rw[upd_ne hdD]; exact hD4
    ·exact Tps.upd hcs4 hd4 (by intro xs z; cases z)
    ·rw[zd,zeP,List.append_assoc,<- take_snoc ef]
   ·rintro σ H4 ⟨v',rfl,sm4,hD4,hcs4,hd4⟩
    refine⟨_,_,_,rfl,sm4,?_⟩;rw[List.length_map,hlc,take_all] at hd4;rw[zdB eps];exact hd4
  ·rintro σ H2 ⟨v,v',u,rfl,sm,hd2⟩
   rw[List.length_map,hla,take_all] at hd2;refine⟨_,rfl,d,_,rfl,hd2,fun bs hb l2 hl2=>?_⟩;have tb:=zfn hb;have hlb:=tb.length;have hdl:(dd (pss.flatMap parts)).length<=620:=by
    have h1:=zbp (pss.flatMap parts);have h2:=zdp pss h5;omega
   have s2:Same H2 (upd H2 l2 (.lst (bs.map V.ref))):=Same.new hl2;refine⟨l2,rfl,⟨_,SqL.of zd⟩,fun D hD=>zN (zfG (K:=K) zd (s2.tps tb) (by omega) hD fun cs H3 sm3 hD3 hcl hc=>?_)⟩;have tb3:=sm3.tps (s2.tps tb);refine⟨D,cs,(dd (pss.flatMap parts)).map fun f=>((f.length:Int)::f),rfl,SqL.of hD3,?_,(by rw[List.length_map]; exact h64),fun R qs hp hs hR=>?_⟩
   ·refine Paired.of_at (by rw[List.length_map]; omega) fun i c y e1 e2=>?_
    obtain⟨b,f,g1,g2,g3⟩:=hc i c e1;rw[List.getElem?_map,g2] at e2;obtain rfl:=Option.some.inj e2;exact⟨_,b,f,rfl,g3,za0 tb3 i b f g1 g2⟩
   ·have s4:Same H3 (upd H3 R (.lst (qs.map fun q=>V.ref q.2))):=Same.new hR
    have hq:∀q∈qs,∃b f,q.1=((f:List Int).length:Int)::f/\H3 q.2=some (.tup [.int f.length,.ref b])/\Tp H3 b f:=fun q hq=>by
     obtain⟨m,em⟩:=List.mem_iff_getElem?.mp (hp.mem_iff.mp hq);rw[Srt.zipget,List.getElem?_map] at em;cases e2:cs[m]? with
     | none=>rw[e2] at em; cases h:(dd (pss.flatMap parts))[m]? <;> rw[h] at em <;> cases em
     | some c=>
      obtain⟨b,f,g1,g2,g3⟩:=hc m c e2;rw[g2,e2] at em;obtain rfl:(((f.length:Int)::f),c)=q:=Option.some.inj em;exact⟨b,f,rfl,g3,za0 tb3 m b f g1 g2⟩
    have hql:qs.length<=620:=by rw[hp.length_eq,List.length_zip,List.length_map]; omega
    refine⟨_,rfl,R,rfl,⟨_,SqL.of zd⟩,fun D2 hD2=>zN (zgK (K:=K) (cs:=qs.map (·.2)) (by rw[zd,List.map_map]; rfl) (fun c hcm=>?_) (by rw[List.length_map]; omega) hD2 fun H5 sm5 hD5=>?_)⟩
    ·obtain⟨q,hqm,rfl⟩:=List.mem_map.mp hcm
     obtain⟨b,f,_,g2,_⟩:=hq q hqm;exact⟨_,b,s4 _ _ g2⟩
    ·have sAll:Same H H5:=((sm.trans s2).trans sm3).trans (s4.trans sm5)
     have snd:∀q∈qs,∀b f,H3 q.2=some (.tup [.int (f:List Int).length,.ref b])->zd6 (upd H3 R (.lst (qs.map fun q=>V.ref q.2))) q.2=b:=fun q _ b f e=>by
      unfold zd6; rw[s4 _ _ e]
     refine k D2 H5 (qs.map fun q=>(q.1.tail,zd6 (upd H3 R (.lst (qs.map fun q=>V.ref q.2))) q.2)) ⟨sAll,(((sm.trans s2).trans sm3).trans s4).free hD2,?_,fun q hqm=>?_,?_,?_⟩
     ·rw[hD5,List.map_map,List.map_map]; rfl
     ·obtain⟨q0,h0,rfl⟩:=List.mem_map.mp hqm
      obtain⟨b,f,g1,g2,g3⟩:=hq q0 h0;show Tp H5 (zd6 _ q0.2) q0.1.tail;rw[snd q0 h0 b f g2,g1];exact sm5.tp (s4.tp g3)
     ·rw[List.map_map]
      have h1:=hp.map (fun q:List Int×Addr=>q.1.tail);have e:((((dd (pss.flatMap parts)).map fun f=>((f.length:Int)::f)).zip cs).map fun q:List Int×Addr=>q.1.tail)=dd (pss.flatMap parts):=by
       rw[show (fun q:List Int×Addr=>q.1.tail)=(fun l:List Int=>l.tail) ∘ Prod.fst from rfl,<- List.map_map,List.map_fst_zip (by rw[List.length_map]; omega),List.map_map];exact List.map_id' _
      rw[e] at h1;exact h1
     ·rw[List.pairwise_map]
      refine hs.imp_of_mem fun {p q} h1 h2 h3=>?_;obtain⟨_,f,g1,_⟩:=hq p h1;obtain⟨_,f',g1',_⟩:=hq q h2;rw[g1,g1'] at h3;rw[g1,g1'];exact h3
end
end K43
end
section
namespace K43
open K1
open PySem L2 STb
abbrev zcr:Stmt:=top 30
abbrev zbM:Stmt:=top 31
def texts:List Str:=(["","0","01 12 02","012 013 023 123","01 02 03","012 023 034 014","0123","01 23 45","012 34"]:List Str)++(["012 123 234 034 014","01 12 23 03 13","012 013 014","0 1 2 3"]:List Str)++(["01 12 02 34 45 35","023 234 1"]:List Str)
++(["014 015 023 025 034 123 124 135 245 345","012 013 024 034 125 135 245 345"]:List Str)++(["01234","0123 0124 0134 0234 1234"]:List Str)++(["013 123 234 024 014 145 125 025 056 016 126 267 027 037 345 356 367"]:List Str)
def wordsOf (n:Nat):List Str:=Txt.split (texts.getD n "") " "
def digits (x:Str):List Int:=x.cps.toList.map fun (c:Nat)=>((c:Int) - 48)
def known (n:Nat):List (List Int):=((wordsOf n).filter fun (x:Str)=>!decide (x="")).map digits
theorem zhK:∀n,n<20->(texts.getD n "").length+2<=1000/\(wordsOf n).length<=20/\∀x∈wordsOf n,x.cps.size<=5/\∀c∈x.cps.toList,48<=c/\c<=57:=by decide +kernel
theorem zjQ:∀c,48<=c->c<=57->intText? ⟨#[c]⟩=some ((c:Int) - 48):=by
 intro c h1 h2;have:∀c,c<58->48<=c->intText? ⟨#[c]⟩=some ((c:Int) - 48):=by decide +kernel
 exact this c (by omega) h1
section
variable {P:Program}{w:World}{K:PySem.W.Frag}{mg:Str->Option Value}{base:Heap}
def zhh:Sp:=fun vs H Q _=>∃n:Nat,vs=[.int n]/\n<20/\∀D as H',Same H H'->H D=none->H' D=some (.lst (as.map V.ref))->Tps H' as (known n)->Q (.ref D) H'
theorem zbm:zt ["number","some","web","word"] ["number"] (zg zcr):=⟨rfl,rfl,rfl,by decide +kernel,rfl,by decide +kernel,by decide +kernel⟩
theorem zfz {H2:Hp}{x:Str}{D:Addr}{Q:VK} (hx:x.cps.size<=5) (hc:∀c∈x.cps.toList,48<=c/\c<=57) (hD:H2 D=none)
  (k:∀H3,Same H2 H3->H3 D=some (.lst ((digits x).map V.int))->Q (.ref D) H3) :
  zau (Its x) (zap 0) tYes (tCB (fun xs H Q=>∃x n,xs=[.str x]/\intText? x=some n/\x.length<=640/\Q (.int n) H) (zbc (tVar 0) tNil)) [none] H2 D Q:=by
 refine zh4 (fun j σ ys H3=>∃v,σ=[v]/\Same H2 H3/\H3 D=some (.lst ys)/\ys=((digits x).take j).map V.int) ?_ ?_ ?_
 ·exact⟨none,rfl,Same.new hD,zd,rfl⟩
 ·rintro j σ ys H3 c ec hj hy ⟨v,rfl,sm,hD3,rfl⟩
  have ecl:x.cps.toList[j]?=some c:=by simpa using ec
  obtain⟨c1,c2⟩:=hc c (List.mem_of_getElem? ecl);refine gyes ?_;refine⟨_,rfl,⟨#[c]⟩,_,rfl,zjQ c c1 c2,by show 1<=640; decide,cput (zh (by omega)) hj hy hD3 ⟨_,rfl,sm.then hD,zd,?_⟩⟩;have e:(digits x)[j]?=some ((c:Int) - 48):=by unfold digits; rw[List.getElem?_map,ecl]; rfl
  rw[take_snoc e,List.map_append]; rfl
 ·rintro σ ys H3 ⟨v,rfl,sm,hD3,rfl⟩
  rw[List.take_of_length_le (by unfold digits; simp)] at hD3;exact k H3 sm hD3
theorem ziv {f:Addr}{fd:FuncData} (F:Fun K "_law_known" "_law_known" zcr f fd) (B:Bt mg):FnOk P w K mg base CX0 1 f fd ["number"] zhh:=by
 refine F.ok zbm (fun vs H Q E h=>?_) (fun cdv A outer s H vs Q E hr h=>?_)
 ·obtain⟨n,rfl,_⟩:=h; rfl
 ·obtain⟨n,rfl,hn,k⟩:=h
  refine⟨_,zf (zq (i:=1) zbm.nd rfl (Or.inl rfl) (z0 (zc zU (zc zU (zc zU (zc zU (zc zU (zc zU (zc zU (zc zU (zc zU ze)))))))))))
   (zf (zq (i:=1) zbm.nd rfl (Or.inl rfl) (zC zcw (pv 1) (z0 (zc zU (zc zU (zc zU (zc zU (zc zU (zc zU ze)))))))))
   (zf (zq (i:=1) zbm.nd rfl (Or.inl rfl) (zC zcw (pv 1) (z0 (zc zU (zc zU ze)))))
   (zf (zq (i:=1) zbm.nd rfl (Or.inl rfl) (zC zcw (pv 1) (z0 (zc zU (zc zU ze)))))
   (zf (zaq (zbR PySem.F.plainAttrs_list PySem.F.slot_list_append PySem.F.type_list_append zR (pv 1) (zc zU ze)))
   (zf (zq (i:=2) zbm.nd rfl (Or.inl rfl) (z0 ze))
   (zf (zaa PassesOwn.never rfl (zz (zbR PySem.F.plainAttrs_str PySem.F.slot_str_split PySem.F.type_str_split zib (zai zac (pv 1) (zC zch (pv 0) zj) (fun _ _=>rfl)) (zc zU ze))) (zm (i:=3) zbm.nd rfl (Or.inl rfl))
    (zi (zav (zx zkS (pv 3) zU (nomark _))
     (zi (zaq (zbR PySem.F.plainAttrs_list PySem.F.slot_list_append PySem.F.type_list_append zR (pv 2) (zc (zL zal rfl B.tuple zb4 (zc
      (zI ["number","some","web","word"] ["sign"] [none] (zkN (pv 3)) (fun cl C s₀ H₀ ex=>zm (i:=0) (ndN ["sign"]) rfl (Or.inl rfl)) (fun cl C s₀ H₀ ex=>zas)
       (fun cl C s₀ H₀ ex=>zL zdd rfl B.int zlG (zc (pv 0) ze)) (hfr:=nofr (by decide +kernel))) ze)) ze)))) zD)))
   (zi (zr (pv 2))))))))),?_⟩
  have t20:texts.length=20:=rfl;have hat:atI (texts.map V.str) ((n:Int) % 20)=some (.str (texts.getD n "")):=by
   rw[show (n:Int) % 20=(n:Int) by omega];refine zJ ?_;have e:texts[n]?=some texts[n]:=List.getElem?_eq_getElem (by omega);rw[List.getElem?_map,List.getD_eq_getElem?_getD,e]; rfl
  obtain⟨g1,g2,g3⟩:=zhK n hn;refine⟨zh (by simp),fun l1 h1=>?_⟩;have s1:=Same.new (H:=H) (o:=.lst [.str "",.str "0",.str "01 12 02",.str "012 013 023 123",.str "01 02 03",.str "012 023 034 014",.str "0123",.str "01 23 45",.str "012 34"]) h1;refine⟨_,rfl,zh (by simp),fun m1 hm1=>⟨l1,m1,_,_,rfl,rfl,Same.new hm1 _ _ zd,zd,zh (by simp),fun l3 h3=>?_⟩⟩;have s3:=(s1.trans (Same.new hm1)).trans (Same.new (o:=.lst ((texts.take 15).map V.str)) h3);refine⟨_,rfl,zh (by simp),fun m3 hm3=>⟨l3,m3,_,_,rfl,rfl,Same.new hm3 _ _ zd,zd,zh (by simp),fun l4 h4=>?_⟩⟩;have s4:=(s3.trans (Same.new hm3)).trans (Same.new (o:=.lst ((texts.take 17).map V.str)) h4);refine⟨_,rfl,zh (by simp),fun m4 hm4=>⟨l4,m4,_,_,rfl,rfl,Same.new hm4 _ _ zd,zd,zh (by simp),fun l5 h5=>?_⟩⟩;have s5:=(s4.trans (Same.new hm4)).trans (Same.new (o:=.lst ((texts.take 19).map V.str)) h5);have h50:H l5=none:=(s4.trans (Same.new hm4)).free h5;refine⟨_,rfl,.inl ⟨rfl,_,SqL.of zd⟩,l5,_,_,rfl,rfl,zd,zS (by simp),zh (by simp),fun wl hwl=>?_⟩;generalize hH6:upd (upd _ l5 _) l5 _=H6 at hwl;have e6:H6 l5=some (.lst (texts.map V.str)):=by rw[<- hH6,zd]; rfl
  have s6:Same H H6:=by
   rw[<- hH6];exact s5.then h50
  have hw0:H wl=none:=s6.free hwl;have s7:Same H (upd H6 wl (.lst [])):=s6.then hw0;have e7:upd H6 wl (.lst []) l5=some (.lst (texts.map V.str)):=Same.new hwl _ _ e6;refine⟨_,rfl,_,rfl,_,_,rfl,rfl,(by show (0:Int)<20; decide),l5,_,_,_,rfl,rfl,SqL.of e7,hat,rfl,_,_,rfl,rfl,by decide,zh (by omega),zh (show (wordsOf n).length<=100000 by omega),fun D hD=>⟨D,rfl,⟨_,SqL.of zd⟩,?_⟩⟩;have hwD:wl≠D:=ne_of_none (H:=upd H6 wl (.lst [])) zd hD;have hD0:H D=none:=s7.free hD;refine zK (K:=K) (a:=D) (xs:=(wordsOf n).map V.str) (fun i σ H2=>∃as v,σ=[some (.int n),some (.ref l5),some (.ref wl),v]/\Same H H2/\H2 D=some (.lst ((wordsOf n).map V.str))/\H2 wl=some (.lst (as.map V.ref))/\Tps H2 as ((((wordsOf n).take i).filter fun (x:Str)=>!decide (x="")).map digits))
   ⟨[],none,rfl,s7.then hD0,zd,by rw[upd_ne hwD]; exact zd,.nil⟩ (fun i σ H2 _ ⟨_,_,_,_,q,_⟩=>SqL.of q) ?_ ?_
  ·rintro i x σ H2 hx ⟨as,v,rfl,sm,hD2,hw2,ht⟩
   rw[List.getElem?_map] at hx;cases ex:(wordsOf n)[i]? with
   | none=>rw[ex] at hx; cases hx
   | some y=>
    rw[ex] at hx;obtain rfl:=Option.some.inj hx;have hi:i<(wordsOf n).length:=(List.getElem?_eq_some_iff.mp ex).1;obtain⟨y5,yc⟩:=g3 y (List.mem_of_getElem? ex);refine⟨_,rfl,rfl,_,rfl,?_⟩
    by_cases hy:y=""
    ·subst hy
     refine iteF ⟨as,_,rfl,sm,hD2,hw2,?_⟩;rw[take_snoc ex,List.filter_append,List.map_append]
     simpa using ht
    ·rw[show (!decide (V.str y=V.str ""))=true from by simp[hy]]
     refine iteT ⟨_,rfl,.inl ⟨rfl,_,SqL.of hw2⟩,_,rfl,y,rfl,fun D2 hDn=>zN (zfz y5 yc hDn fun H3 sm3 hD3=>⟨D2,_,rfl,.inl ⟨SqL.of hD3,fun t htn=>?_⟩⟩)⟩;have s8:Same H2 (upd H3 t (.tup ((digits y).map V.int))):=sm3.trans (Same.new htn);have hla:=ht.length;have hl20:as.length<=20:=by
      rw[hla,List.length_map];exact Nat.le_trans (List.length_filter_le _ _) (by rw[List.length_take]; omega)
     refine⟨wl,_,_,rfl,rfl,s8 _ _ hw2,zS (by rw[List.length_map]; omega),⟨as++[t],_,rfl,(sm.trans s8).then hw0,?_,by rw[zd,List.map_append]; rfl,?_⟩⟩
     ·rw[upd_ne hwD.symm]; exact s8 _ _ hD2
     ·rw[take_snoc ex,List.filter_append,List.map_append,show [y].filter (fun (x:Str)=>!decide (x=""))=[y] by simp[hy]]
      exact Tps.upd (Tps.snoc (s8.tps ht) zd) (s8 _ _ hw2) (by intro xs z; cases z)
  ·rintro σ H2 ⟨as,v,rfl,sm,hD2,hw2,ht⟩
   rw[List.length_map,take_all] at ht;exact⟨_,rfl,k wl as H2 sm hw0 hw2 ht⟩
def ren (first gap:Int) (ps:List Int):List Int:=ps.map fun x=>first+gap*x
def zgB:Sp:=fun vs H Q _=>∃p l as pss,vs=[.ref p,.ref l]/\zab H p/\H l=some (.lst (as.map V.ref))/\Tps H as pss/\pss.length<=20/\(∀ps∈pss,ps.length<=10)/\
 ∀D bs qss first gap H',zae p H H'->zab H' p->H D=none->H' D=some (.lst (bs.map V.ref))->Tps H' bs qss->0<=first->first<12->1<=gap->gap<=3->qss.Perm (pss.map (ren first gap))->Q (.ref D) H'
theorem zb6:zt ["box","web","gap","first","found","piece"] ["box","web"] (zg zbM):=⟨rfl,rfl,rfl,by decide +kernel,rfl,by decide +kernel,by decide +kernel⟩
theorem zin {H2:Hp}{a D:Addr}{ps:List Int}{first gap:Int}{Q:VK} (ha:Tp H2 a ps) (hz:ps.length<=10) (hg:1<=gap/\gap<=3) (hD:H2 D=none)
  (k:∀H3,Same H2 H3->H3 D=some (.lst ((ren first gap ps).map V.int))->Q (.ref D) H3) :
  zau (Itt K a) (zap 0) tYes (tOp (rI0 fun i j=>.int (i+j)) (tVar 1) (tOp (rI CMul fun i j=>.int (i*j)) (tVar 2) (tVar 0))) [none,some (.int first),some (.int gap)] H2 D Q:=by
 refine zhI (xs:=ps.map V.int) (fun j σ ys H3=>∃v,σ=[v,some (.int first),some (.int gap)]/\Same H2 H3/\H3 D=some (.lst ys)/\ys=((ren first gap ps).take j).map V.int) ?_ ?_ ?_ ?_
 ·exact⟨none,rfl,Same.new hD,zd,rfl⟩
 ·rintro j σ ys H3 ⟨v,rfl,sm,hD3,rfl⟩
  exact SqT.of (sm.tp ha)
 ·rintro j σ ys H3 x hx hj hy ⟨v,rfl,sm,hD3,rfl⟩
  obtain⟨q,eq,rfl⟩:=zdF hx;refine gyes ?_;refine⟨_,rfl,_,rfl,_,rfl,_,_,rfl,rfl,.inl ⟨by omega,by omega⟩,_,_,rfl,rfl,cput (by rw[List.length_map]; exact zh (by omega)) hj hy hD3 ⟨_,rfl,sm.then hD,zd,?_⟩⟩;have e:(ren first gap ps)[j]?=some (first+gap*q):=by unfold ren; rw[List.getElem?_map,eq]; rfl
  rw[take_snoc e,List.map_append]; rfl
 ·rintro σ ys H3 ⟨v,rfl,sm,hD3,rfl⟩
  rw[List.take_of_length_le (by unfold ren; simp)] at hD3;exact k H3 sm hD3
theorem zhD {f ft:Addr}{fd fdt:FuncData} (F:Fun K "_law_named" "_law_named" zbM f fd) (B:Bt mg) (Ft:Fun K "_law_take" "_law_take" zcu ft fdt) (bt:Binds K fdt ["box","most"] []) (mt:mg "_law_take"=some (.ref ft)) :
  FnOk P w K mg base CX0 2 f fd ["box","web"] zgB:=by
 have Gt:FnOk P w K mg base CX0 1 ft fdt ["box","most"] zdW:=zc3 Ft;refine F.ok zb6 (fun vs H Q E h=>?_) (fun cdv A outer s H vs Q E hr h=>?_)
 ·obtain⟨p,l,as,pss,rfl,_⟩:=h; rfl
 ·obtain⟨p,l,as,pss,rfl,hb,hl,ht,h20,h10,k⟩:=h
  refine⟨_,zf (zq (i:=2) zb6.nd rfl (Or.inr rfl) (zC zah zj (zl Gt hr rfl mt Ft.kp bt .nil pass0 (zc (pv 0) (zc zj ze)))))
   (zf (zq (i:=3) zb6.nd rfl (Or.inr rfl) (zl Gt hr rfl mt Ft.kp bt .nil pass0 (zc (pv 0) (zc zj ze))))
   (zf (zq (i:=4) zb6.nd rfl (Or.inl rfl) (z0 ze))
   (zf (zaa PassesOwn.never rfl (zz (pv 1)) (zm (i:=5) zb6.nd rfl (Or.inl rfl))
    (zi (zaq (zbR PySem.F.plainAttrs_list PySem.F.slot_list_insert PySem.F.type_list_insert zgj (pv 4)
     (zc (zl Gt hr rfl mt Ft.kp bt .nil pass0 (zc (pv 0) (zc (zC zah (zu zn rfl B.len za3 (zc (pv 4) ze)) zj) ze)))
     (zc (zL zal rfl B.tuple zb4 (zc
      (zI ["box","web","gap","first","found","piece"] ["point","first","gap"] [none,some 3,some 2] (zgk (pv 5)) (fun cl C s₀ H₀ ex=>zm (i:=0) (ndN ["point","first","gap"]) rfl (Or.inl rfl)) (fun cl C s₀ H₀ ex=>zas)
       (fun cl C s₀ H₀ ex=>zC zah (pv 1) (zC zcB (pv 2) (pv 0))) (hfr:=frOf (zg zbM) (by decide +kernel))) ze)) ze))))))
   (zi (zr (pv 4)))))),?_⟩
  refine⟨_,rfl,p,3,rfl,hb,by decide,by decide,fun r1 H1 a1 a2 sb1 hb1=>⟨_,_,rfl,rfl,?_⟩⟩;refine⟨_,rfl,p,12,rfl,hb1,by decide,by decide,fun r2 H2 c1 c2 sb2 hb2=>⟨zh (by simp),fun D hD=>?_⟩⟩;have sb12:=sb1.trans sb2;have hD0:H D=none:=sb12.free hb hb2 hD;have hlp:l≠p:=hb.ne hl;have hla:=ht.length;refine⟨_,rfl,l,rfl,⟨_,SqL.of ((sb12.then hD0) _ _ hlp hl)⟩,zK (K:=K) (a:=l) (xs:=as.map V.ref) (fun i σ H3=>∃bs qss v,σ=[some (.ref p),some (.ref l),some (.int (1+r1)),some (.int r2),some (.ref D),v]/\zae p H H3/\zab H3 p/\H3 D=some (.lst (bs.map V.ref))/\Tps H3 bs qss/\qss.Perm ((pss.take i).map (ren r2 (1+r1))))
   ⟨[],[],none,rfl,sb12.then hD0,hb2.new hD,zd,.nil,List.Perm.nil⟩ (fun i σ H3 _ ⟨_,_,_,_,sb,_⟩=>SqL.of (sb _ _ hlp hl)) ?_ ?_⟩
  ·rintro i x σ H3 hx ⟨bs,qss,v,rfl,sb3,hb3,hD3,hq,hp⟩
   obtain⟨a,ea,rfl⟩:=zT hx;obtain⟨ps,eps,hps⟩:=ht.get ea;have hi:i<pss.length:=(List.getElem?_eq_some_iff.mp eps).1;have hlb:=hq.length;have hql:qss.length=i:=by rw[hp.length_eq,List.length_map,List.length_take]; omega
   have hDp:D≠p:=hb3.ne hD3;refine⟨_,rfl,.inl ⟨rfl,_,SqL.of hD3⟩,_,rfl,_,rfl,D,_,rfl,.inl (SqL.of hD3),_,_,rfl,rfl,p,_,rfl,hb3,by rw[List.length_map]; omega,by rw[List.length_map]; omega,fun r H4 r0 r1' sb4 hb4=>?_⟩;rw[List.length_map] at r1';have hps4:Tp H4 a ps:=(sb3.trans sb4).tp hb hps;refine⟨_,rfl,a,rfl,⟨_,SqT.of hps4⟩,fun D2 hD2=>zN (zin hps4 (h10 ps (List.mem_of_getElem? eps)) ⟨by omega,by omega⟩ hD2 fun H5 sm5 hD5=>⟨D2,_,rfl,.inl ⟨SqL.of hD5,fun t htn=>?_⟩⟩)⟩;have s6:Same H4 (upd H5 t (.tup ((ren r2 (1+r1) ps).map V.int))):=sm5.trans (Same.new htn);have hD4:=sb4 _ _ hDp hD3;have hD6:=s6 _ _ hD4;have hb6:=hb4.same s6;refine⟨D,_,r,_,rfl,rfl,hD6,r0,by rw[List.length_map]; omega,zS (by rw[List.length_map]; omega),⟨bs.take r.toNat++t::bs.drop r.toNat,qss.take r.toNat++ren r2 (1+r1) ps::qss.drop r.toNat,_,rfl,((sb3.trans sb4).trans (zae.of s6)).then hD0,hb6.upd hDp,?_,?_,?_⟩⟩
   ·rw[zd,List.map_append,List.map_cons,List.map_take,List.map_drop]
   ·have tq:=s6.tps (sb4.tps hb3 hq)
    exact Tps.upd (Tps.append (tq.take _) (.cons zd (tq.drop _))) hD6 (by intro xs z; cases z)
   ·rw[take_snoc eps,List.map_append]
    have h1:(qss.take r.toNat++ren r2 (1+r1) ps::qss.drop r.toNat).Perm (ren r2 (1+r1) ps::qss):=by
     have:=List.perm_middle (a:=ren r2 (1+r1) ps) (l₁:=qss.take r.toNat) (l₂:=qss.drop r.toNat)
     rwa [List.take_append_drop] at this
    exact h1.trans ((List.perm_append_singleton _ _).symm.trans (List.Perm.append_right _ hp))
  ·rintro σ H3 ⟨bs,qss,v,rfl,sb3,hb3,hD3,hq,hp⟩
   rw[List.length_map,hla,take_all] at hp;exact⟨_,rfl,k D bs qss r2 (1+r1) H3 sb3 hb3 hD0 hD3 hq c1 c2 (by omega) (by omega) hp⟩
end
end K43
end
section
namespace K43
open K1
open PySem L2 STb
abbrev sWeb:Stmt:=top 32
def kvI (seq:List Int):List (Key×V):=(dd seq).map fun n=>((Sum.inl n:Key),V.bl true)
theorem zjH (seq:List Int):(kvI seq).length<=seq.length:=by unfold kvI; rw[List.length_map]; exact zbp seq
theorem zkb (seq:List Int) (n:Int):putK (kvI seq) (Sum.inl n) (.bl true)=kvI (seq++[n]):=by
 unfold putK kvI;rw[zck];have ha:(((dd seq).map fun n=>((Sum.inl n:Key),V.bl true)).any fun kv=>decide (kv.1=Sum.inl n))=decide (n∈dd seq):=by
  rw[List.any_map]
  by_cases h:n∈dd seq
  ·rw[decide_eq_true h,List.any_eq_true]
   exact⟨n,h,by simp⟩
  ·rw[decide_eq_false h,List.any_eq_false]
   intro q hq;simp only[Function.comp,decide_eq_true_eq,Sum.inl.injEq];rintro rfl;exact h hq
 rw[ha]
 by_cases h:n∈dd seq
 ·rw[decide_eq_true h,if_pos rfl,if_pos h,List.map_map]
  refine List.map_congr_left fun q hq=>?_;simp only[Function.comp];split <;> rfl
 ·rw[decide_eq_false h,if_neg (by simp),if_neg h,List.map_append]
  rfl
theorem zie (seq:List Int):((kvI seq).map fun kv=>kV kv.1)=(dd seq).map V.int:=by unfold kvI; rw[List.map_map]; rfl
theorem ziG {ms:List Int} (h1:ms.Pairwise (·<=·)) (h2:ms.Nodup):rises ms=true:=by
 rw[zcZ];intro i a b ha hb;obtain⟨la,ea⟩:=List.getElem?_eq_some_iff.mp ha;obtain⟨lb,eb⟩:=List.getElem?_eq_some_iff.mp hb;have g1:=List.pairwise_iff_getElem.mp h1 i (i+1) la lb (by omega);have g2:=List.pairwise_iff_getElem.mp h2 i (i+1) la lb (by omega);rw[ea,eb] at g1 g2;omega
def Small (pss:List (List Int)):Prop:=pss.Nodup/\∀ps∈pss,ps≠[]/\ps.length<=4/\rises ps=true/\∀x∈ps,0<=x/\x<=5
def Base (b:List (List Int)):Prop:=(∃n,n<20/\b=known n) \/ (b.length<=5/\Small b)
def Drawn (qss:List (List Int)):Prop:=∃b first gap,Base b/\0<=first/\first<12/\1<=gap/\gap<=3/\qss.Perm (b.map (ren first gap))
theorem zem:∀n,n<20->(known n).length<=20/\∀ps∈known n,ps≠[]/\ps.length<=5:=by decide +kernel
section
variable {P:Program}{w:World}{K:PySem.W.Frag}{mg:Str->Option Value}{base:Heap}
def zlm:Sp:=fun vs H Q _=>∃p,vs=[.ref p]/\zab H p/\∀D bs qss H',zae p H H'->zab H' p->H D=none->H' D=some (.lst (bs.map V.ref))->Tps H' bs qss->Drawn qss->Q (.ref D) H'
theorem zfN:zt ["box","found","k","some","j","piece"] ["box"] (zg sWeb):=⟨rfl,rfl,rfl,by decide +kernel,rfl,by decide +kernel,by decide +kernel⟩
theorem zlg {f ft fn fk:Addr}{fd fdt fdn fdk:FuncData} (F:Fun K "_law_web" "_law_web" sWeb f fd) (B:Bt mg) (Ft:Fun K "_law_take" "_law_take" zcu ft fdt) (bt:Binds K fdt ["box","most"] []) (mt:mg "_law_take"=some (.ref ft))
  (Fn:Fun K "_law_named" "_law_named" zbM fn fdn) (bn:Binds K fdn ["box","web"] []) (mn:mg "_law_named"=some (.ref fn)) (Fk:Fun K "_law_known" "_law_known" zcr fk fdk) (bk:Binds K fdk ["number"] []) (mk:mg "_law_known"=some (.ref fk)) :
  FnOk P w K mg base CX0 3 f fd ["box"] zlm:=by
 have Gt:FnOk P w K mg base CX0 1 ft fdt ["box","most"] zdW:=zc3 Ft;have Gn:FnOk P w K mg base CX0 2 fn fdn ["box","web"] zgB:=zhD Fn B Ft bt mt;have Gk:FnOk P w K mg base CX0 1 fk fdk ["number"] zhh:=ziv Fk B;refine F.ok zfN (fun vs H Q E h=>?_) (fun cdv A outer s H vs Q E hr h=>?_)
 ·obtain⟨p,rfl,_⟩:=h; rfl
 ·obtain⟨p,rfl,hb,k⟩:=h
  have hu:=zdC hr;have hu64:=hr.units;have hr1:Room 1 _:=hr.mono (by decide);refine⟨_,zf (zav (zx zeB (zl Gt hr1 rfl mt Ft.kp bt .nil pass0 (zc (pv 0) (zc zj ze))) zj (nomark _))
    (zi (zr (zl Gn hr rfl mn Fn.kp bn .nil pass0 (zc (pv 0) (zc (zl Gk hr1 rfl mk Fk.kp bk .nil pass0 (zc (zl Gt hr1 rfl mt Ft.kp bt .nil pass0 (zc (pv 0) (zc zj ze))) ze)) ze))))) zD)
   (zf (zq (i:=1) zfN.nd rfl (Or.inl rfl) (z0 ze))
   (zf (zaa PassesOwn.never rfl (zar rfl B.range (zc (zl Gt hr1 rfl mt Ft.kp bt .nil pass0 (zc (pv 0) (zc zj ze))) ze)) (zm (i:=2) zfN.nd rfl (Or.inl rfl))
    (zf (zq (i:=3) zfN.nd rfl (Or.inl rfl) zhB)
    (zf (zaa PassesOwn.never rfl (zar rfl B.range (zc (zC zah zj (zl Gt hr1 rfl mt Ft.kp bt .nil pass0 (zc (pv 0) (zc zj ze)))) ze)) (zm (i:=4) zfN.nd rfl (Or.inl rfl))
     (zi (zct hu (pv 3) (zl Gt hr1 rfl mt Ft.kp bt .nil pass0 (zc (pv 0) (zc zj ze))) zaY rfl)))
    (zf (zq (i:=5) zfN.nd rfl (Or.inl rfl) (zL zal rfl B.tuple zb4 (zc (zu zbQ rfl B.sorted zdm (zc (zL (zd4 rfl) rfl B.list zbJ (zc (pv 3) ze)) ze)) ze)))
    (zi (zav (zx (zgx (in1_units hu64)) (pv 5) (pv 1) (by with_unfolding_all rfl)) (zi (zaq (zbR PySem.F.plainAttrs_list PySem.F.slot_list_append PySem.F.type_list_append zR (pv 1) (zc (pv 5) ze)))) zD))))))
   (zi (zr (zl Gn hr rfl mn Fn.kp bn .nil pass0 (zc (pv 0) (zc (pv 1) ze))))))),?_⟩
  refine⟨_,rfl,p,2,rfl,hb,by decide,by decide,fun r H1 r0 r1 sb1 hb1=>⟨rfl,_,rfl,?_⟩⟩;refine ite2 (fun h1=>?_) (fun h1=>?_)
  ·refine⟨_,rfl,_,rfl,p,20,rfl,hb1,by decide,by decide,fun n H2 n0 n1 sb2 hb2=>?_⟩
   obtain⟨m,rfl⟩:=Int.eq_ofNat_of_zero_le n0;refine⟨m,rfl,by omega,fun D as H3 sm3 hD0 hD ht=>?_⟩;obtain⟨g1,g2⟩:=zem m (by omega);have sb3:=(sb1.trans sb2).trans (zae.of sm3);have hb3:=hb2.same sm3;refine⟨p,D,as,known m,rfl,hb3,hD,ht,g1,fun ps hp=>by have:=(g2 ps hp).2; omega,fun D' bs qss first gap H4 sb4 hb4 hD' hD4 ht4 c1 c2 c3 c4 hperm=>?_⟩;exact k D' bs qss H4 (sb3.trans sb4) hb4 (sb3.free hb hb3 hD') hD4 ht4 ⟨known m,first,gap,.inl ⟨m,by omega,rfl⟩,c1,c2,c3,c4,hperm⟩
  ·refine⟨zh (by simp),fun L hL=>?_⟩
   have hL0:H L=none:=sb1.free hb hb1 hL;refine⟨_,rfl,p,6,rfl,hb1.new hL,by decide,by decide,fun r6 H3 a1 a2 sb3 hb3=>⟨r6,rfl,by omega,by omega,?_⟩⟩;have hLp:L≠p:=zab.ne (as:=[]) (hb1.new hL) zd;have sb03:zae p H H3:=(sb1.then hL0).trans sb3;refine zco (lo:=0) (n:=r6.toNat) (fun i σ H4=>∃as pss v2 v3 v4 v5,σ=[some (.ref p),some (.ref L),v2,v3,v4,v5]/\zae p H H4/\zab H4 p/\H4 L=some (.lst (as.map V.ref))/\Tps H4 as pss/\Small pss/\pss.length<=i)
    ⟨[],[],none,none,none,none,rfl,sb03,hb3,sb3 _ _ hLp zd,.nil,⟨List.nodup_nil,fun ps h=>nomatch h⟩,Nat.le_refl _⟩ ?_ ?_
   ·rintro i σ H4 hi ⟨as,pss,v2,v3,v4,v5,rfl,sb4,hb4,hL4,ht4,hsm,hlen⟩
    have hla:=ht4.length;intro d hd;have hd0:H d=none:=sb4.free hb hb4 hd;have hLd:L≠d:=ne_of_none hL4 hd;refine⟨_,rfl,p,4,rfl,hb4.new hd,by decide,by decide,fun r4 H5 e1 e2 sb5 hb5=>⟨_,_,rfl,rfl,_,rfl,by omega,by omega,?_⟩⟩;have hdp:d≠p:=by
     obtain⟨x,y,e,_⟩:=hb4.new (o:=.dK []) hd;exact zaA zd e (by intro z; cases z)
    have s4:=Same.new (o:=.dK []) hd;refine zco (lo:=0) (n:=(1+r4).toNat) (fun j σ H6=>∃seq v4,σ=[some (.ref p),some (.ref L),some (.int (0+i)),some (.ref d),v4,v5]/\zae p H H6/\zab H6 p/\H6 L=some (.lst (as.map V.ref))/\Tps H6 as pss/\H6 d=some (.dK (kvI seq))/\seq.length=j/\∀x∈seq,0<=x/\x<=5)
     ⟨[],_,rfl,(sb4.then hd0).trans sb5,hb5,sb5 _ _ hLp (s4 _ _ hL4),sb5.tps (hb4.new hd) (s4.tps ht4),sb5 _ _ hdp zd,rfl,fun x h=>nomatch h⟩ ?_ ?_
    ·rintro j σ H6 hj ⟨seq,v4,rfl,sb6,hb6,hL6,ht6,hd6,hs6,hx6⟩
     refine⟨_,rfl,_,rfl,p,6,rfl,hb6,by decide,by decide,fun r H7 f1 f2 sb7 hb7=>⟨d,_,rfl,DPut.k (k:=Sum.inl r) (sb7 _ _ hdp hd6) (zS (by have:=zjH seq; omega)),⟨seq++[r],_,rfl,(sb6.trans sb7).then hd0,hb7.upd hdp,?_,?_,by rw[zd,zkb],by rw[List.length_append,hs6]; rfl,?_⟩⟩⟩
     ·rw[upd_ne hLd]; exact sb7 _ _ hLp hL6
     ·exact Tps.upd (sb7.tps hb6 ht6) (sb7 _ _ hdp hd6) (by intro xs z; cases z)
     ·intro x hx
      rcases List.mem_append.mp hx with hx | hx
      ·exact hx6 x hx
      ·rw[List.mem_singleton] at hx; subst hx; omega
    ·rintro σ H6 ⟨seq,v4,rfl,sb6,hb6,hL6,ht6,hd6,hs6,hx6⟩
     refine⟨_,rfl,d,_,rfl,hd6,fun l2 hl2=>⟨l2,dd seq,rfl,SqL.of (by rw[zd,zie]),(by have:=zbp seq; omega),fun D2 ms hp hs hD2=>⟨D2,_,rfl,.inl ⟨SqL.of zd,fun t htn=>?_⟩⟩⟩⟩;have s6:Same H6 (upd (upd (upd H6 l2 (.lst ((kvI seq).map fun kv=>kV kv.1))) D2 (.lst (ms.map V.int))) t (.tup (ms.map V.int))):=((Same.new hl2).trans (Same.new hD2)).trans (Same.new htn);generalize hH7:upd (upd (upd H6 l2 (.lst ((kvI seq).map fun kv=>kV kv.1))) D2 (.lst (ms.map V.int))) t (.tup (ms.map V.int))=H7 at s6;have htt:Tp H7 t ms:=by rw[<- hH7]; exact zd
     have sb7:=sb6.trans (zae.of s6);have hb7:=hb6.same s6;refine⟨_,rfl,_,rfl,t,L,ms,as,pss,rfl,rfl,htt,SqL.of (s6 _ _ hL6),s6.tps ht6,_,rfl,?_⟩;have hms:ms≠[]/\ms.length<=4/\rises ms=true/\∀x∈ms,0<=x/\x<=5:=by
      refine⟨fun z=>?_,?_,ziG hs (hp.nodup_iff.mpr (zba seq)),fun x hx=>hx6 x ((zaC seq x).mp (hp.mem_iff.mp hx))⟩
      ·have h0:dd seq=[]:=by rw[z] at hp; exact (List.nil_perm.mp hp)
       cases hq:seq with
       | nil=>rw[hq] at hs6; simp at hs6; omega
       | cons x r=>
        have:=(zaC seq x).mpr (by rw[hq]; exact List.mem_cons_self);rw[h0] at this;cases this
      ·have:=zbp seq
       rw[hp.length_eq];omega
     by_cases hin:ms∈pss
     ·rw[decide_eq_true hin]
      exact iteF ⟨as,pss,_,_,_,_,rfl,sb7,hb7,s6 _ _ hL6,s6.tps ht6,hsm,by omega⟩
     ·rw[decide_eq_false hin]
      refine iteT ⟨_,rfl,.inl ⟨rfl,_,SqL.of (s6 _ _ hL6)⟩,_,rfl,L,_,_,rfl,rfl,s6 _ _ hL6,zS (by rw[List.length_map]; omega),⟨as++[t],pss++[ms],_,_,_,_,rfl,sb7.then hL0,hb7.upd hLp,by rw[zd,List.map_append]; rfl,Tps.upd (Tps.snoc (s6.tps ht6) htt) (s6 _ _ hL6) (by intro xs z; cases z),⟨?_,?_⟩,by rw[List.length_append]; simp; omega⟩⟩
      ·rw[List.nodup_append]
       refine⟨hsm.1,by simp,fun a ha b hb' e=>?_⟩;rw[List.mem_singleton] at hb';subst hb'; subst e; exact hin ha
      ·intro ps hps
       rcases List.mem_append.mp hps with h | h
       ·exact hsm.2 ps h
       ·rw[List.mem_singleton] at h; subst h; exact hms
   ·rintro σ H4 ⟨as,pss,v2,v3,v4,v5,rfl,sb4,hb4,hL4,ht4,hsm,hlen⟩
    refine⟨_,rfl,_,rfl,p,L,as,pss,rfl,hb4,hL4,ht4,by omega,fun ps hp=>by have:=(hsm.2 ps hp).2.1; omega,fun D' bs qss first gap H5 sb5 hb5 hD' hD5 ht5 c1 c2 c3 c4 hperm=>?_⟩;exact k D' bs qss H5 (sb4.trans sb5) hb5 (sb4.free hb hb4 hD') hD5 ht5 ⟨pss,first,gap,.inr ⟨by omega,hsm⟩,c1,c2,c3,c4,hperm⟩
end
end K43
end
section
namespace K1
open PySem L2 STb
theorem zfa:∀a b:List Int,HT.lexLt a b=true->HT.lexLt b a=false
 | [],[],h=>rfl
 | [],_::_,h=>rfl
 | _::_,[],h=>by rw[HT.zbd] at h; exact absurd h Bool.false_ne_true
 | x::xs,y::ys,h=>by
  rw[HT.zM] at h ⊢
  by_cases e:x=y
  ·rw[if_pos e] at h; rw[if_pos e.symm]; exact zfa xs ys h
  ·rw[if_neg e] at h; rw[if_neg (fun z=>e z.symm)]
   have:=of_decide_eq_true h;exact decide_eq_false (by omega)
theorem zdf:∀a b:List Int,HT.lexLt a b=false->HT.lexLt b a=false->a=b
 | [],[],_,_=>rfl
 | [],_::_,h,_=>by rw[HT.zY] at h; exact absurd h (by decide)
 | _::_,[],_,h=>by rw[HT.zY] at h; exact absurd h (by decide)
 | x::xs,y::ys,h,h'=>by
  rw[HT.zM] at h h'
  by_cases e:x=y
  ·rw[if_pos e] at h; rw[if_pos e.symm] at h'
   rw[e,zdf xs ys h h']
  ·rw[if_neg e] at h; rw[if_neg (fun z=>e z.symm)] at h'
   have:=of_decide_eq_false h;have:=of_decide_eq_false h';omega
theorem zat:∀a b c:List Int,HT.lexLt b a=false->HT.lexLt c b=false->HT.lexLt c a=false
 | [],b,c,_,_=>by cases c with
  | nil=>rfl
  | cons _ _=>rfl
 | _::_,[],c,h,_=>by rw[HT.zY] at h; exact absurd h (by decide)
 | _::_,_::_,[],_,h=>by rw[HT.zY] at h; exact absurd h (by decide)
 | x::xs,y::ys,z::zs,h,h'=>by
  rw[HT.zM] at h h' ⊢
  by_cases e:y=x
  ·rw[if_pos e] at h
   by_cases e2:z=y
   ·rw[if_pos e2] at h'; rw[if_pos (e2.trans e)]; exact zat xs ys zs h h'
   ·rw[if_neg e2] at h'; rw[if_neg (by omega)]
    have:=of_decide_eq_false h';exact decide_eq_false (by omega)
  ·rw[if_neg e] at h
   have h1:=of_decide_eq_false h
   by_cases e2:z=y
   ·rw[if_neg (by omega)]
    exact decide_eq_false (by omega)
   ·rw[if_neg e2] at h'
    have h2:=of_decide_eq_false h';rw[if_neg (by omega)];exact decide_eq_false (by omega)
def key (p:List Int):List Int:=(p.length:Int)::p
def kle (a b:List Int):Bool:=!HT.lexLt (key b) (key a)
theorem zaV {a b:List Int}:kle a b=true ↔ HT.lexLt (key b) (key a)=false:=by unfold kle; simp
def canon (pss:List (List Int)):List (List Int):=(dd (pss.flatMap parts)).mergeSort kle
theorem zan (pss:List (List Int)):(canon pss).Perm (dd (pss.flatMap parts)):=List.mergeSort_perm _ _
theorem zQ (pss:List (List Int)):(canon pss).Pairwise (fun a b=>kle a b=true):=by
 refine List.pairwise_mergeSort (fun a b c h1 h2=>?_) (fun a b=>?_) _
 ·rw[zaV] at h1 h2 ⊢; exact zat _ _ _ h1 h2
 ·rw[Bool.or_eq_true,zaV,zaV]
  cases h:HT.lexLt (key b) (key a) with
  | false=>exact .inl rfl
  | true=>exact .inr (zfa _ _ h)
theorem zV {pss:List (List Int)}{x:List Int}:x∈canon pss ↔ x∈pss.flatMap parts:=by rw[(zan pss).mem_iff,zaC]
theorem zZ (pss:List (List Int)):(canon pss).Nodup:=(zan pss).nodup_iff.mpr (zba _)
theorem zaG (pss:List (List Int)):(canon pss).length=(dd (pss.flatMap parts)).length:=(zan pss).length_eq
theorem zaS {l m:List (List Int)} (hp:l.Perm m) (h1:l.Pairwise (fun a b=>kle a b=true)) (h2:m.Pairwise (fun a b=>kle a b=true)):l=m:=by
 refine List.Perm.eq_of_pairwise (fun a b _ _ g1 g2=>?_) h1 h2 hp;rw[zaV] at g1 g2;have:=zdf _ _ g2 g1;unfold key at this;exact (List.cons.inj this).2
theorem canon_of {pss l:List (List Int)} (hp:l.Perm (dd (pss.flatMap parts))) (hs:l.Pairwise (fun a b=>HT.lexLt ((b.length:Int)::b) ((a.length:Int)::a)=false)):l=canon pss:=
 zaS (hp.trans (zan pss).symm) (hs.imp fun h=>zaV.mpr h) (zQ pss)
theorem zko {l m:List (List Int)} (h:∀x,x∈l ↔ x∈m):(dd l).Perm (dd m):=(List.perm_ext_iff_of_nodup (zba l) (zba m)).mpr fun x=>by rw[zaC,zaC]; exact h x
theorem zeg {pss qss:List (List Int)} (h:∀x,x∈pss.flatMap parts ↔ x∈qss.flatMap parts):canon pss=canon qss:=
 zaS ((zan pss).trans ((zko h).trans (zan qss).symm)) (zQ pss) (zQ qss)
theorem zbY:∀(n:Nat) (p q:List Int),p.length=n->(q∈subs p ↔ q.Sublist p)
 | 0,p,q,h=>by
  obtain rfl:=List.eq_nil_of_length_eq_zero h;show q∈[[]] ↔ _;simp
 | n+1,p,q,h=>by
  obtain⟨r,x,rfl⟩:∃r x,p=r++[x]:=by
   rcases List.eq_nil_or_concat p with e | ⟨r,x,e⟩
   ·rw[e] at h; cases h
   ·exact⟨r,x,by rw[e,List.concat_eq_append]⟩
  have hr:r.length=n:=by simpa using h
  rw[zcf,List.mem_append,zbY n r q hr,List.mem_map,List.sublist_append_iff];constructor
  ·rintro (h1 | ⟨y,hy,rfl⟩)
   ·exact⟨q,[],by simp,h1,List.nil_sublist _⟩
   ·exact⟨y,[x],rfl,(zbY n r y hr).mp hy,List.Sublist.refl _⟩
  ·rintro⟨l1,l2,rfl,s1,s2⟩
   cases s2 with
   | cons _ h=>
    obtain rfl:=List.sublist_nil.mp h;exact .inl (by simpa using s1)
   | cons_cons _ h=>
    obtain rfl:=List.sublist_nil.mp h;exact .inr ⟨l1,(zbY n r l1 hr).mpr s1,rfl⟩
theorem zw {p q:List Int}:q∈parts p ↔ q≠[]/\q.Sublist p:=by
 obtain⟨t,e,ht⟩:=zcs p;have hs:=zbY p.length p q rfl;rw[e] at hs;unfold parts;rw[e];show q∈t ↔ _;constructor
 ·intro h
  exact⟨ht q h,hs.mp (List.mem_cons_of_mem _ h)⟩
 ·rintro⟨h1,h2⟩
  rcases List.mem_cons.mp (hs.mpr h2) with h | h
  ·exact absurd h h1
  ·exact h
theorem zee {p q r:List Int} (h1:q∈parts p) (h2:r∈parts q):r∈parts p:=by
 rw[zw] at h1 h2 ⊢;exact⟨h2.1,h2.2.trans h1.2⟩
theorem zaD:∀p:List Int,rises p=true ↔ p.Pairwise (·<·)
 | []=>by simp[rises]
 | [a]=>by simp[rises]
 | a::b::r=>by
  have ih:=zaD (b::r);rw[show rises (a::b::r)=(decide (a<b) && rises (b::r)) from rfl,Bool.and_eq_true,decide_eq_true_eq,ih,List.pairwise_cons (a:=a)];constructor
  ·rintro⟨h1,h2⟩
   refine⟨fun x hx=>?_,h2⟩;rcases List.mem_cons.mp hx with rfl | hx
   ·exact h1
   ·have:=(List.pairwise_cons.mp h2).1 x hx
    omega
  ·rintro⟨h1,h2⟩
   exact⟨h1 b List.mem_cons_self,h2⟩
theorem zG {p:List Int}:zP p=true ↔ p≠[]/\p.length<=5/\(∀x∈p,0<=x/\x<=99)/\p.Pairwise (·<·):=by
 unfold zP;simp only[Bool.and_eq_true,decide_eq_true_eq,List.all_eq_true,zaD];constructor
 ·rintro⟨⟨⟨h1,h2⟩,h3⟩,h4⟩
  exact⟨fun z=>by rw[z] at h1; simp at h1,h2,h3,h4⟩
 ·rintro⟨h1,h2,h3,h4⟩
  refine⟨⟨⟨?_,h2⟩,h3⟩,h4⟩;cases p with
  | nil=>exact absurd rfl h1
  | cons _ _=>simp
theorem za6 {p q:List Int} (h:zP p=true) (hq:q∈parts p):zP q=true:=by
 rw[zG] at h ⊢;rw[zw] at hq;exact⟨hq.1,Nat.le_trans hq.2.length_le h.2.1,fun x hx=>h.2.2.1 x (hq.2.subset hx),h.2.2.2.sublist hq.2⟩
theorem zj6 {pss:List (List Int)} (hn:pss.Nodup) (hp:∀p∈pss,zP p=true):zji pss pss.length:=by
 intro i p hi e;refine⟨fun hm=>?_,hp p (List.mem_of_getElem? e)⟩;obtain⟨j,ej⟩:=List.mem_iff_getElem?.mp hm;obtain⟨lj,ej'⟩:=List.getElem?_eq_some_iff.mp ej;rw[List.length_take] at lj;obtain⟨li,ei⟩:=List.getElem?_eq_some_iff.mp e;have:=List.pairwise_iff_getElem.mp hn j i (by omega) li (by omega);rw[List.getElem_take] at ej';exact this (ej'.trans ei.symm)
theorem zgg {pss:List (List Int)} (h20:pss.length<=20) (hn:pss.Nodup) (hp:∀p∈pss,zP p=true) (h:(dd (pss.flatMap parts)).length<=200):webM pss=true:=by
 rw[zit pss h20 (zj6 hn hp),decide_eq_true h]
theorem zer {pss:List (List Int)} (h:webM pss=true):pss.length<=20/\(∀p∈pss,zP p=true)/\(∀p∈pss,p.length<=5)/\(dd (pss.flatMap parts)).length<=200:=by
 unfold webM at h;simp only[Bool.and_eq_true,decide_eq_true_eq,List.all_eq_true] at h;obtain⟨⟨⟨h1,h2⟩,h3⟩,h4⟩:=h;have h5:∀p∈pss,zP p=true:=fun p hp=>by rw[<- ze0]; exact h2 p hp
 exact⟨h1,h5,fun p hp=>(zG.mp (h5 p hp)).2.1,h4⟩
def over (o p:List Int):Bool:=decide (p.length<o.length) && p.all fun x=>decide (x∈o)
def zdt (kn:List (List Int)) (p:List Int):Bool:=decide ((kn.filter fun o=>over o p).length=0)
def tops (kn:List (List Int)):List (List Int):=kn.filter (zdt kn)
theorem ze4 {pss:List (List Int)}{x:List Int} (h:x∈tops (canon pss)):x∈pss:=by
 unfold tops at h;obtain⟨h1,h2⟩:=List.mem_filter.mp h;rw[zV] at h1;obtain⟨p,hp,hx⟩:=List.mem_flatMap.mp h1;rw[zw] at hx;have hpn:p≠[]:=fun z=>by rw[z] at hx; exact hx.1 (List.sublist_nil.mp hx.2)
 have hpc:p∈canon pss:=zV.mpr (List.mem_flatMap.mpr ⟨p,hp,zw.mpr ⟨hpn,List.Sublist.refl _⟩⟩)
 by_cases hl:x.length<p.length
 ·exfalso
  unfold zdt at h2;have h0:=of_decide_eq_true h2;have:p∈(canon pss).filter fun o=>over o x:=List.mem_filter.mpr ⟨hpc,by unfold over; rw[decide_eq_true hl,Bool.true_and,List.all_eq_true]; exact fun y hy=>decide_eq_true (hx.2.subset hy)⟩;rw[List.eq_nil_of_length_eq_zero h0] at this;cases this
 ·have:x=p:=hx.2.eq_of_length (Nat.le_antisymm hx.2.length_le (by omega))
  rw[this]; exact hp
theorem zfH (pss:List (List Int)):(tops (canon pss)).Nodup:=(zZ pss).filter _
theorem zif (pss:List (List Int)):(tops (canon pss)).length<=pss.length:=(zfH pss).length_le_of_subset fun x h=>ze4 h
end K1
end
section
namespace K43
open K1
open PySem L2 STb
def BOk (b:List (List Int)):Prop:=b.Nodup/\b.length<=17/\(∀ps∈b,ps≠[]/\ps.length<=5/\rises ps=true/\∀x∈ps,0<=x/\x<=7)/\(b.flatMap parts).length<=200
theorem zky:∀n,n<20->(known n).Nodup/\(known n).length<=17/\(∀ps∈known n,ps≠[]/\ps.length<=5/\rises ps=true/\∀x∈ps,0<=x/\x<=7)/\((known n).flatMap parts).length<=200:=by decide +kernel
theorem zfq {m:Nat}:∀{b:List (List Int)},(∀ps∈b,(parts ps).length<=m)->(b.flatMap parts).length<=m*b.length
 | [],_=>by simp
 | p::r,h=>by
  have h1:=h p List.mem_cons_self;have h2:=zfq (b:=r) fun q hq=>h q (List.mem_cons_of_mem _ hq);rw[List.flatMap_cons,List.length_append,List.length_cons,Nat.mul_succ];omega
theorem zjF {b:List (List Int)} (h:Base b):BOk b:=by
 rcases h with ⟨n,hn,rfl⟩ | ⟨h5,hs⟩
 ·exact zky n hn
 ·refine⟨hs.1,by omega,fun ps hp=>?_,?_⟩
  ·obtain⟨h1,h2,h3,h4⟩:=hs.2 ps hp
   exact⟨h1,by omega,h3,fun x hx=>by have:=h4 x hx; omega⟩
  ·have:=zfq (m:=15) (b:=b) fun ps hp=>by
    rw[zaB];have h2:=(hs.2 ps hp).2.1;have:2 ^ ps.length<=2 ^ 4:=Nat.pow_le_pow_right (by decide) h2;omega
   omega
theorem zbj {first gap:Int} (hg:1<=gap) {p q:List Int} (h:ren first gap p=ren first gap q):p=q:=by
 unfold ren at h;refine (List.map_inj_right (f:=fun x=>first+gap*x) (fun x y e=>?_)).mp h;have:gap*x=gap*y:=by omega
 exact Int.eq_of_mul_eq_mul_left (by omega) this
theorem zgo {first gap:Int} (h0:0<=first) (h1:first<12) (hg:1<=gap) (hg3:gap<=3) {p:List Int} (h:p≠[]/\p.length<=5/\rises p=true/\∀x∈p,0<=x/\x<=7):zP (ren first gap p)=true:=by
 obtain⟨a,b,c,d⟩:=h;rw[zG];unfold ren;refine⟨fun z=>a (List.map_eq_nil_iff.mp z),by rw[List.length_map]; exact b,fun y hy=>?_,?_⟩
 ·obtain⟨x,hx,rfl⟩:=List.mem_map.mp hy
  have:=d x hx;have hg':gap=1 \/ gap=2 \/ gap=3:=by omega
  rcases hg' with rfl | rfl | rfl <;> omega
 ·rw[zaD] at c
  rw[List.pairwise_map];refine c.imp fun {x y} e=>?_;have:gap*x<gap*y:=Int.mul_lt_mul_of_pos_left e (by omega);omega
theorem zdv {q:List (List Int)} (h:Drawn q):webM q=true/\q.Nodup/\q.length<=17:=by
 obtain⟨b,first,gap,hb,h0,h1,hg,hg3,hp⟩:=h;obtain⟨n1,n2,n3,n4⟩:=zjF hb;have hl:q.length<=17:=by rw[hp.length_eq,List.length_map]; exact n2
 have hn:q.Nodup:=by
  rw[hp.nodup_iff];unfold List.Nodup at n1 ⊢;rw[List.pairwise_map];exact n1.imp fun {x y} e z=>e (zbj hg z)
 refine⟨zgg (by omega) hn (fun p hm=>?_) ?_,hn,hl⟩
 ·obtain⟨r,hr,rfl⟩:=List.mem_map.mp (hp.mem_iff.mp hm)
  exact zgo h0 h1 hg hg3 (n3 r hr)
 ·refine Nat.le_trans (zbp _) ?_
  rw[(hp.flatMap_right parts).length_eq];have:∀b:List (List Int),((b.map (ren first gap)).flatMap parts).length=(b.flatMap parts).length:=by
   intro b
   induction b with
   | nil=>rfl
   | cons p r ih=>
    rw[List.map_cons,List.flatMap_cons,List.flatMap_cons,List.length_append,List.length_append,ih,zaB,zaB];unfold ren;rw[List.length_map]
  rw[this];exact n4
end K43
end
section
namespace K1
open PySem L2 STb
def rims (q:List Int):List (List Int):=if q.length=1 then [] else (List.range q.length).map fun k=>q.take k++q.drop (k+1)
theorem zbb (q:List Int):(rims q).length<=q.length:=by
 unfold rims;split
 ·exact Nat.zero_le _
 ·simp
theorem zak {p q:List Int}:p∈rims q ↔ q.length≠1/\∃k,k<q.length/\p=q.take k++q.drop (k+1):=by
 unfold rims;split
 next h=>simp[h]
 next h=>
  rw[List.mem_map];constructor
  ·rintro⟨k,hk,rfl⟩
   exact⟨h,k,List.mem_range.mp hk,rfl⟩
  ·rintro⟨_,k,hk,rfl⟩
   exact⟨k,List.mem_range.mpr hk,rfl⟩
theorem zam:∀(o p:List Int),o.Pairwise (·<·)->p.Pairwise (·<·)->(∀x∈p,x∈o)->p.Sublist o
 | [],p,_,_,h=>by
  cases p with
  | nil=>exact List.Sublist.slnil
  | cons a r=>exact absurd (h a List.mem_cons_self) (by simp)
 | b::o,p,ho,hp,h=>by
  obtain⟨ho1,ho2⟩:=List.pairwise_cons.mp ho;cases p with
  | nil=>exact List.nil_sublist _
  | cons a r=>
   obtain⟨hp1,hp2⟩:=List.pairwise_cons.mp hp
   by_cases e:a=b
   ·subst e
    refine (zam o r ho2 hp2 fun x hx=>?_).cons_cons a;rcases List.mem_cons.mp (h x (List.mem_cons_of_mem _ hx)) with rfl | q
    ·have:=hp1 x hx; omega
    ·exact q
   ·have ha:a∈o:=by
     rcases List.mem_cons.mp (h a List.mem_cons_self) with q | q
     ·exact absurd q e
     ·exact q
    have hab:=ho1 a ha;refine (zam o (a::r) ho2 hp fun x hx=>?_).cons b;rcases List.mem_cons.mp (h x hx) with q | q
    ·exfalso
     rcases List.mem_cons.mp hx with z | z
     ·omega
     ·have:=hp1 x z; omega
    ·exact q
theorem between {p o:List Int} (h:p.Sublist o):p.length<o.length->∃(r:List Int) (k:Nat),r.Sublist o/\k<r.length/\r.length=p.length+1/\p=r.take k++r.drop (k+1):=by
 induction h with
 | slnil=>intro h; simp at h
 | @cons p o a s ih=>
  intro _;exact⟨a::p,0,s.cons_cons a,by simp,by simp,by simp⟩
 | @cons_cons p o a s ih=>
  intro hl;obtain⟨r,k,h1,h2,h3,h4⟩:=ih (by simpa using hl);exact⟨a::r,k+1,h1.cons_cons a,by simpa using h2,by simp[h3],by rw[List.take_succ_cons,List.drop_succ_cons,List.cons_append,<- h4]⟩
theorem zf7 {p q:List Int}{k:Nat} (hk:k<q.length) (h:p=q.take k++q.drop (k+1)):p.Sublist q/\p.length<q.length:=by
 subst h;refine⟨?_,?_⟩
 ·have h1:(q.take k++q.drop (k+1)).Sublist (q.take k++q.drop k):=(List.Sublist.refl _).append (by
   rw[show q.drop (k+1)=(q.drop k).drop 1 by rw[List.drop_drop]];exact List.drop_sublist _ _)
  rwa [List.take_append_drop] at h1
 ·rw[List.length_append,List.length_take,List.length_drop]
  omega
theorem zhT {pss:List (List Int)} (hp:∀p∈pss,zP p=true) {p:List Int} (h:p∈canon pss):zdt (canon pss) p=!decide (p∈(canon pss).flatMap rims):=by
 have hpc:∀q∈canon pss,zP q=true:=fun q hq=>by
  obtain⟨r,hr,hx⟩:=List.mem_flatMap.mp (zV.mp hq);exact za6 (hp r hr) hx
 rw[Bool.eq_iff_iff];unfold zdt;rw[decide_eq_true_eq,Bool.not_eq_true',decide_eq_false_iff_not,List.length_eq_zero_iff,List.filter_eq_nil_iff];constructor
 ·intro ht hm
  obtain⟨q,hq,hpq⟩:=List.mem_flatMap.mp hm;obtain⟨_,k,hk,e⟩:=zak.mp hpq;obtain⟨s,l⟩:=zf7 hk e;refine ht q hq ?_;unfold over;rw[decide_eq_true l,Bool.true_and,List.all_eq_true];exact fun x hx=>decide_eq_true (s.subset hx)
 ·intro hn o ho hov
  unfold over at hov;rw[Bool.and_eq_true,decide_eq_true_eq,List.all_eq_true] at hov;obtain⟨hl,hm⟩:=hov;have hs:p.Sublist o:=zam o p (zG.mp (hpc o ho)).2.2.2 (zG.mp (hpc p h)).2.2.2 fun x hx=>of_decide_eq_true (hm x hx);obtain⟨r,k,h1,h2,h3,h4⟩:=between hs hl;have hpn:p≠[]:=(zG.mp (hpc p h)).1;have hpl:1<=p.length:=by
   cases p with
   | nil=>exact absurd rfl hpn
   | cons _ _=>simp
  have hr:r∈canon pss:=by
   obtain⟨q,hq,hx⟩:=List.mem_flatMap.mp (zV.mp ho);refine zV.mpr (List.mem_flatMap.mpr ⟨q,hq,zee hx (zw.mpr ⟨fun z=>?_,h1⟩)⟩);rw[z] at h2; simp at h2
  exact hn (List.mem_flatMap.mpr ⟨r,hr,zak.mpr ⟨by omega,k,h2,h4⟩⟩)
theorem zeb {pss:List (List Int)} (hp:∀p∈pss,zP p=true):(canon pss).filter (fun p=>!decide (p∈(canon pss).flatMap rims))=tops (canon pss):=by
 unfold tops;exact List.filter_congr fun p h=>(zhT hp h).symm
theorem zew (pss:List (List Int)):(tops (canon pss)).Pairwise (fun a b=>kle a b=true):=(zQ pss).sublist List.filter_sublist
end K1
end
section
namespace K43
open K1
open PySem L2 STb
theorem zgw:∀n,n<20->(dd ((known n).flatMap parts)).length<=56:=by decide +kernel
def six:List (List Int):=(parts [0,1,2,3,4,5]).filter fun q=>decide (q.length<=4)
theorem zjj:six.length=56:=by decide +kernel
theorem zhy {b:List (List Int)} (h:Base b):(dd (b.flatMap parts)).length<=56:=by
 rcases h with ⟨n,hn,rfl⟩ | ⟨h5,hs⟩
 ·exact zgw n hn
 ·rw[<- zjj]
  refine (zba _).length_le_of_subset fun x hx=>?_;rw[zaC,List.mem_flatMap] at hx;obtain⟨p,hp,hx⟩:=hx;obtain⟨_,h4,hr,hb⟩:=hs.2 p hp;rw[zw] at hx;have hl:=hx.2.length_le;unfold six;rw[List.mem_filter,zw];refine⟨⟨hx.1,hx.2.trans (zam _ _ (by decide) ((zaD p).mp hr) fun y hy=>?_)⟩,decide_eq_true (by omega)⟩;have:=hb y hy;have:y=0 \/ y=1 \/ y=2 \/ y=3 \/ y=4 \/ y=5:=by omega
  rcases this with rfl | rfl | rfl | rfl | rfl | rfl <;> decide
theorem zht {q:List (List Int)} (h:Drawn q):(dd (q.flatMap parts)).length<=56:=by
 obtain⟨b,first,gap,hb,_,_,_,_,hp⟩:=h;refine Nat.le_trans ?_ (zhy hb);have e:((dd (b.flatMap parts)).map (ren first gap)).length=(dd (b.flatMap parts)).length:=List.length_map _;rw[<- e];refine (zba _).length_le_of_subset fun x hx=>?_;rw[zaC,List.mem_flatMap] at hx;obtain⟨p,hm,hx⟩:=hx;obtain⟨r,hr,rfl⟩:=List.mem_map.mp (hp.mem_iff.mp hm);rw[zw] at hx;obtain⟨hne,hsub⟩:=hx;unfold ren at hsub;obtain⟨y,hy,rfl⟩:=List.sublist_map_iff.mp hsub;refine List.mem_map.mpr ⟨y,?_,rfl⟩;rw[zaC,List.mem_flatMap];exact⟨r,hr,zw.mpr ⟨fun z=>hne (by rw[z]; rfl),hy⟩⟩
end K43
end
section
namespace K43
open K1
open PySem L2 STb
def webS (pss:List (List Int)):Prop:=webM pss=true/\(canon pss).length<1000
abbrev zes:Stmt:=top 17
abbrev zaX:Stmt:=top 18
theorem zc1 {H:Hp}:∀{qs:List (List Int×Addr)},(∀q∈qs,Tp H q.2 q.1)->Tps H (qs.map (·.2)) (qs.map (·.1))
 | [],_=>.nil
 | q::r,h=>.cons (h q List.mem_cons_self) (zc1 fun x hx=>h x (List.mem_cons_of_mem _ hx))
theorem zcI {H H2:Hp}{pss:List (List Int)}{D:Addr}{qs:List (List Int×Addr)} (t:Told H H2 pss D qs):∃bs,Same H H2/\H D=none/\H2 D=some (.lst (bs.map V.ref))/\Tps H2 bs (canon pss):=by
 obtain⟨sm,hD,hD2,hq,hp,hs⟩:=t;have e:qs.map (·.1)=canon pss:=canon_of hp (List.pairwise_map.mpr hs);refine⟨qs.map (·.2),sm,hD,by rw[hD2,List.map_map]; rfl,?_⟩;rw[<- e];exact zc1 hq
section
variable {P:Program}{w:World}{K:PySem.W.Frag}{mg:Str->Option Value}{base:Heap}
def zcT (K:PySem.W.Frag):Sp:=fun vs H Q _=>∃l as pss,vs=[.ref l]/\SqL K H l (as.map V.ref)/\Tps H as pss/\webS pss/\∀D H2 bs,Same H H2->H D=none->H2 D=some (.lst (bs.map V.ref))->Tps H2 bs (canon pss)->Q (.ref D) H2
theorem zic:zt ["web"] ["web"] (zg zaX):=⟨rfl,rfl,rfl,by decide +kernel,rfl,by decide +kernel,by decide +kernel⟩
theorem zkt:zt ["web"] ["web"] (zg zes):=⟨rfl,rfl,rfl,by decide +kernel,rfl,by decide +kernel,by decide +kernel⟩
def zi7 (K:PySem.W.Frag):Sp:=fun vs H Q _=>∃l as pss,vs=[.ref l]/\SqL K H l (as.map V.ref)/\Tps H as pss/\webS pss/\∀H2,Same H H2->Q .non H2
theorem zkr {f fw:Addr}{fd fdw:FuncData} (F:Fun K "must_be_web" "must_be_web" zes f fd)
  (Fw:Fun K "is_web" "is_web" zb5 fw fdw) (bw:Binds K fdw ["web"] []) (mw:mg "is_web"=some (.ref fw)) (Gw:FnOk P w K mg base CX0 6 fw fdw ["web"] (zgn K)):FnOk P w K mg base CX0 7 f fd ["web"] (zi7 K):=by
 refine F.ok zkt (fun vs H Q E h=>?_) (fun cdv A outer s H vs Q E hr h=>?_)
 ·obtain⟨l,as,pss,rfl,_⟩:=h; rfl
 ·obtain⟨l,as,pss,rfl,hl,ht,hw,k⟩:=h
  refine⟨_,zi (zav (zcA (zd8 (zl Gw hr rfl mw Fw.kp bw .nil pass0 (zc (pv 0) ze)))) zg5 zD),?_⟩;refine⟨_,rfl,l,as,pss,rfl,hl,ht,(fun _=>by rw[<- zaG]; exact hw.2),fun H1 sm1=>⟨_,rfl,?_⟩⟩;rw[hw.1];exact iteF (k H1 sm1)
theorem zhf {f fw fa:Addr}{fd fdw fda:FuncData} (F:Fun K "pieces" "pieces" zaX f fd)
  (Fw:Fun K "must_be_web" "must_be_web" zes fw fdw) (bw:Binds K fdw ["web"] []) (mw:mg "must_be_web"=some (.ref fw)) (Gw:FnOk P w K mg base CX0 7 fw fdw ["web"] (zi7 K))
  (Fa:Fun K "all_parts" "all_parts" sAll fa fda) (ba:Binds K fda ["some"] []) (ma:mg "all_parts"=some (.ref fa)) (Ga:FnOk P w K mg base CX0 5 fa fda ["some"] (zgY K)):FnOk P w K mg base CX0 8 f fd ["web"] (zcT K):=by
 refine F.ok zic (fun vs H Q E h=>?_) (fun cdv A outer s H vs Q E hr h=>?_)
 ·obtain⟨l,as,pss,rfl,_⟩:=h; rfl
 ·obtain⟨l,as,pss,rfl,hl,ht,hw,k⟩:=h
  have hr5:Room 5 _:=hr.mono (by decide);refine⟨_,zf (zaq (zl Gw hr rfl mw Fw.kp bw .nil pass0 (zc (pv 0) ze)))
   (zi (zr (zl Ga hr5 rfl ma Fa.kp ba .nil pass0 (zc (pv 0) ze)))),?_⟩
  obtain⟨h20,_,h5,_⟩:=zer hw.1;refine⟨_,rfl,l,as,pss,rfl,hl,ht,hw,fun H1 sm1=>?_⟩;refine⟨_,rfl,l,as,pss,rfl,sm1.seq hl,sm1.tps ht,h5,h20,(by rw[<- zaG]; exact hw.2),fun D H2 qs t=>?_⟩;obtain⟨bs,sm2,hD,hD2,hb⟩:=zcI t;exact k D H2 bs (sm1.trans sm2) (sm1.free hD) hD2 hb
end
end K43
end
section
namespace K43
open K1
open PySem L2 STb
abbrev zcW:Stmt:=top 8
abbrev zdA:Stmt:=top 12
theorem cutk (xs:List V) (i:Nat) (h:i<=xs.length):cutV xs none (some (i:Int))=xs.take i:=by
 unfold cutV;rw[HT.zb0,HT.zcm,Nat.min_eq_left h,List.drop_zero,Nat.sub_zero]
theorem cutd (xs:List V) (i:Nat) (h:i<=xs.length):cutV xs (some (i:Int)) none=xs.drop i:=by
 unfold cutV;rw[HT.zb0,HT.zcm,Nat.min_eq_left h];exact List.take_of_length_le (by rw[List.length_drop]; exact Nat.le_refl _)
abbrev tRim:TE:=tOp zj9 (tSl rSlA (tVar 1) zeE (zkj (tVar 0))) (tSl rSlA (tVar 1) (zkj (tOp (rI0 fun i j=>.int (i+j)) (tVar 0) (tC (.int 1)))) zeE)
section
variable {P:Program}{w:World}{K:PySem.W.Frag}{mg:Str->Option Value}{base:Heap}
theorem zhY {H2:Hp}{a D:Addr}{ps:List Int}{Q:VK} (ha:Tp H2 a ps) (hz:ps.length<=5) (hD:H2 D=none)
  (k:∀(H3:Hp) (bs:List Addr),Same H2 H3->H3 D=some (.lst (bs.map V.ref))->Tps H3 bs ((List.range ps.length).map fun k=>ps.take k++ps.drop (k+1))->Q (.ref D) H3) :
  zau (Itr 0 ps.length) (zap 0) tYes tRim [none,some (.ref a)] H2 D Q:=by
 refine za7 (fun j σ ys H3=>∃(v:Option V) (bs:List Addr),σ=[v,some (.ref a)]/\Same H2 H3/\H3 D=some (.lst ys)/\ys=bs.map V.ref/\Tps H3 bs (((List.range ps.length).map fun k=>ps.take k++ps.drop (k+1)).take j)) ?_ ?_ ?_
 ·exact⟨none,[],rfl,Same.new hD,zd,rfl,.nil⟩
 ·rintro j σ ys H3 hj hy ⟨v,bs,rfl,sm,hD3,rfl,hb⟩
  have e:((List.range ps.length).map fun k=>ps.take k++ps.drop (k+1))[j]?=some (ps.take j++ps.drop (j+1)):=by rw[List.getElem?_map,List.getElem?_range hj]; rfl
  refine gyes ?_;refine⟨_,rfl,_,rfl,_,rfl,a,_,rfl,sm.tp ha,fun p1 H4 sm4 hp1=>⟨_,rfl,_,rfl,_,_,rfl,rfl,_,rfl,a,_,rfl,sm4 _ _ (sm.tp ha),fun p2 H5 sm5 hp2=>?_⟩⟩;rw[show (0:Int)+((j:Nat):Int)=((j:Nat):Int) by omega,cutk _ _ (by rw[List.length_map]; omega),<- List.map_take] at hp1;rw[show (0:Int)+((j:Nat):Int)+1=((j+1:Nat):Int) by omega,cutd _ _ (by rw[List.length_map]; omega),<- List.map_drop] at hp2;refine⟨p1,p2,_,_,rfl,rfl,sm5 _ _ hp1,hp2,zh (by simp; omega),fun p3 H6 sm6 hp3=>?_⟩;rw[<- List.map_append] at hp3;have s6:=(sm4.trans sm5).trans sm6;refine cput (zh (by omega)) hj hy (s6 _ _ hD3) ⟨_,bs++[p3],rfl,(sm.trans s6).then hD,zd,by rw[List.map_append]; rfl,?_⟩;rw[take_snoc e];exact Tps.upd (Tps.snoc (s6.tps hb) hp3) (s6 _ _ hD3) (by intro xs z; cases z)
 ·rintro σ ys H3 ⟨v,bs,rfl,sm,hD3,rfl,hb⟩
  rw[List.take_of_length_le (by simp)] at hb;exact k H3 bs sm hD3 hb
def zd5:Sp:=fun vs H Q _=>∃a ps,vs=[.ref a]/\Tp H a ps/\ps.length<=5/\∀D H2 (bs:List Addr),Same H H2->H D=none->H2 D=some (.lst (bs.map V.ref))->Tps H2 bs (rims ps)->Q (.ref D) H2
theorem zk6:zt ["piece"] ["piece"] (zg zcW):=⟨rfl,rfl,rfl,by decide +kernel,rfl,by decide +kernel,by decide +kernel⟩
theorem zgT {f:Addr}{fd:FuncData} (F:Fun K "rims_of" "rims_of" zcW f fd) (B:Bt mg):FnOk P w K mg base CX0 1 f fd ["piece"] zd5:=by
 refine F.ok zk6 (fun vs H Q E h=>?_) (fun cdv A outer s H vs Q E hr h=>?_)
 ·obtain⟨a,ps,rfl,_⟩:=h; rfl
 ·obtain⟨a,ps,rfl,ha,h5,k⟩:=h
  refine⟨_,zf (zav (zx zeB (zu zn rfl B.len za3 (zc (pv 0) ze)) zj (nomark _)) (zi (zr (z0 ze))) zD)
   (zi (zr (zI ["piece"] ["k","piece"] [none,some 0] (zar rfl B.range (zc (zu zn rfl B.len za3 (zc (pv 0) ze)) ze)) (fun cl C s₀ H₀ ex=>zm (i:=0) (ndN ["k","piece"]) rfl (Or.inl rfl)) (fun cl C s₀ H₀ ex=>zas)
    (fun cl C s₀ H₀ ex=>zC zds (za5 zcU (pv 1) zbC (zbA (pv 0))) (za5 zcU (pv 1) (zbA (zC zah (pv 0) zj)) zbC)) (hfr:=frOf (zg zcW) (by decide +kernel)) (te:=tRim)))),?_⟩
  refine⟨_,rfl,a,_,rfl,.inr (SqT.of ha),rfl,_,rfl,?_⟩;rw[List.length_map]
  by_cases h1:ps.length=1
  ·rw[show decide (V.int (ps.length:Int)=V.int 1)=true from decide_eq_true (by rw[h1]; rfl)]
   refine iteT ⟨zh (by simp),fun D hD=>k D _ [] (Same.new hD) hD zd ?_⟩;unfold rims;rw[if_pos h1];exact .nil
  ·rw[show decide (V.int (ps.length:Int)=V.int 1)=false from decide_eq_false fun z=>h1 (by injection z with z; omega)]
   refine iteF ⟨_,rfl,a,_,rfl,.inr (SqT.of ha),_,rfl,by rw[List.length_map]; omega,by rw[List.length_map]; omega,fun D hD=>?_⟩;rw[List.length_map];refine zN (zhY ha h5 hD fun H3 bs sm hD3 hb=>k D H3 bs sm hD hD3 ?_);unfold rims;rw[if_neg h1];exact hb
theorem zjN (seq:List (List Int)) (p:List Int):(valV (kvM seq) (p.map Sum.inl)).isSome=decide (p∈seq):=by
 rw[<- zcQ,Bool.eq_iff_iff,List.any_eq_true,decide_eq_true_eq];unfold kvM;constructor
 ·rintro⟨kv,hm,e⟩
  obtain⟨q,hq,rfl⟩:=List.mem_map.mp hm;have e':=of_decide_eq_true e;have:q=p:=(List.map_inj_right (f:=(Sum.inl:Int->Key)) (fun x y h=>Sum.inl.inj h)).mp e';rw[<- this];exact (zaC seq q).mp hq
 ·intro h
  exact⟨_,List.mem_map.mpr ⟨p,(zaC seq p).mpr h,rfl⟩,by simp⟩
theorem zgZ {H2:Hp}{L d D:Addr}{as:List Addr}{kn seq:List (List Int)}{Q:VK} (hl:SqL K H2 L (as.map V.ref)) (ht:Tps H2 as kn) (hd:H2 d=some (.dT (kvM seq))) (hz:kn.length<=1000) (hD:H2 D=none)
  (k:∀(H3:Hp) (bs:List Addr),Same H2 H3->H3 D=some (.lst (bs.map V.ref))->Tps H3 bs (kn.filter fun p=>!decide (p∈seq))->Q (.ref D) H3) :
  zau (Itl K L) (zap 0) (tB (zdc (tVar 0) (tVar 1))) (tVar 0) [none,some (.ref d)] H2 D Q:=by
 have hla:=ht.length;refine zag (xs:=as.map V.ref) (fun j σ ys H3=>∃(v:Option V) (bs:List Addr),σ=[v,some (.ref d)]/\Same H2 H3/\H3 D=some (.lst ys)/\ys=bs.map V.ref/\Tps H3 bs ((kn.take j).filter fun p=>!decide (p∈seq))) ?_ ?_ ?_ ?_
 ·exact⟨none,[],rfl,Same.new hD,zd,rfl,.nil⟩
 ·rintro j σ ys H3 ⟨v,bs,rfl,sm,hD3,rfl,_⟩
  exact sm.seq hl
 ·rintro j σ ys H3 x hx hj hy ⟨v,bs,rfl,sm,hD3,rfl,hb⟩
  obtain⟨o,eo,rfl⟩:=zT hx;obtain⟨p,ep,hp⟩:=ht.get eo;have hn:(as.map V.ref).length<=sizeLine:=by rw[List.length_map]; exact zh (by omega)
  refine⟨_,rfl,_,rfl,d,_,rfl,DGet.t (k:=p.map Sum.inl) (sm _ _ hd) (by rw[List.map_map]; exact sm.tp hp),_,rfl,?_⟩;rw[zjN]
  by_cases hin:p∈seq
  ·rw[decide_eq_true hin]
   refine iteF (cskip hj hy ⟨_,bs,rfl,sm,hD3,rfl,?_⟩);rw[take_snoc ep,List.filter_append,List.filter_cons_of_neg (by rw[decide_eq_true hin]; decide),List.filter_nil,List.append_nil];exact hb
  ·rw[decide_eq_false hin]
   refine iteT ⟨_,rfl,cput hn hj hy hD3 ⟨_,bs++[o],rfl,sm.then hD,zd,by rw[List.map_append]; rfl,?_⟩⟩;rw[take_snoc ep,List.filter_append,List.filter_cons_of_pos (by rw[decide_eq_false hin]; rfl),List.filter_nil];exact Tps.upd (Tps.snoc hb (sm.tp hp)) hD3 (by intro xs z; cases z)
 ·rintro σ ys H3 ⟨v,bs,rfl,sm,hD3,rfl,hb⟩
  rw[List.length_map,hla,List.take_of_length_le (Nat.le_refl _)] at hb;exact k H3 bs sm hD3 hb
theorem zdP {m:Nat}:∀{b:List (List Int)},(∀ps∈b,(rims ps).length<=m)->(b.flatMap rims).length<=m*b.length
 | [],_=>by simp
 | p::r,h=>by
  have h1:=h p List.mem_cons_self;have h2:=zdP (b:=r) fun q hq=>h q (List.mem_cons_of_mem _ hq);rw[List.flatMap_cons,List.length_append,List.length_cons,Nat.mul_succ];omega
def ziP (K:PySem.W.Frag):Sp:=fun vs H Q _=>∃l as pss,vs=[.ref l]/\SqL K H l (as.map V.ref)/\Tps H as (canon pss)/\(∀p∈pss,zP p=true)/\(canon pss).length<1000/\∀D H2 (bs:List Addr),Same H H2->H D=none->H2 D=some (.lst (bs.map V.ref))->Tps H2 bs (tops (canon pss))->Q (.ref D) H2
theorem zfl:zt ["every","covered","piece","rim"] ["every"] (zg zdA):=⟨rfl,rfl,rfl,by decide +kernel,rfl,by decide +kernel,by decide +kernel⟩
theorem zj2 {f fr fo fk:Addr}{fd fdr fdo fdk:FuncData} (F:Fun K "greatest_of" "greatest_of" zdA f fd) (B:Bt mg)
  (Fr:Fun K "rims_of" "rims_of" zcW fr fdr) (br:Binds K fdr ["piece"] []) (mr:mg "rims_of"=some (.ref fr)) (Fo:Fun K "in_order" "in_order" zbr fo fdo) (bo:Binds K fdo ["some"] []) (mo:mg "in_order"=some (.ref fo))
  (Fk:Fun K "order_key" "order_key" sKey fk fdk) (bk:Binds K fdk ["piece"] []) (mk:mg "order_key"=some (.ref fk)):FnOk P w K mg base CX0 5 f fd ["every"] (ziP K):=by
 have Gr:FnOk P w K mg base CX0 1 fr fdr ["piece"] zd5:=zgT Fr B;have Go:FnOk P w K mg base CX0 4 fo fdo ["some"] (zef K):=ze6 Fo B Fk bk mk;refine F.ok zfl (fun vs H Q E h=>?_) (fun cdv A outer s H vs Q E hr h=>?_)
 ·obtain⟨l,as,pss,rfl,_⟩:=h; rfl
 ·obtain⟨l,as,pss,rfl,hl,ht,hpp,h200,k⟩:=h
  have hu:=zdC hr;have hr1:Room 1 _:=hr.mono (by decide);refine⟨_,zf (zq (i:=1) zfl.nd rfl (Or.inr rfl) zbo)
   (zf (zaa PassesOwn.never rfl (zz (pv 0)) (zm (i:=2) zfl.nd rfl (Or.inl rfl))
    (zi (zaa PassesOwn.never rfl (zz (zl Gr hr1 rfl mr Fr.kp br .nil pass0 (zc (pv 2) ze))) (zm (i:=3) zfl.nd rfl (Or.inl rfl))
     (zi (zct hu (pv 1) (pv 3) zaY rfl)))))
   (zi (zr (zl Go hr rfl mo Fo.kp bo .nil pass0 (zc (zI ["every","covered","piece","rim"] ["piece","covered"] [none,some 1] (zz (pv 0)) (fun cl C s₀ H₀ ex=>zm (i:=0) (ndN ["piece","covered"]) rfl (Or.inl rfl))
    (fun cl C s₀ H₀ ex=>zbk (zf1 (zcb hu (pv 0) (pv 1)) (by with_unfolding_all rfl))) (fun cl C s₀ H₀ ex=>pv 0) (hfr:=frOf (zg zdA) (by decide +kernel)) (tc:=tB (zdc (tVar 0) (tVar 1)))) ze))))),?_⟩
  intro d hd;have hla:=ht.length;have h5:∀p∈canon pss,p.length<=5:=fun p hp=>by
   obtain⟨q,hq,hx⟩:=List.mem_flatMap.mp (zV.mp hp);exact (zG.mp (za6 (hpp q hq) hx)).2.1
  refine⟨_,rfl,l,rfl,⟨_,(Same.new hd).seq hl⟩,zK (K:=K) (a:=l) (xs:=as.map V.ref) (fun i σ H2=>∃(v v':Option V),σ=[some (.ref l),some (.ref d),v,v']/\Same H H2/\H2 d=some (.dT (kvM (((canon pss).take i).flatMap rims))))
   ⟨none,none,rfl,Same.new hd,zd⟩ (fun i σ H2 _ ⟨_,_,_,sm,_⟩=>sm.seq hl) ?_ ?_⟩
  ·rintro i x σ H2 hx ⟨v,v',rfl,sm,hd2⟩
   obtain⟨a,ea,rfl⟩:=zT hx;obtain⟨ps,eps,hps⟩:=ht.get ea;have hps5:=h5 ps (List.mem_of_getElem? eps);have hi:i<(canon pss).length:=(List.getElem?_eq_some_iff.mp eps).1;refine⟨_,rfl,a,ps,rfl,sm.tp hps,hps5,fun D H3 cs sm3 hD0 hD hcs=>⟨D,rfl,⟨_,SqL.of hD⟩,?_⟩⟩;have hlc:=hcs.length;have hdD:D≠d:=zaA hD (sm3 _ _ hd2) (by intro z; cases z);refine zK (K:=K) (a:=D) (xs:=cs.map V.ref) (fun j σ H4=>∃(v':Option V),σ=[some (.ref l),some (.ref d),some (.ref a),v']/\Same H H4/\H4 D=some (.lst (cs.map V.ref))/\Tps H4 cs (rims ps)/\H4 d=some (.dT (kvM (((canon pss).take i).flatMap rims++(rims ps).take j))))
    ⟨_,rfl,sm.trans sm3,hD,hcs,by rw[List.take_zero,List.append_nil]; exact sm3 _ _ hd2⟩ (fun j σ H4 _ ⟨_,_,_,q,_⟩=>SqL.of q) ?_ ?_
   ·rintro j x σ H4 hx ⟨v',rfl,sm4,hD4,hcs4,hd4⟩
    obtain⟨c,ec,rfl⟩:=zT hx;obtain⟨f,ef,hf⟩:=hcs4.get ec;have hlen:(kvM (((canon pss).take i).flatMap rims++(rims ps).take j)).length<sizeLine:=by
     refine zS (Nat.le_trans (zeq _) ?_);rw[List.length_append];have h1:=zdP (m:=5) (b:=(canon pss).take i) (fun q hq=>Nat.le_trans (zbb q) (h5 q (List.mem_of_mem_take hq)));have h2:=zbb ps;rw[List.length_take] at h1 ⊢;omega
    refine⟨_,rfl,_,rfl,d,_,rfl,DPut.t (k:=f.map Sum.inl) hd4 (by rw[List.map_map]; exact hf) hlen,⟨_,rfl,sm4.then hd,?_,?_,?_⟩⟩
    ·rw[upd_ne hdD]; exact hD4
    ·exact Tps.upd hcs4 hd4 (by intro xs z; cases z)
    ·rw[zd,zeP,List.append_assoc,<- take_snoc ef]
   ·rintro σ H4 ⟨v',rfl,sm4,hD4,hcs4,hd4⟩
    refine⟨_,_,rfl,sm4,?_⟩;rw[List.length_map,hlc,take_all] at hd4;rw[take_snoc eps,List.flatMap_append,List.flatMap_singleton];exact hd4
  ·rintro σ H2 ⟨v,v',rfl,sm,hd2⟩
   rw[List.length_map,hla,take_all] at hd2;refine⟨_,rfl,l,rfl,⟨_,sm.seq hl⟩,fun L2' hL2=>zN (zgZ (sm.seq hl) (sm.tps ht) hd2 (by omega) hL2 fun H3 bs sm3 hL3 hb=>?_)⟩;rw[zeb hpp] at hb;refine⟨L2',bs,tops (canon pss),rfl,SqL.of hL3,hb,Nat.lt_of_le_of_lt (List.length_filter_le _ _) h200,fun D H4 qs sm4 hD hD4 hp hs=>?_⟩;have hlb:=hb.length;have hq:∀q∈qs,Tp H4 q.2 q.1:=fun q hq=>by
    obtain⟨m,em⟩:=List.mem_iff_getElem?.mp (hp.mem_iff.mp hq);rw[Srt.zipget] at em;cases e1:(tops (canon pss))[m]? with
    | none=>rw[e1] at em; cases em
    | some f=>
     cases e2:bs[m]? with
     | none=>rw[e1,e2] at em; cases em
     | some b=>
      rw[e1,e2] at em;obtain rfl:(f,b)=q:=Option.some.inj em;exact sm4.tp (za0 hb m b f e2 e1)
   have hperm:(qs.map (·.1)).Perm (tops (canon pss)):=by
    have:=hp.map (·.1);rw[List.map_fst_zip (by omega)] at this;exact this
   have e:qs.map (·.1)=tops (canon pss):=zaS hperm ((List.pairwise_map.mpr hs).imp fun h=>zaV.mpr h) (zew pss);have sm24:=sm3.trans sm4;refine k D H4 (qs.map (·.2)) (sm.trans sm24) (sm.free (sm3.free hD)) (by rw[hD4,List.map_map]; rfl) ?_;rw[<- e];exact zc1 hq
end
end K43
end
section
namespace L2
open PySem PySem.Spec PyProof.Rows
theorem zaK {cells:List (Str×Addr)}{x:Str}{c:Addr}:∀{names:List (Str×NameKind)}{acc:List (Str×Addr)},(∀y∈names,y.2=.free->∃d,cells.lookup y.1=some d)->(∀p∈acc,False)->(x,c)∈clOf cells names acc->cells.lookup x=some c/\(x,NameKind.free)∈names:=by
 have gen:∀{names:List (Str×NameKind)} {acc:List (Str×Addr)},(∀y∈names,y.2=.free->∃d,cells.lookup y.1=some d)->(x,c)∈clOf cells names acc->(x,c)∈acc \/ (cells.lookup x=some c/\(x,NameKind.free)∈names):=by
  intro names
  induction names with
  | nil=>intro acc _ h; exact .inl h
  | cons y r ih=>
   intro acc hn h;obtain⟨n,k⟩:=y;unfold clOf at h;have hn':∀y∈r,y.2=.free->∃d,cells.lookup y.1=some d:=fun y hy=>hn y (List.mem_cons_of_mem _ hy)
   by_cases hk:(k == NameKind.free)=true
   ·have hk':k=.free:=by cases k <;> first | rfl | cases hk
    obtain⟨d,hd⟩:=hn (n,k) List.mem_cons_self hk';rw[if_pos hk] at h;rcases ih hn' h with q | ⟨q1,q2⟩
    ·rcases List.mem_cons.mp q with q | q
     ·refine .inr ⟨?_,?_⟩
      ·have hd':cells.lookup n=some d:=hd
       rw[hd'] at q;cases q;exact hd'
      ·cases q
       rw[hk'];exact List.mem_cons_self
     ·exact .inl q
    ·exact .inr ⟨q1,List.mem_cons_of_mem _ q2⟩
   ·rw[if_neg hk] at h
    rcases ih hn' h with q | ⟨q1,q2⟩
    ·exact .inl q
    ·exact .inr ⟨q1,List.mem_cons_of_mem _ q2⟩
 intro names acc hn ha h;rcases gen hn h with q | q
 ·exact (ha _ q).elim
 ·exact q
theorem cf_mem:∀(names:List (Str×NameKind)) (h:Heap) (acc:List (Str×Addr)) (x:Str) (c:Addr),(x,c)∈cellsFrom h.objs.size names acc->(x,c)∈acc \/ ((x,NameKind.cell)∈names/\h.objs.size<=c/\(pushCells h names).IsCell c none)
 | [],h,acc,x,c,hm=>.inl hm
 | (n,k)::r,h,acc,x,c,hm=>by
  rw[cellsFrom.eq_2] at hm;have ep:pushCells h ((n,k)::r)=if (k == NameKind.cell)=true then pushCells (h.push { cls:=Value.type "cell",data:=Data.cell none }) r else pushCells h r:=rfl
  by_cases hk:(k == NameKind.cell)=true
  ·have hk':k=.cell:=by cases k <;> first | rfl | cases hk
   rw[if_pos hk] at hm;rw[ep,if_pos hk];have es:(h.push { cls:=Value.type "cell",data:=Data.cell none }).objs.size=h.objs.size+1:=Heap.size_push ..;rw[<- es] at hm;rcases cf_mem r _ _ x c hm with q | ⟨q1,q2,q3⟩
   ·rcases List.mem_cons.mp q with q | q
    ·cases q
     refine .inr ⟨by rw[hk']; exact List.mem_cons_self,Nat.le_refl _,_,pushCells_keeps r _ _ _ (Heap.get?_push_size _ rfl),rfl⟩
    ·exact .inl q
   ·rw[es] at q2
    exact .inr ⟨List.mem_cons_of_mem _ q1,Nat.le_of_succ_le q2,q3⟩
  ·rw[if_neg hk] at hm
   rw[ep,if_neg hk];rcases cf_mem r h acc x c hm with q | ⟨q1,q2,q3⟩
   ·exact .inl q
   ·exact .inr ⟨List.mem_cons_of_mem _ q1,q2,q3⟩
theorem zf8:∀(names:List (Str×NameKind)) (n:Nat) (acc:List (Str×Addr)),(∀x y c,(x,c)∈acc->(y,c)∈acc->x=y)->(∀p∈acc,p.2<n)->∀x y c,(x,c)∈cellsFrom n names acc->(y,c)∈cellsFrom n names acc->x=y
 | [],n,acc,hi,_,x,y,c,h1,h2=>hi x y c h1 h2
 | (m,k)::r,n,acc,hi,hl,x,y,c,h1,h2=>by
  rw[cellsFrom.eq_2] at h1 h2
  by_cases hk:(k == NameKind.cell)=true
  ·rw[if_pos hk] at h1 h2
   refine zf8 r (n+1) ((m,n)::acc) (fun x y c p q=>?_) (fun p hp=>?_) x y c h1 h2
   ·rcases List.mem_cons.mp p with p | p <;> rcases List.mem_cons.mp q with q | q
    ·cases p; cases q; rfl
    ·cases p
     have:n<n:=hl _ q;omega
    ·cases q
     have:n<n:=hl _ p;omega
    ·exact hi x y c p q
   ·rcases List.mem_cons.mp hp with rfl | hp
    ·exact Nat.lt_succ_self _
    ·exact Nat.lt_succ_of_lt (hl p hp)
  ·rw[if_neg hk] at h1 h2
   exact zf8 r n acc hi hl x y c h1 h2
theorem zfK {M:Model}{A:Around}{E:Value->Shared->Prop}{s:Shared}{scope:Scope}{globals:Addr}{cl:List (Str×Addr)}{qual:Str}{env:Env}{Q:Env->Shared->Prop}
  (h:∀h₁:Heap,(h₁.Ns s.heap.objs.size fun _=>none)->(∀b o,s.heap.get? b=some o->h₁.get? b=some o)->
   (∀x c,(x,c)∈cellsFrom (s.heap.objs.size+1) scope.names cl->(x,c)∈cl \/ ((x,NameKind.cell)∈scope.names/\s.heap.objs.size+1<=c/\h₁.IsCell c none))->
   Q (newEnv scope s.heap.objs.size globals (cellsFrom (s.heap.objs.size+1) scope.names cl) qual none .none (some env) builtinsNs) { s with heap:=h₁ }) :
  wpAny M A (newFunctionEnv scope globals cl [] qual none Value.none (some env)) Q E s:=by
 unfold newFunctionEnv;refine wpAny_bind (wpAny_alloc ?_);refine wpAny_bind (wpAny_layCells _ (fun name kind cells=>rfl) scope.names cl _ _ ?_);have es:(s.heap.push { cls:=Value.type "dict",data:=Data.dict #[] }).objs.size=s.heap.objs.size+1:=Heap.size_push ..;have:=h (pushCells (s.heap.push { cls:=Value.type "dict",data:=Data.dict #[] }) scope.names) ((Heap.Ns.new s.heap (.type "dict")).keeps fun b o e=>pushCells_keeps _ _ _ _ e) (fun b o e=>pushCells_keeps _ _ _ _ (Heap.get?_push_of_some _ e)) (fun x c hm=>by
  rw[<- es] at hm ⊢;exact cf_mem scope.names _ cl x c hm)
 show wpAny M A _ _ _ _;refine wpAny_bind (wpAny_pure ?_);refine wpAny_pure ?_;rw[<- es] at this;exact this
def cxD (X:Cx) (scope:Scope) (N:List Str) (cl:List (Str×Addr)) (C:Addr) (s₀:Shared) (H₀:Hp) (ex:List Addr):Cx:={ cxC X scope N cl C s₀ H₀ ex with fn:=fun x=>decide (scope.names.lookup x=some .cell) }
section
variable {X:Cx}{scope:Scope}{N':List Str}{caps:List (Option Nat)}{tg iter elt:Expr}{ifs:List Expr}{wi:TI}{g:TG}{tc:TT}{te:TE}{pos:Pos}
end
end L2
end
section
namespace Dk
open PySem
section
variable {prog:Program}{w:World}{K:Type} [DecidableEq K] {knd:HeapKind prog w K}{A:Around}{E:Value->Shared->Prop}{s:Shared}
theorem zbg {d a:Addr}{xs:List (K×Addr×Value)}{k:K}{v:Value}{Q:Value->Shared->Prop} (hu:knd.room A) (hkey:knd.is s.heap k a) (hm:s.heap.DictOfH knd d xs)
  (h1:∀p,atKey xs k=some p->Q p.2 { s with toks:=s.toks+knd.draws k })
  (h2:atKey xs k=none->∀h',h'.DictOfH knd d (storedH xs k a v)->Heap.SameBut d s.heap h'->Q v { s with heap:=h',toks:=s.toks+knd.draws k })
  (hsz:xs.length<=sizeLine:=by size_fits):wpAny (model prog w) A (dictSetDefault d (.ref a) v) Q E s:=by
 obtain⟨o,es,ep,ho,hc,hd,he,his,hn⟩:=hm;unfold dictSetDefault
 try with_reducible refine wpAny_holding ?_
 refine wpAny_bind (knd.pyHash hu hkey ?_);refine wpAny_bind (wpAny_dictFind_heap (s:={ s with toks:=s.toks+knd.draws k }) hu hkey ho hd he his hn ?_ ?_)
 ·intro hno
  have hnot:k∉xs.map (·.1):=not_mem_keys_of_get hno;refine wpAny_bind (wpAny_rule (wpAny_bind (wpAny_updateDictKeys (hz:=by have e:=size_of_entries he; omega) (s:={ s with toks:=s.toks+knd.draws k }) ho hd (wpAny_pure (h2 (atKey_none_of_get hno) _ ⟨_,_,ep+1,Heap.get?_update_self _ ho (Obj.isFreed_of_dict (Obj.data_mapDictKeys hd _)),
   hc.mapDictKeys _,Obj.data_mapDictKeys hd _,?_,?_,?_⟩ (Heap.SameBut.update ..))))))
  ·rw[storedH_new (atKey_none_of_get hno)]
   simp[he,entryOfKey]
  ·rw[storedH_new (atKey_none_of_get hno)]
   intro x hx;rcases List.mem_append.mp hx with hx | hx
   ·exact knd.keeps (his x hx) ho hd (Heap.SameBut.update ..)
   ·simp only[List.mem_singleton] at hx
    subst hx;exact knd.keeps hkey ho hd (Heap.SameBut.update ..)
  ·rw[storedH_new (atKey_none_of_get hno)]
   rw[List.map_append,List.nodup_append];refine⟨hn,by simp,?_⟩;intro x hx y hy;simp only[List.map_cons,List.map_nil,List.mem_singleton] at hy;subst hy;exact fun e=>hnot (e ▸ hx)
 ·intro j p hj
  refine wpAny_bind (wpAny_dictEntries (s:={ s with toks:=s.toks+knd.draws k }) ho hd ?_);rw[entry_at he j,hj];exact wpAny_bind (wpAny_rule (wpAny_pure (h1 p (atKey_of_get hn hj))))
end
end Dk
namespace L2
open PySem PySem.Spec PyProof.Rows
section
variable {X:Cx}
def zlD:V->List V->Hp->VK->Prop:=fun x vs H Q=>∃d kvs k b dv,x=.ref d/\vs=[.ref b,dv]/\H d=some (.dT kvs)/\H b=some (.tup (k.map kV))/\kvs.length<sizeLine/\
 ((∃v,valV kvs k=some v/\Q v H) \/ (valV kvs k=none/\Q dv (upd H d (.dT (putK kvs k dv)))))
theorem zjt (hu:X.A.units+1<cLine):MtR X "dict.setdefault" zlD:=by
 intro pins s σ H x vs v us Q I rx rv h;obtain⟨d,kvs,k,b,dv,rfl,rfl,hd,hb,hz,q⟩:=h;cases rx;obtain⟨u,r,rfl,ry,rr⟩:=rv.two;cases (show u=Value.ref b from ry);obtain⟨z,hs,xs,rel,dd⟩:=zlh I.hok hd;have hx:xs.length<=sizeLine:=by rw[<- Paired.length rel]; exact z
 have hT:s.TypeIs (.ref d) "dict":=dd.typeIs;have mm:MeetsIn X.prog X.w (Builtin.«dict.setdefault» ⟨[.ref d,.ref b,r],[]⟩) (fun A R s'=>A.units+1<cLine/\(tupleKind (zv X.prog X.w)).is s'.heap k b/\s'.heap.DictOfH (tupleKind (zv X.prog X.w)) d xs/\
   (∀p,atKey xs k=some p->R (.ok (.ret p.2)) { s' with toks:=s'.toks+(tupleKind (zv X.prog X.w)).draws k })/\
   (atKey xs k=none->∀h',h'.DictOfH (tupleKind (zv X.prog X.w)) d (storedH xs k b r)->Heap.SameBut d s'.heap h'->R (.ok (.ret r)) { s' with heap:=h',toks:=s'.toks+(tupleKind (zv X.prog X.w)).draws k })):=
  .of_wp fun A R s' ⟨hA,hk,hm,h1,h2⟩=>by
   unfold Builtin.«dict.setdefault»;refine wpAny_bind ?_;unfold Builtin.Dict.keyAndDefault;refine wpAny_bind (wpAny_notOrdered_dict hm.typeIs ?_);show wpAny _ _ (pure (d,Value.ref b,some r)) _ _ s';refine wpAny_pure ?_;show wpAny _ _ (if (d == sysModules)=true then _ else (dictSetDefault d (.ref b) r >>= _)) _ _ s';rw[if_neg (by rw[hs]; exact Bool.false_ne_true)];exact wpAny_bind (Dk.zbg (knd:=tupleKind (zv X.prog X.w)) (tupleKind_room_in1 hA) hk hm (fun p hp=>wpAny_pure ⟨p.2,rfl,h1 p hp⟩) (fun hno h' hm' hs'=>wpAny_pure ⟨r,rfl,h2 hno h' hm' hs'⟩) hx)
 refine call_meetsIn PySem.F.slot_dict_setdefault hT PySem.F.entry_dict_setdefault (PySem.F.args_dict_setdefault_3 _ _ _) mm ⟨hu,zcE I.hok hb,dd,fun p hp=>?_,fun hno h' dd' hsb=>?_⟩
 ·rcases q with ⟨v1,e,q⟩ | ⟨e,_⟩
  ·obtain⟨w',hw',rw'⟩:=RelO.some_of (v:=v1) (o:=(atKey xs k).map (·.2)) (by rw[<- e]; exact rel.val k)
   rw[hp] at hw';cases hw';exact⟨v1,H,I.tok _,rw',q⟩
  ·have:=RelO.none_of (o:=(atKey xs k).map (·.2)) (by rw[<- e]; exact rel.val k)
   rw[hp] at this;cases this
 ·rcases q with ⟨v1,e,q⟩ | ⟨e,q⟩
  ·obtain⟨w',hw',_⟩:=RelO.some_of (v:=v1) (o:=(atKey xs k).map (·.2)) (by rw[<- e]; exact rel.val k)
   rw[hno] at hw';cases hw'
  ·obtain⟨q',es,ep,hq,h2,h3,h4,_,h5⟩:=dd'
   have hl:(putK kvs k dv).length<=sizeLine:=by have:=zbe kvs k dv; omega
   refine⟨dv,_,zeK (ob:=.dT (putK kvs k dv)) I (by rw[hd]; exact True.intro) hsb ⟨q',hq⟩ ⟨hl,hs,_,(rel.put k hb rr).keeps fun c ys ec=>?_,q',es,ep,hq,h2,h3,h4,h5⟩,rr,q⟩;rw[upd_ne (zaA ec hd (fun z=>nomatch z))];exact ec
end
end L2
end
section
namespace L2
open PySem PySem.Spec PyProof.Rows
abbrev Pp:Type:=List Int×List Int
def Pr2 (H:Hp) (t:Addr) (x:Pp):Prop:=∃a b,H t=some (.tup [.ref a,.ref b])/\Tp H a x.1/\Tp H b x.2
def Prs2 (H:Hp) (ts:List Addr) (xs:List Pp):Prop:=Paired (Pr2 H) ts xs
abbrev ppD (x:Pp):PyData:=.tuple [.tuple (x.1.map PyData.int),.tuple (x.2.map PyData.int)]
abbrev ppsD (xs:List Pp):PyData:=.list (xs.map ppD)
theorem Pr2.same {H H':Hp}{t:Addr}{x:Pp} (h:Pr2 H t x) (s:Same H H'):Pr2 H' t x:=let ⟨a,b,e,p,q⟩:=h; ⟨a,b,s _ _ e,s.tp p,s.tp q⟩
theorem Prs2.same {H H':Hp}{ts:List Addr}{xs:List Pp} (h:Prs2 H ts xs) (s:Same H H'):Prs2 H' ts xs:=Paired.mapP h fun _ _ q=>q.same s
theorem Prs2.length {H:Hp}{ts:List Addr}{xs:List Pp} (h:Prs2 H ts xs):ts.length=xs.length:=Paired.length h
theorem Pr2.upd {H:Hp}{d t:Addr}{o o':HO}{x:Pp} (h:Pr2 H t x) (hd:H d=some o') (hn:∀xs,o'≠.tup xs):Pr2 (L2.upd H d o) t x:=by
 obtain⟨a,b,e,p,q⟩:=h;have go:∀{c:Addr} {ys:List V},H c=some (.tup ys)->L2.upd H d o c=some (.tup ys):=fun {c ys} ec=>by rw[upd_ne (zaA ec hd fun z=>hn _ z.symm)]; exact ec
 exact⟨a,b,go e,go (show H a=some _ from p),go (show H b=some _ from q)⟩
theorem Prs2.upd {H:Hp}{d:Addr}{o o':HO}{ts:List Addr}{xs:List Pp} (h:Prs2 H ts xs) (hd:H d=some o') (hn:∀xs,o'≠.tup xs):Prs2 (L2.upd H d o) ts xs:=Paired.mapP h fun _ _ q=>q.upd hd hn
theorem Prs2.snoc {H:Hp}{ts:List Addr}{xs:List Pp}{t:Addr}{x:Pp} (h:Prs2 H ts xs) (q:Pr2 H t x):Prs2 H (ts++[t]) (xs++[x]):=Paired.snoc h q
theorem Prs2.get {H:Hp}:∀{ts:List Addr}{xs:List Pp}{i:Nat}{t:Addr},Prs2 H ts xs->ts[i]?=some t->∃x,xs[i]?=some x/\Pr2 H t x
 | _,_,0,_,.cons h _,e=>by cases e; exact⟨_,rfl,h⟩
 | _,_,i+1,_,.cons _ t,e=>Prs2.get (i:=i) t (by simpa using e)
section
variable {X:Cx}{pins:List (Addr×Obj)}{σ:St}{H:Hp}{s:Shared}
theorem ziB {t:Addr}{x:Pp} (I:Inv X pins σ H s) (h:Pr2 H t x):Reads s.heap (.ref t) (ppD x) []:=by
 obtain⟨a,b,e,p,q⟩:=h;obtain⟨its,r,pt,_⟩:=I.tuple (SqT.of e);obtain rfl:=vals_refs (as:=[a,b]) r;obtain⟨o,ho,hc,n,hd⟩:=id pt;exact .tuple ho hc hd (.cons (as:=[]) (bs:=[]) (zaN I p) (.cons (as:=[]) (bs:=[]) (zaN I q) .nil))
theorem zhm (I:Inv X pins σ H s):∀{ts:List Addr}{xs:List Pp},Prs2 H ts xs->ReadsAll s.heap (ts.map Value.ref) (xs.map ppD) []:=by
 intro ts xs h
 induction h with
 | nil=>exact .nil
 | cons r t ih=>exact .cons (as:=[]) (bs:=[]) (ziB I r) ih
theorem zea {l:Addr}{ts:List Addr}{xs:List Pp} (I:Inv X pins σ H s) (hl:SqL X.K H l (ts.map V.ref)) (h:Prs2 H ts xs):Reads s.heap (.ref l) (ppsD xs) [l]:=by
 obtain⟨its,r,p,_⟩:=I.list hl;obtain rfl:=vals_refs r;obtain⟨o,ho,hc,n,hd⟩:=p.isList;exact .list ho hc hd (by simpa using zhm I h)
end
theorem zf6 (x:Pp):PyData.canLay0 (ppD x)=true:=by simp[PyData.canLay0,PyData.canLayAll0,zcn,PySem.W.ke_canLayAll0]
theorem zik (x:Pp):PyData.depth (ppD x)=2:=by simp[PyData.depth,PyData.depthAll,PySem.W.ke_depthAll]
theorem zcx:∀xs:List Pp,PyData.canLayAll0 (xs.map ppD)=true
 | []=>rfl
 | x::r=>by rw[List.map_cons,PyData.canLayAll0,zf6,zcx r]; rfl
theorem zdw:∀xs:List Pp,PyData.depthAll (xs.map ppD)<=2
 | []=>Nat.zero_le _
 | x::r=>by rw[List.map_cons,PyData.depthAll,zik]; exact Nat.max_le.mpr ⟨Nat.le_refl _,zdw r⟩
theorem zcN (xs:List Pp):SeqAt.shaped (ppsD xs)=true:=by
 have:=zdw xs;have e:PyData.depth (ppsD xs)<=64:=by rw[PyData.depth]; omega
 unfold SeqAt.shaped;rw[decide_eq_true e,PyData.canLay0,zcx]
 rfl
theorem zjm (x y:Pp):same (ppD x) (ppD y)=decide (x=y):=by
 obtain⟨a,b⟩:=x;obtain⟨c,d⟩:=y;simp only[same,sameAll,PySem.W.ke_sameAll,Bool.and_true]
 by_cases h:a=c <;> by_cases h':b=d <;> simp[h,h']
theorem zfb:∀xs ys:List Pp,sameAll (xs.map ppD) (ys.map ppD)=decide (xs=ys)
 | [],[]=>by simp[sameAll]
 | [],_::_=>by simp[sameAll]
 | _::_,[]=>by simp[sameAll]
 | a::r,b::t=>by
  rw[List.map_cons,List.map_cons,sameAll,zjm,zfb r t]
  by_cases h:a=b <;> by_cases h':r=t <;> simp[h,h']
theorem zhi (xs:List Pp):(Shape.list (.tuples (.tuples .int))).has (ppsD xs)=true:=by simp[Shape.has]
def rEqP (neg:Bool) (K:PySem.W.Frag):R2:=fun x y H Q=>∃l m ts us xs ys,x=.ref l/\y=.ref m/\SqL K H l (ts.map V.ref)/\Prs2 H ts xs/\SqL K H m (us.map V.ref)/\Prs2 H us ys/\Q (.bl (if neg then !decide (xs=ys) else decide (xs=ys))) H
def rInP (neg:Bool) (K:PySem.W.Frag):R2:=fun x y H Q=>∃a t ps z,x=.ref a/\y=.ref t/\Tp H a ps/\Pr2 H t z/\Q (.bl (if neg then !decide (ps=z.1 \/ ps=z.2) else decide (ps=z.1 \/ ps=z.2))) H
section
variable {X:Cx}
theorem zkL (hu:X.A.units+64<cLine):OpR X (compareOp .NotEq) (rEqP true X.K):=by
 intro pins s σ H x y v u Q I rx ry h;obtain⟨l,m,ts,us,xs,ys,rfl,rfl,hl,hp,hm,hq,q⟩:=h;cases rx;cases ry;refine ne_dataH_same (zea I hl hp) (zea I hm hq) (zcN _) (zcN _) hu (SeqAt.noMix_of_shape (.list (.tuples (.tuples .int))) rfl _ _ (zhi _) (zhi _)) ?_;rw[show same (ppsD xs) (ppsD ys)=decide (xs=ys) from by simp only[same]; exact zfb xs ys];exact⟨.bl _,H,I,rfl,q⟩
theorem zec (hu:X.A.in1.units<cLine):OpR X (compareOp .NotIn) (rInP true X.K):=by
 intro pins s σ H x y v u Q I rx ry h;obtain⟨a,t,ps,z,rfl,rfl,ha,⟨b,c,e,hb,hc⟩,q⟩:=h;cases rx;cases ry;obtain⟨its,r,pt,_⟩:=I.tuple (SqT.of e);obtain rfl:=vals_refs (as:=[b,c]) r;have tt:Tps H [b,c] [z.1,z.2]:=.cons hb (.cons hc .nil);refine SeqAt.notIn_tupleAt (eqH H ps) pt (fun w hw=>zf3 I ha hu tt w (by simpa using hw)) ⟨.bl _,H,I,rfl,?_⟩;rw[show ([b,c].map Value.ref).toArray.any (eqH H ps)=([b,c].map Value.ref).any (eqH H ps) by simp,zg6 tt];rw[show decide (ps∈[z.1,z.2])=decide (ps=z.1 \/ ps=z.2) from decide_eq_decide.mpr (by simp)];exact q
end
end L2
end
section
namespace L2
open PySem PySem.Spec PyProof.Rows
theorem tpsU {H:Hp}{d:Addr}{o o':HO}{as:List Addr}{pss:List (List Int)} (h:Tps H as pss) (hd:H d=some o') (hn:∀xs,o'≠.tup xs):Tps (L2.upd H d o) as pss:=
 Paired.mapP h fun a ps z=>by show L2.upd H d o a=_; rw[upd_ne (zaA (show H a=some _ from z) hd fun y=>hn _ y.symm)]; exact z
def cof (S:List Pp) (r:List Int):List (List Int):=(S.filter fun x=>decide (x.1=r)).map (·.2)
theorem zc6 (S T:List Pp) (r:List Int):cof (S++T) r=cof S r++cof T r:=by unfold cof; rw[List.filter_append,List.map_append]
theorem zc9 (x:Pp) (r:List Int):cof [x] r=if x.1=r then [x.2] else []:=by
 unfold cof
 by_cases h:x.1=r <;> simp[h]
theorem zeD (S:List Pp) (r:List Int):(cof S r).length<=S.length:=by unfold cof; rw[List.length_map]; exact List.length_filter_le _ _
theorem zbT {S:List Pp}{r:List Int} (h:r∉S.map (·.1)):cof S r=[]:=by
 unfold cof;rw[List.filter_eq_nil_iff.mpr fun x hx=>by rw[decide_eq_false fun z=>h (List.mem_map.mpr ⟨x,hx,z⟩)]; decide]
 rfl
abbrev En:Type:=List Int×Addr×List Addr
def kvO (tab:List En):List (List Key×V):=tab.map fun e=>((e.1.map Sum.inl:List Key),V.ref e.2.1)
theorem zdX {p q:List Int}:(p.map Sum.inl:List Key)=q.map Sum.inl ↔ p=q:=⟨fun z=>(List.map_inj_right (f:=(Sum.inl:Int->Key)) (fun x y h=>Sum.inl.inj h)).mp z,fun z=>by rw[z]⟩
theorem zey:∀{tab:List En}{p:List Int},p∉tab.map (·.1)->valV (kvO tab) (p.map Sum.inl)=none
 | [],_,_=>rfl
 | e::r,p,h=>by
  have h1:e.1≠p:=fun z=>h (by rw[<- z]; exact List.mem_cons_self);have ih:=zey (tab:=r) (p:=p) fun z=>h (List.mem_cons_of_mem _ z);unfold valV kvO at ih ⊢;rw[List.map_cons,List.find?_cons,decide_eq_false (fun z=>h1 (zdX.mp z))];exact ih
theorem zcg:∀{tab:List En},(tab.map (·.1)).Nodup->∀e∈tab,valV (kvO tab) (e.1.map Sum.inl)=some (.ref e.2.1)
 | [],_,e,he=>nomatch he
 | x::r,hn,e,he=>by
  have hn':(x.1::r.map (·.1)).Nodup:=hn;rw[List.nodup_cons] at hn';unfold valV kvO;rw[List.map_cons,List.find?_cons];rcases List.mem_cons.mp he with rfl | he'
  ·rw[decide_eq_true rfl]; rfl
  ·have h1:x.1≠e.1:=fun z=>hn'.1 (by rw[z]; exact List.mem_map.mpr ⟨e,he',rfl⟩)
   rw[decide_eq_false (fun z=>h1 (zdX.mp z))];exact zcg (tab:=r) hn'.2 e he'
theorem zhH {tab:List En}{f:List Int}{L:Addr}{as:List Addr} (h:f∉tab.map (·.1)):putK (kvO tab) (f.map Sum.inl) (.ref L)=kvO (tab++[(f,L,as)]):=by
 unfold putK;have:((kvO tab).any fun kv=>decide (kv.1=f.map Sum.inl))=false:=by
  rw[List.any_eq_false];intro kv hkv;obtain⟨e,he,rfl⟩:=List.mem_map.mp hkv;rw[decide_eq_true_eq];exact fun z=>h (by rw[<- zdX.mp z]; exact List.mem_map.mpr ⟨e,he,rfl⟩)
 rw[this];unfold kvO;rw[List.map_append]
 rfl
def setE (f:List Int) (L:Addr) (as:List Addr) (tab:List En):List En:=tab.map fun e=>if e.1=f then (f,L,as) else e
theorem zbs (f:List Int) (L:Addr) (as:List Addr) (tab:List En):(setE f L as tab).map (·.1)=tab.map (·.1):=by
 unfold setE;rw[List.map_map];refine List.map_congr_left fun e _=>?_;show (if e.1=f then (f,L,as) else e).1=e.1
 by_cases h:e.1=f
 ·rw[if_pos h]; exact h.symm
 ·rw[if_neg h]
theorem setE_mem {f:List Int}{L:Addr}{as:List Addr}{tab:List En}{x:En} (h:x∈setE f L as tab):(x=(f,L,as)/\f∈tab.map (·.1)) \/ (x∈tab/\x.1≠f):=by
 obtain⟨e,he,rfl⟩:=List.mem_map.mp h
 by_cases g:e.1=f
 ·rw[if_pos g]; exact .inl ⟨rfl,List.mem_map.mpr ⟨e,he,g⟩⟩
 ·rw[if_neg g]; exact .inr ⟨he,g⟩
theorem zhQ {tab:List En}{f:List Int}{L:Addr}{as:List Addr} (h:f∈tab.map (·.1)):putK (kvO tab) (f.map Sum.inl) (.ref L)=kvO (setE f L as tab):=by
 unfold putK;have:((kvO tab).any fun kv=>decide (kv.1=f.map Sum.inl))=true:=by
  obtain⟨e,he,rfl⟩:=List.mem_map.mp h;exact List.any_eq_true.mpr ⟨_,List.mem_map.mpr ⟨e,he,rfl⟩,decide_eq_true rfl⟩
 rw[this,if_pos rfl];unfold kvO setE;rw[List.map_map,List.map_map];refine List.map_congr_left fun e _=>?_;show (if (e.1.map Sum.inl:List Key)=f.map Sum.inl then ((e.1.map Sum.inl:List Key),V.ref L) else _)=_
 by_cases g:e.1=f
 ·rw[if_pos (zdX.mpr g)]
  show _=(((if e.1=f then (f,L,as) else e).1.map Sum.inl:List Key),V.ref (if e.1=f then (f,L,as) else e).2.1);rw[if_pos g,g]
 ·rw[if_neg fun z=>g (zdX.mp z)]
  show _=(((if e.1=f then (f,L,as) else e).1.map Sum.inl:List Key),V.ref (if e.1=f then (f,L,as) else e).2.1);rw[if_neg g]
structure Ov (H0 H:Hp) (d:Addr) (S:List Pp) (tab:List En):Prop where
 hd:H d=some (.dT (kvO tab))
 nk:(tab.map (·.1)).Nodup
 na:(tab.map (·.2.1)).Nodup
 ls:∀e∈tab,H e.2.1=some (.lst (e.2.2.map V.ref))/\Tps H e.2.2 (cof S e.1)/\H0 e.2.1=none
 ks:∀r,r∈tab.map (·.1) ↔ r∈S.map (·.1)
 len:tab.length<=S.length
theorem Ov.same {H0 H H':Hp}{d:Addr}{S:List Pp}{tab:List En} (o:Ov H0 H d S tab) (s:Same H H'):Ov H0 H' d S tab:=
 ⟨s _ _ o.hd,o.nk,o.na,fun e he=>⟨s _ _ (o.ls e he).1,s.tps (o.ls e he).2.1,(o.ls e he).2.2⟩,o.ks,o.len⟩
theorem Ov.new {H0 H:Hp}{d:Addr} (h:H d=some (.dT [])):Ov H0 H d [] []:=⟨h,List.nodup_nil,List.nodup_nil,(fun e he=>nomatch he),(fun r=>Iff.rfl),Nat.le_refl _⟩
theorem Ov.get {H0 H:Hp}{d a:Addr}{S:List Pp}{tab:List En}{p:List Int} (o:Ov H0 H d S tab) (ha:Tp H a p) :
  (p∈S.map (·.1)/\∃A as,DGet H d (.ref a) (some (.ref A))/\H A=some (.lst (as.map V.ref))/\Tps H as (cof S p)) \/ (p∉S.map (·.1)/\DGet H d (.ref a) none):=by
 have hk:H a=some (.tup ((p.map Sum.inl:List Key).map kV)):=by rw[List.map_map]; exact ha
 by_cases h:p∈S.map (·.1)
 ·obtain⟨e,he,rfl⟩:=List.mem_map.mp ((o.ks p).mpr h)
  obtain⟨h1,h2,_⟩:=o.ls e he;exact .inl ⟨h,e.2.1,e.2.2,.inr ⟨_,_,a,.inl o.hd,rfl,hk,(zcg o.nk e he).symm⟩,h1,h2⟩
 ·exact .inr ⟨h,.inr ⟨_,_,a,.inl o.hd,rfl,hk,(zey fun z=>h ((o.ks p).mp z)).symm⟩⟩
theorem Ov.put {H0 H:Hp}{d L:Addr}{S:List Pp}{tab:List En}{f ps:List Int}{as:List Addr} (o:Ov H0 H d S tab) (hL:H L=some (.lst (as.map V.ref))) (ht:Tps H as (cof S f++[ps])) (hn:L∉tab.map (·.2.1)) (h0:H0 L=none) :
  ∃tab',Ov H0 (upd H d (.dT (putK (kvO tab) (f.map Sum.inl) (.ref L)))) d (S++[(f,ps)]) tab'/\∀x,x∉tab.map (·.2.1)->x≠L->x∉tab'.map (·.2.1):=by
 have up:∀{A:Addr} {xs:List V},H A=some (.lst xs)->upd H d (.dT (putK (kvO tab) (f.map Sum.inl) (.ref L))) A=some (.lst xs):=fun {A xs} e=>by rw[upd_ne (zaA e o.hd (by intro z; cases z))]; exact e
 have upT:∀{bs:List Addr} {qs:List (List Int)},Tps H bs qs->Tps (upd H d (.dT (putK (kvO tab) (f.map Sum.inl) (.ref L)))) bs qs:=fun h=>tpsU h o.hd (by intro xs z; cases z);have cofN:∀r,r≠f->cof (S++[(f,ps)]) r=cof S r:=fun r hr=>by rw[zc6,zc9,if_neg (fun z=>hr z.symm),List.append_nil]
 have cofF:cof (S++[(f,ps)]) f=cof S f++[ps]:=by rw[zc6,zc9,if_pos rfl]
 by_cases hf:f∈tab.map (·.1)
 ·refine⟨setE f L as tab,⟨by rw[zd,zhQ hf],by rw[zbs]; exact o.nk,?_,fun e he=>?_,fun r=>?_,?_⟩,fun x hx hxL z=>?_⟩
  ·have key:∀{t:List En},(t.map (·.1)).Nodup->(t.map (·.2.1)).Nodup->L∉t.map (·.2.1)->((setE f L as t).map (·.2.1)).Nodup:=by
    intro t
    induction t with
    | nil=>intro _ _ _; exact List.nodup_nil
    | cons e r ih=>
     intro hk ha hl;have hk':(e.1::r.map (·.1)).Nodup:=hk;have ha':(e.2.1::r.map (·.2.1)).Nodup:=ha;rw[List.nodup_cons] at hk' ha';have ihr:=ih hk'.2 ha'.2 (fun z=>hl (List.mem_cons_of_mem _ z));show (((if e.1=f then (f,L,as) else e).2.1)::(setE f L as r).map (·.2.1)).Nodup;rw[List.nodup_cons];refine⟨fun z=>?_,ihr⟩;obtain⟨y,hy,ey⟩:=List.mem_map.mp z
     by_cases g:e.1=f
     ·rw[if_pos g] at ey
      rcases setE_mem hy with ⟨rfl,hfm⟩ | ⟨hm,_⟩
      ·exact hk'.1 (by rw[g]; exact hfm)
      ·exact hl (List.mem_cons_of_mem _ (by rw[show L=y.2.1 from ey.symm]; exact List.mem_map.mpr ⟨y,hm,rfl⟩))
     ·rw[if_neg g] at ey
      rcases setE_mem hy with ⟨rfl,_⟩ | ⟨hm,_⟩
      ·exact hl (by rw[show L=e.2.1 from ey]; exact List.mem_cons_self)
      ·exact ha'.1 (by rw[<- ey]; exact List.mem_map.mpr ⟨y,hm,rfl⟩)
   exact key o.nk o.na hn
  ·rcases setE_mem he with ⟨rfl,_⟩ | ⟨hm,hne⟩
   ·exact⟨up hL,by rw[cofF]; exact upT ht,h0⟩
   ·obtain⟨q1,q2,q3⟩:=o.ls e hm
    exact⟨up q1,by rw[cofN _ hne]; exact upT q2,q3⟩
  ·rw[zbs,List.map_append,List.mem_append,o.ks]
   refine⟨.inl,fun z=>z.elim id fun z=>?_⟩;have:r=f:=by simpa using z
   rw[this];exact (o.ks f).mp hf
  ·unfold setE
   rw[List.length_map,List.length_append];have:=o.len;omega
  ·obtain⟨y,hy,rfl⟩:=List.mem_map.mp z
   rcases setE_mem hy with ⟨rfl,_⟩ | ⟨hm,_⟩
   ·exact hxL rfl
   ·exact hx (List.mem_map.mpr ⟨y,hm,rfl⟩)
 ·refine⟨tab++[(f,L,as)],⟨by rw[zd,zhH hf],?_,?_,fun e he=>?_,fun r=>?_,?_⟩,fun x hx hxL z=>?_⟩
  ·rw[List.map_append,List.nodup_append]
   refine⟨o.nk,by simp,fun x hx y hy z=>hf ?_⟩;have:y=f:=by simpa using hy
   rw[<- this,<- z];exact hx
  ·rw[List.map_append,List.nodup_append]
   refine⟨o.na,by simp,fun x hx y hy z=>hn ?_⟩;have:y=L:=by simpa using hy
   rw[<- this,<- z];exact hx
  ·rcases List.mem_append.mp he with hm | hm
   ·obtain⟨q1,q2,q3⟩:=o.ls e hm
    exact⟨up q1,by rw[cofN _ (fun z=>hf (by rw[<- z]; exact List.mem_map.mpr ⟨e,hm,rfl⟩))]; exact upT q2,q3⟩
   ·have:e=(f,L,as):=by simpa using hm
    subst this;exact⟨up hL,by rw[cofF]; exact upT ht,h0⟩
  ·rw[List.map_append,List.map_append,List.mem_append,List.mem_append,o.ks]
   simp
  ·rw[List.length_append,List.length_append]
   have:=o.len;simp;omega
  ·rw[List.map_append] at z
   rcases List.mem_append.mp z with z | z
   ·exact hx z
   ·exact hxL (by simpa using z)
theorem Ov.app {H0 H:Hp}{d A a:Addr}{S:List Pp}{tab:List En}{f ps:List Int}{as:List Addr} (o:Ov H0 H d S tab) (he:(f,A,as)∈tab) (ha:Tp H a ps) :
  ∃tab',Ov H0 (upd H A (.lst (as.map V.ref++[.ref a]))) d (S++[(f,ps)]) tab'/\tab'.map (·.2.1)=tab.map (·.2.1):=by
 obtain⟨hA,hT,h0⟩:=o.ls _ he;have hA:H A=some (.lst (as.map V.ref)):=hA;have hT:Tps H as (cof S f):=hT;have hdA:d≠A:=(zaA hA o.hd (by intro z; cases z)).symm;have upT:∀{bs:List Addr} {qs:List (List Int)},Tps H bs qs->Tps (upd H A (.lst (as.map V.ref++[.ref a]))) bs qs:=fun h=>tpsU h hA (by intro xs z; cases z);have cofN:∀r,r≠f->cof (S++[(f,ps)]) r=cof S r:=fun r hr=>by rw[zc6,zc9,if_neg (fun z=>hr z.symm),List.append_nil]
 have cofF:cof (S++[(f,ps)]) f=cof S f++[ps]:=by rw[zc6,zc9,if_pos rfl]
 have hfm:f∈tab.map (·.1):=List.mem_map.mpr ⟨_,he,rfl⟩;have same:∀{t:List En},(t.map (·.1)).Nodup->(∀e∈t,e.1=f->e.2.1=A)->(setE f A (as++[a]) t).map (·.2.1)=t.map (·.2.1)/\kvO (setE f A (as++[a]) t)=kvO t:=by
  intro t _ hk;unfold setE kvO;rw[List.map_map,List.map_map];refine⟨List.map_congr_left fun e he=>?_,List.map_congr_left fun e he=>?_⟩
  ·show (if e.1=f then (f,A,as++[a]) else e).2.1=e.2.1
   by_cases g:e.1=f
   ·rw[if_pos g]; exact (hk e he g).symm
   ·rw[if_neg g]
  ·show (((if e.1=f then (f,A,as++[a]) else e).1.map Sum.inl:List Key),V.ref (if e.1=f then (f,A,as++[a]) else e).2.1)=_
   by_cases g:e.1=f
   ·rw[if_pos g]
    show ((f.map Sum.inl:List Key),V.ref A)=_;rw[hk e he g,g]
   ·rw[if_neg g]
 have uniq:∀e∈tab,e.1=f->e=(f,A,as):=fun e hm g=>by
  have v1:=zcg o.nk e hm;have v2:=zcg o.nk _ he;rw[g] at v1;obtain⟨i,hi⟩:=List.getElem?_of_mem hm;obtain⟨j,hj⟩:=List.getElem?_of_mem he;have e1:(tab.map (·.1))[i]?=some f:=by rw[List.getElem?_map,hi,Option.map_some,g]
  have e2:(tab.map (·.1))[j]?=some f:=by rw[List.getElem?_map,hj]; rfl
  have hij:=(List.getElem?_inj (i:=i) (j:=j) (List.getElem?_eq_some_iff.mp e1).1 o.nk).mp (e1.trans e2.symm);rw[hij,hj] at hi;exact (Option.some.inj hi).symm
 obtain⟨sa,sk⟩:=same (t:=tab) o.nk fun e hm g=>by rw[uniq e hm g]
 refine⟨setE f A (as++[a]) tab,⟨by rw[upd_ne hdA,sk]; exact o.hd,by rw[zbs]; exact o.nk,by rw[sa]; exact o.na,fun e hm=>?_,fun r=>?_,?_⟩,sa⟩
 ·rcases setE_mem hm with ⟨rfl,_⟩ | ⟨hm',hne⟩
  ·refine⟨by show upd H A _ A=_; rw[zd,List.map_append]; rfl,?_,h0⟩
   show Tps _ (as++[a]) (cof (S++[(f,ps)]) f);rw[cofF];exact Tps.snoc (upT hT) (by show upd H A _ a=_; rw[upd_ne (zaA (show H a=some _ from ha) hA (by intro z; cases z))]; exact ha)
  ·obtain⟨q1,q2,q3⟩:=o.ls e hm'
   have hneA:e.2.1≠A:=fun z=>hne (by
    obtain⟨i,hi⟩:=List.getElem?_of_mem hm';obtain⟨j,hj⟩:=List.getElem?_of_mem he;have e1:(tab.map (·.2.1))[i]?=some A:=by rw[List.getElem?_map,hi,Option.map_some,z]
    have e2:(tab.map (·.2.1))[j]?=some A:=by rw[List.getElem?_map,hj]; rfl
    have hij:=(List.getElem?_inj (i:=i) (j:=j) (List.getElem?_eq_some_iff.mp e1).1 o.na).mp (e1.trans e2.symm);rw[hij,hj] at hi;rw[<- Option.some.inj hi])
   exact⟨by rw[upd_ne hneA]; exact q1,by rw[cofN _ hne]; exact upT q2,q3⟩
 ·rw[zbs,List.map_append,List.mem_append,o.ks]
  refine⟨.inl,fun z=>z.elim id fun z=>?_⟩;have:r=f:=by simpa using z
  rw[this];exact (o.ks f).mp hfm
 ·unfold setE
  rw[List.length_map,List.length_append];have:=o.len;omega
end L2
end
section
namespace K43
open K1
open PySem L2 STb
abbrev zdn:Stmt:=top 20
abbrev zbx:Stmt:=top 21
abbrev zbN:Stmt:=top 33
abbrev zdQ:Stmt:=top 34
def ovS (kn:List (List Int)):List Pp:=kn.flatMap fun q=>(rims q).map fun r=>(r,q)
theorem zcY {kn:List (List Int)} (h:∀p∈kn,p.length<=5):(ovS kn).length<=5*kn.length:=by
 unfold ovS
 induction kn with
 | nil=>simp
 | cons q r ih=>
  rw[List.flatMap_cons,List.length_append,List.length_map,List.length_cons];have h1:=zbb q;have h2:=h q List.mem_cons_self;have h3:=ih fun p hp=>h p (List.mem_cons_of_mem _ hp);omega
theorem ze2 {kn:List (List Int)}{q:List Int}{i:Nat} (h:kn[i]?=some q):ovS (kn.take (i+1))=ovS (kn.take i)++(rims q).map fun r=>(r,q):=by
 unfold ovS;rw[take_snoc h,List.flatMap_append];simp
abbrev zkO (K:PySem.W.Frag):List V->Hp->VK->Prop:=fun xs H Q=>∃p ys,xs=[.ref p]/\(SqL K H p ys \/ SqT K H p ys)/\Q (.int ys.length) H
abbrev tGt1 (K:PySem.W.Frag):TT:=zd0 (tOp (rI0 fun i j=>.bl (decide (j<i))) (tCB (zkO K) (zbc (tVar 1) tNil)) (tC (.int 1)))
section
variable {P:Program}{w:World}{K:PySem.W.Frag}{mg:Str->Option Value}{base:Heap}
theorem zgH {H2:Hp}{a D:Addr}{ps:List Int}{Q:VK} (ha:Tp H2 a ps) (hz:ps.length<=5) (hD:H2 D=none)
  (k:∀(H3:Hp) (bs:List Addr),Same H2 H3->H3 D=some (.lst (bs.map V.ref))->Tps H3 bs (rims ps)->Q (.ref D) H3) :
  zau (Itr 0 ps.length) (zap 0) (tGt1 K) tRim [none,some (.ref a)] H2 D Q:=by
 refine za7 (fun j σ ys H3=>∃(v:Option V) (bs:List Addr),σ=[v,some (.ref a)]/\Same H2 H3/\H3 D=some (.lst ys)/\ys=bs.map V.ref/\Tps H3 bs ((rims ps).take j)) ?_ ?_ ?_
 ·exact⟨none,[],rfl,Same.new hD,zd,rfl,by rw[List.take_zero]; exact .nil⟩
 ·rintro j σ ys H3 hj hy ⟨v,bs,rfl,sm,hD3,rfl,hb⟩
  refine⟨_,rfl,a,_,rfl,.inr (SqT.of (sm.tp ha)),_,_,rfl,rfl,_,rfl,?_⟩;rw[List.length_map]
  by_cases h1:ps.length=1
  ·have er:rims ps=[]:=by unfold rims; rw[if_pos h1]
   rw[decide_eq_false (by omega)];refine iteF (cskip hj hy ⟨_,bs,rfl,sm,hD3,rfl,?_⟩);rw[er] at hb ⊢;rw[List.take_nil] at hb ⊢;exact hb
  ·have er:rims ps=(List.range ps.length).map fun k=>ps.take k++ps.drop (k+1):=by unfold rims; rw[if_neg h1]
   rw[decide_eq_true (by omega)];refine iteT ?_;have e:(rims ps)[j]?=some (ps.take j++ps.drop (j+1)):=by rw[er,List.getElem?_map,List.getElem?_range hj]; rfl
   refine⟨_,rfl,_,rfl,_,rfl,a,_,rfl,sm.tp ha,fun p1 H4 sm4 hp1=>⟨_,rfl,_,rfl,_,_,rfl,rfl,_,rfl,a,_,rfl,sm4 _ _ (sm.tp ha),fun p2 H5 sm5 hp2=>?_⟩⟩;rw[show (0:Int)+((j:Nat):Int)=((j:Nat):Int) by omega,cutk _ _ (by rw[List.length_map]; omega),<- List.map_take] at hp1;rw[show (0:Int)+((j:Nat):Int)+1=((j+1:Nat):Int) by omega,cutd _ _ (by rw[List.length_map]; omega),<- List.map_drop] at hp2;refine⟨p1,p2,_,_,rfl,rfl,sm5 _ _ hp1,hp2,zh (by simp; omega),fun p3 H6 sm6 hp3=>?_⟩;rw[<- List.map_append] at hp3;have s6:=(sm4.trans sm5).trans sm6;refine cput (zh (by omega)) hj hy (s6 _ _ hD3) ⟨_,bs++[p3],rfl,(sm.trans s6).then hD,zd,by rw[List.map_append]; rfl,?_⟩;rw[take_snoc e];exact Tps.upd (Tps.snoc (s6.tps hb) hp3) (s6 _ _ hD3) (by intro xs z; cases z)
 ·rintro σ ys H3 ⟨v,bs,rfl,sm,hD3,rfl,hb⟩
  rw[List.take_of_length_le (zbb ps)] at hb;exact k H3 bs sm hD3 hb
theorem zjo:zt ["piece"] ["piece"] (zg zbN):=⟨rfl,rfl,rfl,by decide +kernel,rfl,by decide +kernel,by decide +kernel⟩
theorem zio {f:Addr}{fd:FuncData} (F:Fun K "_law_rims" "_law_rims" zbN f fd) (B:Bt mg):FnOk P w K mg base CX0 1 f fd ["piece"] zd5:=by
 refine F.ok zjo (fun vs H Q E h=>?_) (fun cdv A outer s H vs Q E hr h=>?_)
 ·obtain⟨a,ps,rfl,_⟩:=h; rfl
 ·obtain⟨a,ps,rfl,ha,h5,k⟩:=h
  refine⟨_,zi (zr (zI ["piece"] ["k","piece"] [none,some 0] (zar rfl B.range (zc (zu zn rfl B.len za3 (zc (pv 0) ze)) ze)) (fun cl C s₀ H₀ ex=>zm (i:=0) (ndN ["k","piece"]) rfl (Or.inl rfl))
    (fun cl C s₀ H₀ ex=>zbk (zx zhR (zu zn rfl B.len za3 (zc (pv 1) ze)) zj (nomark _)))
    (fun cl C s₀ H₀ ex=>zC zds (za5 zcU (pv 1) zbC (zbA (pv 0))) (za5 zcU (pv 1) (zbA (zC zah (pv 0) zj)) zbC)) (hfr:=frOf (zg zbN) (by decide +kernel)) (tc:=tGt1 K) (te:=tRim))),?_⟩
  refine⟨_,rfl,a,_,rfl,.inr (SqT.of ha),_,rfl,by rw[List.length_map]; omega,by rw[List.length_map]; omega,fun D hD=>?_⟩;rw[List.length_map];exact zN (zgH ha h5 hD fun H3 bs sm hD3 hb=>k D H3 bs sm hD hD3 hb)
def zgL (K:PySem.W.Frag):Sp:=fun vs H Q _=>∃l as kn,vs=[.ref l]/\SqL K H l (as.map V.ref)/\Tps H as kn/\(∀p∈kn,p.length<=5)/\kn.length<=199/\∀d H' tab,Same H H'->H d=none->Ov H H' d (ovS kn) tab->Q (.ref d) H'
theorem zfp:zt ["known","found","piece","rim"] ["known"] (zg zdQ):=⟨rfl,rfl,rfl,by decide +kernel,rfl,by decide +kernel,by decide +kernel⟩
theorem zgl {H:Hp}{b:Addr}{ps:List Int} (h:Tp H b ps):H b=some (.tup ((ps.map Sum.inl:List Key).map kV)):=by rw[List.map_map]; exact h
theorem zjY {f fr:Addr}{fd fdr:FuncData} (F:Fun K "_law_over" "_law_over" zdQ f fd) (B:Bt mg) (Fr:Fun K "_law_rims" "_law_rims" zbN fr fdr) (br:Binds K fdr ["piece"] []) (mr:mg "_law_rims"=some (.ref fr)):FnOk P w K mg base CX0 2 f fd ["known"] (zgL K):=by
 have Gr:FnOk P w K mg base CX0 1 fr fdr ["piece"] zd5:=zio Fr B;refine F.ok zfp (fun vs H Q E h=>?_) (fun cdv A outer s H vs Q E hr h=>?_)
 ·obtain⟨l,as,kn,rfl,_⟩:=h; rfl
 ·obtain⟨l,as,kn,rfl,hl,ht,h5,h64,k⟩:=h
  have hu:=zdC hr;refine⟨_,zf (zq (i:=1) zfp.nd rfl (Or.inl rfl) zbo)
   (zf (zaa PassesOwn.never rfl (zz (pv 0)) (zm (i:=2) zfp.nd rfl (Or.inl rfl))
    (zi (zaa PassesOwn.never rfl (zz (zl Gr hr rfl mr Fr.kp br .nil pass0 (zc (pv 2) ze))) (zm (i:=3) zfp.nd rfl (Or.inl rfl))
     (zi (zct hu (pv 1) (pv 3) (zC zcw (zdl hu (pv 1) (pv 3) (z0 ze) ⟨rfl,rfl,rfl,rfl⟩) (z0 (zc (pv 2) ze))) rfl)))))
   (zi (zr (pv 1)))),?_⟩
  intro d hd;have hla:=ht.length;refine⟨_,rfl,l,rfl,⟨_,(Same.new hd).seq hl⟩,zK (K:=K) (a:=l) (xs:=as.map V.ref) (fun i σ H2=>∃(v v':Option V) (tab:List En),σ=[some (.ref l),some (.ref d),v,v']/\Same H H2/\Ov H H2 d (ovS (kn.take i)) tab)
   ⟨none,none,[],rfl,Same.new hd,by rw[List.take_zero]; exact Ov.new zd⟩ (fun i σ H2 _ ⟨_,_,_,_,sm,_⟩=>sm.seq hl) ?_ ?_⟩
  ·rintro i x σ H2 hx ⟨v,v',tab,rfl,sm,ov⟩
   obtain⟨a,ea,rfl⟩:=zT hx;obtain⟨ps,eps,hps⟩:=ht.get ea;have hps5:=h5 ps (List.mem_of_getElem? eps);have hi:i<kn.length:=(List.getElem?_eq_some_iff.mp eps).1;refine⟨_,rfl,a,ps,rfl,sm.tp hps,hps5,fun D H3 cs sm3 hD0 hD hcs=>⟨D,rfl,⟨_,SqL.of hD⟩,?_⟩⟩;have hlc:=hcs.length;have ov3:=ov.same sm3;have hDt:D∉tab.map (·.2.1):=fun z=>by
    obtain⟨e,he,ee⟩:=List.mem_map.mp z;have:=(ov.ls e he).1;rw[show e.2.1=D from ee,hD0] at this;cases this
   refine zK (K:=K) (a:=D) (xs:=cs.map V.ref) (fun j σ H4=>∃(v':Option V) (tab':List En),σ=[some (.ref l),some (.ref d),some (.ref a),v']/\Same H H4/\H4 D=some (.lst (cs.map V.ref))/\Tps H4 cs (rims ps)/\D∉tab'.map (·.2.1)/\Ov H H4 d (ovS (kn.take i)++((rims ps).take j).map fun r=>(r,ps)) tab')
    ⟨_,tab,rfl,sm.trans sm3,hD,hcs,hDt,by rw[List.take_zero,List.map_nil,List.append_nil]; exact ov3⟩ (fun j σ H4 _ ⟨_,_,_,_,q,_⟩=>SqL.of q) ?_ ?_
   ·rintro j x σ H4 hx ⟨v',tab',rfl,sm4,hD4,hcs4,hDt4,ov4⟩
    obtain⟨c,ec,rfl⟩:=zT hx;obtain⟨g,eg,hg⟩:=hcs4.get ec;have hSl:(ovS (kn.take i)++((rims ps).take j).map fun r=>(r,ps)).length<=1000:=by
     have h1:=zcY (kn:=kn.take i) fun p hp=>h5 p (List.mem_of_mem_take hp);have h2:=zbb ps;rw[List.length_take] at h1;rw[List.length_append,List.length_map,List.length_take];omega
    have hlen:(kvO tab').length<sizeLine:=by
     have:=ov4.len;unfold kvO;rw[List.length_map];exact zS (by omega)
    have hsn:(ovS (kn.take i)++((rims ps).take (j+1)).map fun r=>(r,ps))=(ovS (kn.take i)++((rims ps).take j).map fun r=>(r,ps))++[(g,ps)]:=by rw[take_snoc eg,List.map_append,List.append_assoc]; rfl
    generalize hS:ovS (kn.take i)++((rims ps).take j).map (fun r=>(r,ps))=S at ov4 hSl hsn;refine⟨_,rfl,d,rfl,.inr ⟨_,.inl ov4.hd⟩,_,rfl,zh (by simp),fun L0 hL0=>?_⟩;have s5:=Same.new (o:=.lst []) hL0;have ov5:=ov4.same s5;have fin:∀(A':Addr) (bs:List Addr),upd H4 L0 (.lst []) A'=some (.lst (bs.map V.ref))->Tps (upd H4 L0 (.lst [])) bs (cof S g)->
      (tLst (zbc (tVar 2) tNil)) [some (.ref l),some (.ref d),some (.ref a),some (.ref c)] (upd H4 L0 (.lst [])) fun y H6=>rCat (.ref A') y H6 fun z H7=>(tVar 1) [some (.ref l),some (.ref d),some (.ref a),some (.ref c)] H7 fun x H8=>(tVar 3) [some (.ref l),some (.ref d),some (.ref a),some (.ref c)] H8 fun y H9=>∃a' H10,x=.ref a'/\DPut H9 a' y z H10/\∃(v':Option V) (tab':List En),[some (.ref l),some (.ref d),some (.ref a),some (.ref c)]=[some (.ref l),some (.ref d),some (.ref a),v']/\Same H H10/\H10 D=some (.lst (cs.map V.ref))/\Tps H10 cs (rims ps)/\D∉tab'.map (·.2.1)/\Ov H H10 d (ovS (kn.take i)++((rims ps).take (j+1)).map fun r=>(r,ps)) tab':=by
     intro A' bs hA' hbs;have hbl:=hbs.length;have hcl:=zeD S g;refine⟨_,rfl,zh (by simp),fun L1 hL1=>?_⟩;have s6:=Same.new (o:=.lst [.ref a]) hL1;refine⟨A',L1,_,_,rfl,rfl,s6 _ _ hA',zd,by rw[List.length_map]; exact zh (by simp; omega),fun L2 hL2=>?_⟩;have s7:=Same.new (o:=.lst (bs.map V.ref++[.ref a])) hL2;have s67:=s6.trans s7;have ov7:=ov5.same s67;have hL2t:L2∉tab'.map (·.2.1):=fun z=>by
      obtain⟨e,he,ee⟩:=List.mem_map.mp z;have:=((ov5.same s6).ls e he).1;rw[show e.2.1=L2 from ee,hL2] at this;cases this
     have h20:H L2=none:=(sm4.trans (s5.trans s6)).free hL2;obtain⟨tab2,ovn,hfr⟩:=ov7.put (f:=g) (ps:=ps) (as:=bs++[a]) (L:=L2) (by rw[zd,List.map_append]; rfl) (Tps.snoc (s67.tps hbs) ((sm4.trans (s5.trans s67)).tp hps)) hL2t h20;have hs7:=s5.trans s67;have hd7:=ov7.hd;refine⟨_,rfl,_,rfl,d,_,rfl,DPut.t (k:=g.map Sum.inl) hd7 (zgl (hs7.tp hg)) hlen,⟨_,tab2,rfl,(sm4.trans hs7).then hd,?_,Tps.upd (hs7.tps hcs4) hd7 (by intro xs z; cases z),hfr D hDt4 (ne_of_none (s6 _ _ (s5 _ _ hD4)) hL2),by rw[hsn]; exact ovn⟩⟩;rw[upd_ne (zaA (hs7 _ _ hD4) hd7 (by intro z; cases z))];exact hs7 _ _ hD4
    rcases ov5.get (s5.tp hg) with ⟨hin,A',bs,dg,hA',hbs⟩ | ⟨hno,dg⟩
    ·exact⟨_,dg,fin A' bs hA' hbs⟩
    ·exact⟨_,dg,fin L0 [] zd (by rw[zbT hno]; exact .nil)⟩
   ·rintro σ H4 ⟨v',tab',rfl,sm4,hD4,hcs4,hDt4,ov4⟩
    refine⟨_,_,tab',rfl,sm4,?_⟩;rw[List.length_map,hlc,take_all] at ov4;rw[ze2 eps];exact ov4
  ·rintro σ H2 ⟨v,v',tab,rfl,sm,ov⟩
   rw[List.length_map,hla,take_all] at ov;exact⟨_,rfl,k d H2 tab sm hd ov⟩
end
end K43
end
section
namespace K43
open K1
open PySem L2 STb
abbrev zb7:Stmt:=top 36
abbrev zdR:Stmt:=top 35
theorem zis {H:Hp}{a b:Addr}{x y:HO} (h:a≠b):upd (upd H a x) b y=upd (upd H b y) a x:=by
 funext c
 by_cases h1:c=a
 ·subst h1
  rw[upd_ne h,zd,zd]
 ·by_cases h2:c=b
  ·subst h2
   rw[zd,upd_ne h1,zd]
  ·rw[upd_ne h2,upd_ne h1,upd_ne h1,upd_ne h2]
theorem Ov.other {H0 H:Hp}{d x:Addr}{S:List Pp}{tab:List En}{xs ys:List V} (o:Ov H0 H d S tab) (hx:H x=some (.lst xs)) (hn:x∉tab.map (·.2.1)):Ov H0 (upd H x (.lst ys)) d S tab:=by
 refine⟨?_,o.nk,o.na,fun e he=>?_,o.ks,o.len⟩
 ·rw[upd_ne (zaA hx o.hd (by intro z; cases z)).symm]; exact o.hd
 ·obtain⟨q1,q2,q3⟩:=o.ls e he
  exact⟨by rw[upd_ne (fun z=>hn (List.mem_map.mpr ⟨e,he,z⟩))]; exact q1,tpsU q2 hx (by intro xs z; cases z),q3⟩
def frP (S:List Pp) (p:List Int):Pp:=(p,(cof S p).headD [])
def zaZ (S:List Pp) (kn:List (List Int)):List Pp:=(kn.filter fun p=>decide ((cof S p).length=1)).map (frP S)
def zbt (S:List Pp) (kn:List (List Int)):List Pp:=(kn.filter fun p=>decide ((cof S p).length=1) && !decide ((cof S p).headD []∈S.map (·.1))).map (frP S)
theorem zdE {α β:Type}{f:α->Bool}{g:α->β}{l:List α}{i:Nat}{x:α} (h:l[i]?=some x):((l.take (i+1)).filter f).map g=((l.take i).filter f).map g++(if f x=true then [g x] else []):=by
 rw[take_snoc h,List.filter_append,List.map_append]
 congr 1
 by_cases e:f x=true
 ·rw[if_pos e,List.filter_cons_of_pos e]; rfl
 ·rw[if_neg e,List.filter_cons_of_neg e]; rfl
abbrev tOne (K:PySem.W.Frag):TT:=zd0 (tOp rEq (tCB (zkO K) (zbc (zi4 (tVar 1) (tVar 0) (tLst tNil)) tNil)) (tC (.int 1)))
abbrev zkM (K:PySem.W.Frag):TE:=tTup (zbc (tVar 0) (zbc (tOp (rIxL K) (zkR (tVar 1) (tVar 0)) (tC (.int 0))) tNil))
section
variable {P:Program}{w:World}{K:PySem.W.Frag}{mg:Str->Option Value}{base:Heap}
theorem zgV {H0 H2:Hp}{L D d:Addr}{as:List Addr}{kn:List (List Int)}{S:List Pp}{tab:List En}{Q:VK} (hl:SqL K H2 L (as.map V.ref)) (ht:Tps H2 as kn) (ov:Ov H0 H2 d S tab) (hz:kn.length<=1000) (hS:S.length<=1000) (hD:H2 D=none)
  (k:∀(H3:Hp) (ts:List Addr),Same H2 H3->H3 D=some (.lst (ts.map V.ref))->Prs2 H3 ts (zaZ S kn)->Q (.ref D) H3) :
  zau (Itl K L) (zap 0) (tOne K) (zkM K) [none,some (.ref d)] H2 D Q:=by
 have hla:=ht.length;refine zag (xs:=as.map V.ref) (fun j σ ys H3=>∃(v:Option V) (ts:List Addr),σ=[v,some (.ref d)]/\Same H2 H3/\H3 D=some (.lst ys)/\ys=ts.map V.ref/\Prs2 H3 ts (zaZ S (kn.take j))) ?_ ?_ ?_ ?_
 ·exact⟨none,[],rfl,Same.new hD,zd,rfl,.nil⟩
 ·rintro j σ ys H3 ⟨v,ts,rfl,sm,hD3,rfl,hp⟩
  exact sm.seq hl
 ·rintro j σ ys H3 x hx hj hy ⟨v,ts,rfl,sm,hD3,rfl,hp⟩
  obtain⟨a,ea,rfl⟩:=zT hx;obtain⟨ps,eps,hps⟩:=ht.get ea;have hsz:(as.map V.ref).length<=sizeLine:=by rw[List.length_map]; exact zh (by omega)
  have ef:=zdE (f:=fun p=>decide ((cof S p).length=1)) (g:=frP S) eps;have hcl:=zeD S ps;have ov3:=ov.same sm;refine⟨_,rfl,d,rfl,.inr ⟨_,.inl ov3.hd⟩,_,rfl,zh (by simp),fun L0 hL0=>?_⟩;have s4:=Same.new (o:=.lst []) hL0;have ov4:=ov3.same s4;have hps4:=(sm.trans s4).tp hps;have hD4:=s4 _ _ hD3;rcases ov4.get hps4 with ⟨hin,A,bs,dg,hA,hbs⟩ | ⟨hno,dg⟩
  ·have hbl:=hbs.length
   refine⟨_,dg,A,_,rfl,.inl (SqL.of hA),rfl,_,rfl,?_⟩;rw[show (bs.map V.ref).length=(cof S ps).length from by rw[List.length_map]; exact hbl]
   by_cases h1:(cof S ps).length=1
   ·rw[show decide (V.int ((cof S ps).length:Int)=V.int 1)=true from decide_eq_true (by rw[h1]; rfl)]
    obtain⟨b,rfl⟩:∃b,bs=[b]:=by
     match bs,hbl with
     | [b],_=>exact⟨b,rfl⟩
     | [],z=>simp[h1] at z
     | _::_::_,z=>simp[h1] at z
    obtain⟨q,eq⟩:∃q,cof S ps=[q]:=by
     match hc:cof S ps,h1 with
     | [q],_=>exact⟨q,rfl⟩
    have hb:Tp (upd H3 L0 (.lst [])) b q:=by
     rw[eq] at hbs;cases hbs with
     | cons r _=>exact r
    refine iteT ⟨_,rfl,_,rfl,_,rfl,d,_,rfl,dg,A,_,0,_,rfl,rfl,SqL.of hA,zJ (j:=0) rfl,zh (by simp),fun t htn=>?_⟩;have s5:=Same.new (o:=.tup [.ref a,.ref b]) htn;refine cput hsz hj hy (s5 _ _ hD4) ⟨_,ts++[t],rfl,((sm.trans s4).trans s5).then hD,zd,by rw[List.map_append]; rfl,?_⟩;unfold zaZ;rw[ef,if_pos (decide_eq_true h1)];refine Prs2.upd (Prs2.snoc (hp.same (s4.trans s5)) ⟨a,b,zd,s5.tp hps4,?_⟩) (s5 _ _ hD4) (by intro xs z; cases z);show Tp _ b ((cof S ps).headD []);rw[eq];exact s5.tp hb
   ·rw[show decide (V.int ((cof S ps).length:Int)=V.int 1)=false from decide_eq_false fun z=>h1 (by injection z with z; omega)]
    refine iteF (cskip hj hy ⟨_,ts,rfl,sm.trans s4,hD4,rfl,?_⟩);unfold zaZ;rw[ef,if_neg (by rw[decide_eq_false h1]; decide),List.append_nil];exact hp.same s4
  ·refine⟨_,dg,L0,[],rfl,.inl (SqL.of zd),rfl,_,rfl,?_⟩
   rw[show decide (V.int (([]:List V).length:Int)=V.int 1)=false from by decide];refine iteF (cskip hj hy ⟨_,ts,rfl,sm.trans s4,hD4,rfl,?_⟩);unfold zaZ;rw[ef,if_neg (by rw[zbT hno]; decide),List.append_nil];exact hp.same s4
 ·rintro σ ys H3 ⟨v,ts,rfl,sm,hD3,rfl,hp⟩
  rw[List.length_map,hla,take_all] at hp;exact k H3 ts sm hD3 hp
def zgv (K:PySem.W.Frag):Sp:=fun vs H Q _=>∃l as kn,vs=[.ref l]/\SqL K H l (as.map V.ref)/\Tps H as kn/\(∀p∈kn,p.length<=5)/\kn.length<=199/\∀D H' ts,Same H H'->H D=none->H' D=some (.lst (ts.map V.ref))->Prs2 H' ts (zaZ (ovS kn) kn)->Q (.ref D) H'
theorem zeV:zt ["every","above","piece","rim"] ["every"] (zg zdn):=⟨rfl,rfl,rfl,by decide +kernel,rfl,by decide +kernel,by decide +kernel⟩
theorem zj8 {f fr:Addr}{fd fdr:FuncData} (F:Fun K "free_among" "free_among" zdn f fd) (B:Bt mg) (Fr:Fun K "rims_of" "rims_of" zcW fr fdr) (br:Binds K fdr ["piece"] []) (mr:mg "rims_of"=some (.ref fr)):FnOk P w K mg base CX0 2 f fd ["every"] (zgv K):=by
 have Gr:FnOk P w K mg base CX0 1 fr fdr ["piece"] zd5:=zgT Fr B;refine F.ok zeV (fun vs H Q E h=>?_) (fun cdv A outer s H vs Q E hr h=>?_)
 ·obtain⟨l,as,kn,rfl,_⟩:=h; rfl
 ·obtain⟨l,as,kn,rfl,hl,ht,h5,h64,k⟩:=h
  have hu:=zdC hr;refine⟨_,zf (zq (i:=1) zeV.nd rfl (Or.inr rfl) zbo)
   (zf (zaa PassesOwn.never rfl (zz (pv 0)) (zm (i:=2) zeV.nd rfl (Or.inl rfl))
    (zi (zaa PassesOwn.never rfl (zz (zl Gr hr rfl mr Fr.kp br .nil pass0 (zc (pv 2) ze))) (zm (i:=3) zeV.nd rfl (Or.inl rfl))
     (zi (zaq (zbR PySem.F.plainAttrs_list PySem.F.slot_list_append PySem.F.type_list_append zR
      (zbR PySem.F.plainAttrs_dict PySem.F.slot_dict_setdefault PySem.F.type_dict_setdefault (zjt hu) (pv 1) (zc (pv 3) (zc (z0 ze) ze))) (zc (pv 2) ze)))))))
   (zi (zr (zI ["every","above","piece","rim"] ["piece","above"] [none,some 1] (zz (pv 0)) (fun cl C s₀ H₀ ex=>zm (i:=0) (ndN ["piece","above"]) rfl (Or.inl rfl))
    (fun cl C s₀ H₀ ex=>zbk (zx zeB (zu zn rfl B.len za3 (zc (zdl hu (pv 1) (pv 0) (z0 ze) ⟨rfl,rfl,rfl,rfl⟩) ze)) zj (nomark _)))
    (fun cl C s₀ H₀ ex=>zaF (zc (pv 0) (zc (zai zac (zjM hu (pv 1) (pv 0) (fun _ _=>rfl)) zj (fun _ _=>rfl)) ze))) (hfr:=frOf (zg zdn) (by decide +kernel)) (tc:=tOne K) (te:=zkM K))))),?_⟩
  intro d hd;have hla:=ht.length;have hSl:=zcY h5;refine⟨_,rfl,l,rfl,⟨_,(Same.new hd).seq hl⟩,zK (K:=K) (a:=l) (xs:=as.map V.ref) (fun i σ H2=>∃(v v':Option V) (tab:List En),σ=[some (.ref l),some (.ref d),v,v']/\Same H H2/\Ov H H2 d (ovS (kn.take i)) tab)
   ⟨none,none,[],rfl,Same.new hd,by rw[List.take_zero]; exact Ov.new zd⟩ (fun i σ H2 _ ⟨_,_,_,_,sm,_⟩=>sm.seq hl) ?_ ?_⟩
  ·rintro i x σ H2 hx ⟨v,v',tab,rfl,sm,ov⟩
   obtain⟨a,ea,rfl⟩:=zT hx;obtain⟨ps,eps,hps⟩:=ht.get ea;have hps5:=h5 ps (List.mem_of_getElem? eps);have hi:i<kn.length:=(List.getElem?_eq_some_iff.mp eps).1;refine⟨_,rfl,a,ps,rfl,sm.tp hps,hps5,fun D H3 cs sm3 hD0 hD hcs=>⟨D,rfl,⟨_,SqL.of hD⟩,?_⟩⟩;have hlc:=hcs.length;have ov3:=ov.same sm3;have hDt:D∉tab.map (·.2.1):=fun z=>by
    obtain⟨e,he,ee⟩:=List.mem_map.mp z;have:=(ov.ls e he).1;rw[show e.2.1=D from ee,hD0] at this;cases this
   refine zK (K:=K) (a:=D) (xs:=cs.map V.ref) (fun j σ H4=>∃(v':Option V) (tab':List En),σ=[some (.ref l),some (.ref d),some (.ref a),v']/\Same H H4/\H4 D=some (.lst (cs.map V.ref))/\Tps H4 cs (rims ps)/\D∉tab'.map (·.2.1)/\Ov H H4 d (ovS (kn.take i)++((rims ps).take j).map fun r=>(r,ps)) tab')
    ⟨_,tab,rfl,sm.trans sm3,hD,hcs,hDt,by rw[List.take_zero,List.map_nil,List.append_nil]; exact ov3⟩ (fun j σ H4 _ ⟨_,_,_,_,q,_⟩=>SqL.of q) ?_ ?_
   ·rintro j x σ H4 hx ⟨v',tab',rfl,sm4,hD4,hcs4,hDt4,ov4⟩
    obtain⟨c,ec,rfl⟩:=zT hx;obtain⟨g,eg,hg⟩:=hcs4.get ec;have hSl:(ovS (kn.take i)++((rims ps).take j).map fun r=>(r,ps)).length<=1000:=by
     have h1:=zcY (kn:=kn.take i) fun p hp=>h5 p (List.mem_of_mem_take hp);have h2:=zbb ps;rw[List.length_take] at h1;rw[List.length_append,List.length_map,List.length_take];omega
    have hlen:(kvO tab').length<sizeLine:=by
     have:=ov4.len;unfold kvO;rw[List.length_map];exact zS (by omega)
    have hsn:(ovS (kn.take i)++((rims ps).take (j+1)).map fun r=>(r,ps))=(ovS (kn.take i)++((rims ps).take j).map fun r=>(r,ps))++[(g,ps)]:=by rw[take_snoc eg,List.map_append,List.append_assoc]; rfl
    generalize hS:ovS (kn.take i)++((rims ps).take j).map (fun r=>(r,ps))=S at ov4 hSl hsn;refine⟨_,rfl,.inr (.inr (.inl ⟨rfl,.inr ⟨_,ov4.hd⟩⟩)),_,rfl,zh (by simp),fun L0 hL0=>?_⟩;have s5:=Same.new (o:=.lst []) hL0;have ov5:=ov4.same s5;have hg5:=s5.tp hg;have ha5:=(sm4.trans s5).tp hps;have hD5:=s5 _ _ hD4;have hL0t:L0∉tab'.map (·.2.1):=fun z=>by
     obtain⟨e,he,ee⟩:=List.mem_map.mp z;have:=(ov4.ls e he).1;rw[show e.2.1=L0 from ee,hL0] at this;cases this
    have h00:H L0=none:=sm4.free hL0
    by_cases hin:g∈tab'.map (·.1)
    ·obtain⟨⟨g',A,bs⟩,he,rfl⟩:=List.mem_map.mp hin
     obtain⟨hA,hbs,hA0⟩:=ov5.ls _ he;have hA:upd H4 L0 (.lst []) A=some (.lst (bs.map V.ref)):=hA;have hbl:=(show Tps _ bs (cof S g') from hbs).length;have hcl:=zeD S g';refine⟨d,_,g'.map Sum.inl,c,_,rfl,rfl,ov5.hd,zgl hg5,hlen,.inl ⟨_,zcg ov5.nk _ he,.inl ⟨rfl,_,SqL.of hA⟩,_,rfl,A,_,_,rfl,rfl,hA,by rw[List.length_map]; exact zS (by omega),?_⟩⟩;obtain⟨tab2,ovn,etab⟩:=ov5.app he ha5;refine⟨_,tab2,rfl,(sm4.trans s5).then hA0,?_,Tps.upd (s5.tps hcs4) hA (by intro xs z; cases z),by rw[etab]; exact hDt4,by rw[hsn]; exact ovn⟩;rw[upd_ne (fun z=>hDt4 (by rw[z]; exact List.mem_map.mpr ⟨_,he,rfl⟩))];exact hD5
    ·have hdL:d≠L0:=ne_of_none ov4.hd hL0
     have e6:upd (upd (upd H4 L0 (.lst [])) d (.dT (putK (kvO tab') (g.map Sum.inl) (.ref L0)))) L0 (.lst ([]++[.ref a]))=upd (upd (upd H4 L0 (.lst [])) L0 (.lst ([]++[.ref a]))) d (.dT (putK (kvO tab') (g.map Sum.inl) (.ref L0))):=zis hdL;refine⟨d,_,g.map Sum.inl,c,_,rfl,rfl,ov5.hd,zgl hg5,hlen,.inr ⟨zey hin,.inl ⟨rfl,_,SqL.of (by rw[upd_ne (Ne.symm hdL)]; exact zd)⟩,_,rfl,L0,[],_,rfl,rfl,by rw[upd_ne (Ne.symm hdL)]; exact zd,zS (by simp),?_⟩⟩;rw[e6];have ov6:=Ov.other ov5 (x:=L0) (ys:=[]++[.ref a]) zd hL0t;have up6:∀{bs:List Addr} {qs:List (List Int)},Tps (upd H4 L0 (.lst [])) bs qs->Tps (upd (upd H4 L0 (.lst [])) L0 (.lst ([]++[.ref a]))) bs qs:=fun h=>Tps.upd h zd (by intro xs z; cases z);have hno:g∉S.map (·.1):=fun z=>hin ((ov5.ks g).mpr z);obtain⟨tab2,ovn,hfr⟩:=ov6.put (f:=g) (ps:=ps) (as:=[a]) (L:=L0) (by rw[zd]; rfl) (by rw[zbT hno]; exact up6 (.cons ha5 .nil)) hL0t h00;have hDL:D≠L0:=ne_of_none hD4 hL0;refine⟨_,tab2,rfl,((sm4.trans s5).then h00).then hd,?_,Tps.upd (up6 (s5.tps hcs4)) ov6.hd (by intro xs z; cases z),hfr D hDt4 hDL,by rw[hsn]; exact ovn⟩;rw[upd_ne (zaA hD5 ov5.hd (by intro z; cases z)),upd_ne hDL];exact hD5
   ·rintro σ H4 ⟨v',tab',rfl,sm4,hD4,hcs4,hDt4,ov4⟩
    refine⟨_,_,tab',rfl,sm4,?_⟩;rw[List.length_map,hlc,take_all] at ov4;rw[ze2 eps];exact ov4
  ·rintro σ H2 ⟨v,v',tab,rfl,sm,ov⟩
   rw[List.length_map,hla,take_all] at ov;exact⟨_,rfl,l,rfl,⟨_,sm.seq hl⟩,fun D hD=>zN (zgV (sm.seq hl) (sm.tps ht) ov (by omega) (by omega) hD fun H3 ts sm3 hD3 hp=>k D H3 ts (sm.trans sm3) (sm.free hD) hD3 hp)⟩
end
end K43
end
section
namespace K43
open K1
open PySem L2 STb
section
variable {P:Program}{w:World}{K:PySem.W.Frag}{mg:Str->Option Value}{base:Heap}
theorem zc0 {H2:Hp}{L D:Addr}{as:List Addr}{kn:List (List Int)}{Q:VK}{p:List Int->Bool}{tc:TT}{c:List (Option V)} (htc:∀(o:Addr) (os:List Int) (H:Hp) (R:Bool->Hp->Prop),Same H2 H->Tp H o os->os∈kn->(∀H',Same H H'->R (p os) H')->tc (some (.ref o)::c) H R)
  (hl:SqL K H2 L (as.map V.ref)) (ht:Tps H2 as kn) (hz:kn.length<=1000) (hD:H2 D=none) (k:∀H3 bs,Same H2 H3->H3 D=some (.lst (bs.map V.ref))->Tps H3 bs (kn.filter p)->Q (.ref D) H3) :
  zau (Itl K L) (zap 0) tc (tVar 0) (none::c) H2 D Q:=by
 have hla:=ht.length;refine zag (xs:=as.map V.ref) (fun j σ ys H3=>∃(v:Option V) (bs:List Addr),σ=v::c/\Same H2 H3/\H3 D=some (.lst ys)/\ys=bs.map V.ref/\Tps H3 bs ((kn.take j).filter p)) ?_ ?_ ?_ ?_
 ·exact⟨none,[],rfl,Same.new hD,zd,rfl,.nil⟩
 ·rintro j σ ys H3 ⟨v,bs,rfl,sm,hD3,rfl,_⟩
  exact sm.seq hl
 ·rintro j σ ys H3 x hx hj hy ⟨v,bs,rfl,sm,hD3,rfl,hb⟩
  obtain⟨o,eo,rfl⟩:=zT hx;obtain⟨os,eos,ho⟩:=ht.get eo;have hn:(as.map V.ref).length<=sizeLine:=by rw[List.length_map]; exact zh (by omega)
  refine htc o os H3 _ sm (sm.tp ho) (List.mem_of_getElem? eos) fun H4 sm4=>?_;cases hp:p os
  ·refine iteF (cskip hj hy ⟨_,bs,rfl,sm.trans sm4,sm4 _ _ hD3,rfl,?_⟩)
   rw[take_snoc eos,List.filter_append,List.filter_cons_of_neg (by rw[hp]; simp),List.filter_nil,List.append_nil];exact sm4.tps hb
  ·refine iteT ⟨_,rfl,cput hn hj hy (sm4 _ _ hD3) ⟨_,bs++[o],rfl,(sm.trans sm4).then hD,zd,by rw[List.map_append]; rfl,?_⟩⟩
   rw[take_snoc eos,List.filter_append,List.filter_cons_of_pos hp];exact Tps.upd (Tps.snoc (sm4.tps hb) ((sm.trans sm4).tp ho)) (sm4 _ _ hD3) (by intro xs z; cases z)
 ·rintro σ ys H3 ⟨v,bs,rfl,sm,hD3,rfl,hb⟩
  rw[List.length_map,hla,List.take_of_length_le (Nat.le_refl _)] at hb;exact k H3 bs sm hD3 hb
def zej (K:PySem.W.Frag):Sp:=fun vs H Q _=>∃l t as kn z,vs=[.ref l,.ref t]/\SqL K H l (as.map V.ref)/\Tps H as kn/\kn.length<=1000/\Pr2 H t z/\∀D H' bs,Same H H'->H D=none->H' D=some (.lst (bs.map V.ref))->Tps H' bs (kn.filter fun x=>!decide (x=z.1 \/ x=z.2))->Q (.ref D) H'
theorem zke:zt ["every","pair"] ["every","pair"] (zg zbx):=⟨rfl,rfl,rfl,by decide +kernel,rfl,by decide +kernel,by decide +kernel⟩
theorem zeZ {f:Addr}{fd:FuncData} (F:Fun K "taken_out" "taken_out" zbx f fd):FnOk P w K mg base CX0 1 f fd ["every","pair"] (zej K):=by
 refine F.ok zke (fun vs H Q E h=>?_) (fun cdv A outer s H vs Q E hr h=>?_)
 ·obtain⟨l,t,as,kn,z,rfl,_⟩:=h; rfl
 ·obtain⟨l,t,as,kn,z,rfl,hl,ht,hz,hp,k⟩:=h
  have hu64:=hr.units;refine⟨_,zi (zr (zI ["every","pair"] ["piece","pair"] [none,some 1] (zz (pv 0)) (fun cl C s₀ H₀ ex=>zm (i:=0) (ndN ["piece","pair"]) rfl (Or.inl rfl))
   (fun cl C s₀ H₀ ex=>zbk (zx (zec (in1_units hu64)) (pv 0) (pv 1) (by with_unfolding_all rfl))) (fun cl C s₀ H₀ ex=>pv 0) (hfr:=frOf (zg zbx) (by decide +kernel)) (tc:=zd0 (tOp (rInP true K) (tVar 0) (tVar 1))))),?_⟩
  refine⟨_,rfl,l,rfl,⟨_,hl⟩,fun D hD=>?_⟩;refine zN (zc0 (p:=fun x=>!decide (x=z.1 \/ x=z.2)) (fun o os H' R sm ho _ hR=>⟨_,rfl,_,rfl,o,t,os,z,rfl,rfl,ho,hp.same sm,_,rfl,?_⟩) hl ht hz hD fun H3 bs sm3 hD3 hb=>k D H3 bs sm3 hD hD3 hb);rw[if_pos rfl];exact hR H' (Same.refl _)
theorem zda (kn:List (List Int)):(ovS kn).map (·.1)=kn.flatMap rims:=by
 unfold ovS
 induction kn with
 | nil=>rfl
 | cons q r ih=>rw[List.flatMap_cons,List.flatMap_cons,List.map_append,ih,List.map_map]; congr 1; exact List.map_id' _
def ziQ (K:PySem.W.Frag):Sp:=fun vs H Q _=>∃l as kn,vs=[.ref l]/\SqL K H l (as.map V.ref)/\Tps H as kn/\(∀p∈kn,p.length<=5)/\kn.length<=199/\∀D H' bs,Same H H'->H D=none->H' D=some (.lst (bs.map V.ref))->Tps H' bs (kn.filter fun p=>!decide (p∈kn.flatMap rims))->Q (.ref D) H'
theorem zjg:zt ["known","over"] ["known"] (zg zdR):=⟨rfl,rfl,rfl,by decide +kernel,rfl,by decide +kernel,by decide +kernel⟩
theorem zjA {f fo:Addr}{fd fdo:FuncData} (F:Fun K "_law_greatest" "_law_greatest" zdR f fd) (Fo:Fun K "_law_over" "_law_over" zdQ fo fdo) (bo:Binds K fdo ["known"] []) (mo:mg "_law_over"=some (.ref fo)) (Go:FnOk P w K mg base CX0 2 fo fdo ["known"] (zgL K)):FnOk P w K mg base CX0 3 f fd ["known"] (ziQ K):=by
 refine F.ok zjg (fun vs H Q E h=>?_) (fun cdv A outer s H vs Q E hr h=>?_)
 ·obtain⟨l,as,kn,rfl,_⟩:=h; rfl
 ·obtain⟨l,as,kn,rfl,hl,ht,h5,h64,k⟩:=h
  have hu:=zdC hr;refine⟨_,zf (zq (i:=1) zjg.nd rfl (Or.inr rfl) (zl Go hr rfl mo Fo.kp bo .nil pass0 (zc (pv 0) ze)))
   (zi (zr (zI ["known","over"] ["piece","over"] [none,some 1] (zz (pv 0)) (fun cl C s₀ H₀ ex=>zm (i:=0) (ndN ["piece","over"]) rfl (Or.inl rfl))
    (fun cl C s₀ H₀ ex=>zbk (zf1 (zcb hu (pv 0) (pv 1)) (by with_unfolding_all rfl))) (fun cl C s₀ H₀ ex=>pv 0) (hfr:=frOf (zg zdR) (by decide +kernel)) (tc:=tB (zdc (tVar 0) (tVar 1)))))),?_⟩
  refine⟨_,rfl,l,as,kn,rfl,hl,ht,h5,h64,fun d H1 tab sm1 hd0 ov=>⟨_,rfl,l,rfl,⟨_,sm1.seq hl⟩,fun D hD=>?_⟩⟩;refine zN (zc0 (p:=fun p=>!decide (p∈kn.flatMap rims)) (fun o os H' R sm ho _ hR=>?_) (sm1.seq hl) (sm1.tps ht) (by omega) hD fun H3 bs sm3 hD3 hb=>k D H3 bs (sm1.trans sm3) (sm1.free hD) hD3 hb);have hR':=hR H' (Same.refl _);rcases (ov.same sm).get ho with ⟨hin,B',bs,dg,_⟩ | ⟨hno,dg⟩
  ·refine⟨_,rfl,_,rfl,d,_,rfl,dg,_,rfl,?_⟩
   rw[zda] at hin;rw[decide_eq_true hin] at hR';exact hR'
  ·refine⟨_,rfl,_,rfl,d,_,rfl,dg,_,rfl,?_⟩
   rw[zda] at hno;rw[decide_eq_false hno] at hR';exact hR'
def zgD (K:PySem.W.Frag):Sp:=fun vs H Q _=>∃l as kn,vs=[.ref l]/\SqL K H l (as.map V.ref)/\Tps H as kn/\(∀p∈kn,p.length<=5)/\kn.length<=199/\∀D H' ts,Same H H'->H D=none->H' D=some (.lst (ts.map V.ref))->Prs2 H' ts (zbt (ovS kn) kn)->Q (.ref D) H'
theorem zb9:zt ["known","over","found","piece","some"] ["known"] (zg zb7):=⟨rfl,rfl,rfl,by decide +kernel,rfl,by decide +kernel,by decide +kernel⟩
theorem zig {f fo:Addr}{fd fdo:FuncData} (F:Fun K "_law_free" "_law_free" zb7 f fd) (B:Bt mg) (Fo:Fun K "_law_over" "_law_over" zdQ fo fdo) (bo:Binds K fdo ["known"] []) (mo:mg "_law_over"=some (.ref fo)) (Go:FnOk P w K mg base CX0 2 fo fdo ["known"] (zgL K)):FnOk P w K mg base CX0 3 f fd ["known"] (zgD K):=by
 refine F.ok zb9 (fun vs H Q E h=>?_) (fun cdv A outer s H vs Q E hr h=>?_)
 ·obtain⟨l,as,kn,rfl,_⟩:=h; rfl
 ·obtain⟨l,as,kn,rfl,hl,ht,h5,h64,k⟩:=h
  have hu:=zdC hr;refine⟨_,zf (zq (i:=1) zb9.nd rfl (Or.inl rfl) (zl Go hr rfl mo Fo.kp bo .nil pass0 (zc (pv 0) ze)))
   (zf (zq (i:=2) zb9.nd rfl (Or.inl rfl) (z0 ze))
   (zf (zaa PassesOwn.never rfl (zz (pv 0)) (zm (i:=3) zb9.nd rfl (Or.inl rfl))
    (zf (zq (i:=4) zb9.nd rfl (Or.inl rfl) (zdl hu (pv 1) (pv 3) (z0 ze) ⟨rfl,rfl,rfl,rfl⟩))
    (zi (zav (PW.pt (zkB (zx zeB (zu zn rfl B.len za3 (zc (pv 4) ze)) zj (nomark _)) (zjZ (zf1 (zcb hu (zai zac (pv 4) zj (fun _ _=>rfl)) (pv 1)) (by with_unfolding_all rfl)))))
     (zi (zaq (zbR PySem.F.plainAttrs_list PySem.F.slot_list_append PySem.F.type_list_append zR (pv 2) (zc (zaF (zc (pv 3) (zc (zai zac (pv 4) zj (fun _ _=>rfl)) ze))) ze)))) zD))))
   (zi (zr (pv 2))))),?_⟩
  refine⟨_,rfl,l,as,kn,rfl,hl,ht,h5,h64,fun d H1 tab sm1 hd0 ov=>⟨zh (by simp),fun FD hFD=>?_⟩⟩;have hla:=ht.length;have hSl:=zcY h5;have sF:=Same.new (o:=.lst []) hFD;have hF0:H FD=none:=sm1.free hFD;have hFt:FD∉tab.map (·.2.1):=fun z=>by
   obtain⟨e,he,ee⟩:=List.mem_map.mp z;have:=(ov.ls e he).1;rw[show e.2.1=FD from ee,hFD] at this;cases this
  generalize hS:ovS kn=S at ov k hSl;refine⟨_,rfl,l,rfl,⟨_,(sm1.trans sF).seq hl⟩,zK (K:=K) (a:=l) (xs:=as.map V.ref) (fun i σ H2=>∃(v v':Option V) (ts:List Addr),σ=[some (.ref l),some (.ref d),some (.ref FD),v,v']/\Same H H2/\Ov H H2 d S tab/\H2 FD=some (.lst (ts.map V.ref))/\Prs2 H2 ts (zbt S (kn.take i)))
   ⟨none,none,[],rfl,sm1.trans sF,ov.same sF,zd,by rw[List.take_zero]; exact .nil⟩ (fun i σ H2 _ ⟨_,_,_,_,sm,_⟩=>sm.seq hl) ?_ ?_⟩
  ·rintro i x σ H2 hx ⟨v,v',ts,rfl,sm,ov2,hF2,hp2⟩
   obtain⟨a,ea,rfl⟩:=zT hx;obtain⟨ps,eps,hps⟩:=ht.get ea;have hi:i<kn.length:=(List.getElem?_eq_some_iff.mp eps).1;have hps2:=sm.tp hps;have ef:=zdE (f:=fun p=>decide ((cof S p).length=1) && !decide ((cof S p).headD []∈S.map (·.1))) (g:=frP S) eps;refine⟨_,rfl,d,rfl,.inr ⟨_,.inl ov2.hd⟩,_,rfl,zh (by simp),fun L0 hL0=>?_⟩;have s4:=Same.new (o:=.lst []) hL0;have ov4:=ov2.same s4;have hF4:=s4 _ _ hF2;have hps4:=s4.tp hps2;have skip:(decide ((cof S ps).length=1) && !decide ((cof S ps).headD []∈S.map (·.1)))=false->∀v4:Option V,∃(v v':Option V) (ts:List Addr),[some (V.ref l),some (.ref d),some (.ref FD),some (.ref a),v4]=[some (.ref l),some (.ref d),some (.ref FD),v,v']/\Same H (upd H2 L0 (.lst []))/\Ov H (upd H2 L0 (.lst [])) d S tab/\upd H2 L0 (.lst []) FD=some (.lst (ts.map V.ref))/\Prs2 (upd H2 L0 (.lst [])) ts (zbt S (kn.take (i+1))):=fun hf v4=>by
    refine⟨_,_,ts,rfl,sm.trans s4,ov4,hF4,?_⟩;unfold zbt;rw[ef,hf,if_neg (by decide),List.append_nil];exact hp2.same s4
   rcases ov4.get hps4 with ⟨hin,A',bs,dg,hA,hbs⟩ | ⟨hno,dg⟩
   ·have hbl:=hbs.length
    refine⟨_,dg,_,rfl,A',_,rfl,.inl (SqL.of hA),rfl,_,rfl,?_⟩;rw[show (bs.map V.ref).length=(cof S ps).length from by rw[List.length_map]; exact hbl]
    by_cases h1:(cof S ps).length=1
    ·rw[show decide (V.int ((cof S ps).length:Int)=V.int 1)=true from decide_eq_true (by rw[h1]; rfl)]
     obtain⟨b,rfl⟩:∃b,bs=[b]:=by
      match bs,hbl with
      | [b],_=>exact⟨b,rfl⟩
      | [],z=>simp[h1] at z
      | _::_::_,z=>simp[h1] at z
     obtain⟨q,eq⟩:∃q,cof S ps=[q]:=by
      match hc:cof S ps,h1 with
      | [q],_=>exact⟨q,rfl⟩
     have hb:Tp (upd H2 L0 (.lst [])) b q:=by
      rw[eq] at hbs;cases hbs with
      | cons r _=>exact r
     refine iteT ⟨_,rfl,A',_,0,_,rfl,rfl,SqL.of hA,zJ (j:=0) rfl,_,rfl,?_⟩;rcases ov4.get hb with ⟨hin2,_,_,dg2,_⟩ | ⟨hno2,dg2⟩
     ·refine⟨d,_,rfl,dg2,_,rfl,iteF (skip ?_ _)⟩
      rw[show decide ((cof S ps).headD []∈S.map (·.1))=true from decide_eq_true (by rw[eq]; exact hin2),Bool.not_true,Bool.and_false]
     ·refine⟨d,_,rfl,dg2,_,rfl,iteT ⟨_,rfl,.inl ⟨rfl,_,SqL.of hF4⟩,_,rfl,_,rfl,A',_,0,_,rfl,rfl,SqL.of hA,zJ (j:=0) rfl,zh (by simp),fun t htn=>?_⟩⟩
      have s5:=Same.new (o:=.tup [.ref a,.ref b]) htn;have hF5:=s5 _ _ hF4;have htl:=hp2.length;have htl2:ts.length<=200:=by
       rw[htl];unfold zbt;rw[List.length_map];exact Nat.le_trans (List.length_filter_le _ _) (by rw[List.length_take]; omega)
      refine⟨FD,_,_,rfl,rfl,hF5,by rw[List.length_map]; exact zS (by omega),⟨_,_,ts++[t],rfl,((sm.trans s4).trans s5).then hF0,Ov.other (ov4.same s5) hF5 hFt,by rw[zd,List.map_append]; rfl,?_⟩⟩;unfold zbt;rw[ef,decide_eq_true h1,show decide ((cof S ps).headD []∈S.map (·.1))=false from decide_eq_false (by rw[eq]; exact hno2),if_pos (by decide)];refine Prs2.upd (Prs2.snoc (hp2.same (s4.trans s5)) ⟨a,b,zd,s5.tp hps4,?_⟩) hF5 (by intro xs z; cases z);show Tp _ b ((cof S ps).headD []);rw[eq];exact s5.tp hb
    ·rw[show decide (V.int ((cof S ps).length:Int)=V.int 1)=false from decide_eq_false fun z=>h1 (by injection z with z; omega)]
     exact iteF (iteF (skip (by rw[decide_eq_false h1,Bool.false_and]) _))
   ·refine⟨_,dg,_,rfl,L0,[],rfl,.inl (SqL.of zd),rfl,_,rfl,?_⟩
    rw[show decide (V.int (([]:List V).length:Int)=V.int 1)=false from by decide];exact iteF (iteF (skip (by rw[zbT hno]; rfl) _))
  ·rintro σ H2 ⟨v,v',ts,rfl,sm,ov2,hF2,hp2⟩
   rw[List.length_map,hla,take_all] at hp2;exact⟨_,rfl,k FD H2 ts sm hF0 hF2 hp2⟩
end
end K43
end
section
namespace K1
theorem zgE {pss:List (List Int)} (hp:∀p∈pss,zP p=true):∀(n:Nat) (x:List Int),5<=x.length+n->x∈canon pss->∃t∈tops (canon pss),x.Sublist t:=by
 have hpc:∀q∈canon pss,zP q=true:=fun q hq=>by
  obtain⟨r,hr,hx⟩:=List.mem_flatMap.mp (zV.mp hq);exact za6 (hp r hr) hx
 intro n
 induction n with
 | zero=>
  intro x hn hx;refine⟨x,List.mem_filter.mpr ⟨hx,?_⟩,List.Sublist.refl _⟩;unfold zdt;rw[decide_eq_true_eq,List.length_eq_zero_iff,List.filter_eq_nil_iff];intro o ho hov;unfold over at hov;rw[Bool.and_eq_true,decide_eq_true_eq] at hov;have:=(zG.mp (hpc o ho)).2.1;omega
 | succ n ih=>
  intro x hn hx
  by_cases ht:zdt (canon pss) x=true
  ·exact⟨x,List.mem_filter.mpr ⟨hx,ht⟩,List.Sublist.refl _⟩
  ·unfold zdt at ht
   rw[decide_eq_true_eq,List.length_eq_zero_iff] at ht;obtain⟨o,ho⟩:=List.exists_mem_of_ne_nil _ ht;obtain⟨ho,hov⟩:=List.mem_filter.mp ho;unfold over at hov;rw[Bool.and_eq_true,decide_eq_true_eq,List.all_eq_true] at hov;have hs:x.Sublist o:=zam o x (zG.mp (hpc o ho)).2.2.2 (zG.mp (hpc x hx)).2.2.2 fun y hy=>of_decide_eq_true (hov.2 y hy);obtain⟨t,ht,hst⟩:=ih o (by omega) ho;exact⟨t,ht,hs.trans hst⟩
end K1
end
section
namespace L2
open PySem PySem.Spec PyProof.Rows
section
variable {X:Cx}
theorem zcd:zbl X (.builtin "isinstance") (fun xs H Q=>∃a ys,xs=[.ref a,.ty "list"]/\H a=some (.lst ys)/\Q (.bl true) H):=by
 intro pins s σ H xs us Q I r h;obtain⟨a,ys,rfl,ha,q⟩:=h;obtain⟨u,u',rfl,ru,ru'⟩:=vals2 r;cases ru';exact zdS I ru (.lst ha) (by first | rfl | kernel_rfl | decide +kernel) fun tk=>⟨.bl true,H,I.tok _,rfl,q⟩
theorem zeT:zbl X (.builtin "isinstance") (fun xs H Q=>∃a ys,xs=[.ref a,.ty "tuple"]/\H a=some (.tup ys)/\Q (.bl true) H):=by
 intro pins s σ H xs us Q I r h;obtain⟨a,ys,rfl,ha,q⟩:=h;obtain⟨u,u',rfl,ru,ru'⟩:=vals2 r;cases ru';exact zdS I ru (.tup ha) (by first | rfl | kernel_rfl | decide +kernel) fun tk=>⟨.bl true,H,I.tok _,rfl,q⟩
end
end L2
end
section
namespace K1
def sg (q:List Int):Int:=1 - 2*(1 - (q.length:Int) % 2)
theorem zaf {pss:List (List Int)}{q:List Int}:q∈canon pss ↔ q≠[]/\∃t∈pss,q.Sublist t:=by
 rw[zV,List.mem_flatMap];constructor
 ·rintro⟨t,ht,hq⟩
  exact⟨(zw.mp hq).1,t,ht,(zw.mp hq).2⟩
 ·rintro⟨h,t,ht,hq⟩
  exact⟨t,ht,zw.mpr ⟨h,hq⟩⟩
end K1
end
section
namespace K1
theorem zeC {pss:List (List Int)} (hp:∀p∈pss,zP p=true):canon (tops (canon pss))=canon pss:=by
 refine zeg fun x=>⟨fun h=>?_,fun h=>?_⟩
 ·obtain⟨t,ht,hx⟩:=List.mem_flatMap.mp h
  exact List.mem_flatMap.mpr ⟨t,ze4 ht,hx⟩
 ·obtain⟨t,ht,hs⟩:=zgE hp 5 x (by omega) (zV.mpr h)
  obtain⟨p,_,hx⟩:=List.mem_flatMap.mp h;exact List.mem_flatMap.mpr ⟨t,ht,zw.mpr ⟨(zw.mp hx).1,hs⟩⟩
theorem zbK {X pss:List (List Int)}{P:List Int->Bool} (h:∀x,x∈canon X ↔ x∈canon pss/\P x=true):canon X=(canon pss).filter P:=
 zaS ((List.perm_ext_iff_of_nodup (zZ X) ((zZ pss).filter P)).mpr fun x=>by rw[List.mem_filter]; exact h x) (zQ X) ((zQ pss).sublist List.filter_sublist)
abbrev hol (t p:List Int):Bool:=(p.map fun x=>decide (x∈t)).all id
section
variable {pss:List (List Int)}{p:List Int}
theorem zge (hw:webM pss=true) {q:List Int} (h:q∈canon pss):zP q=true:=by
 obtain⟨t,ht,hx⟩:=List.mem_flatMap.mp (zV.mp h);exact za6 ((zer hw).2.1 t ht) hx
end
end K1
end
section
namespace K43
open K1
open PySem L2 STb
theorem zaL {kn:List (List Int)}{p q:List Int}:q∈cof (ovS kn) p ↔ q∈kn/\p∈rims q:=by
 unfold cof ovS;rw[List.mem_map];constructor
 ·rintro⟨x,hx,rfl⟩
  obtain⟨h1,h2⟩:=List.mem_filter.mp hx;obtain⟨r,hr,hm⟩:=List.mem_flatMap.mp h1;obtain⟨y,hy,rfl⟩:=List.mem_map.mp hm;have:y=p:=of_decide_eq_true h2;subst this;exact⟨hr,hy⟩
 ·rintro⟨h1,h2⟩
  exact⟨(p,q),List.mem_filter.mpr ⟨List.mem_flatMap.mpr ⟨q,h1,List.mem_map.mpr ⟨p,h2,rfl⟩⟩,decide_eq_true rfl⟩,rfl⟩
theorem zbz:∀{l:List Int} (_:l.Nodup) {k:Nat} (hk:k<l.length),l.erase l[k]=l.take k++l.drop (k+1)
 | [],_,_,hk=>absurd hk (by simp)
 | a::r,_,0,_=>by simp
 | a::r,hn,k+1,hk=>by
  rw[List.nodup_cons] at hn;have hk':k<r.length:=by simpa using hk
  have hne:a≠r[k]:=fun z=>hn.1 (by rw[z]; exact List.getElem_mem hk');show (a::r).erase r[k]=_;rw[List.erase_cons_tail (by simpa using hne),zbz hn.2 hk']
  rfl
theorem zfo {l x:List Int} (hn:l.Nodup):x∈rims l ↔ l.length≠1/\∃a∈l,x=l.erase a:=by
 rw[zak];refine and_congr_right fun _=>⟨?_,?_⟩
 ·rintro⟨k,hk,rfl⟩
  refine⟨l[k],List.getElem_mem hk,?_⟩;exact (zbz hn hk).symm
 ·rintro⟨a,ha,rfl⟩
  obtain⟨k,hk,rfl⟩:=List.getElem_of_mem ha;refine⟨k,hk,?_⟩;exact zbz hn hk
section
variable {pss:List (List Int)} (hw:∀p∈canon pss,zP p=true)
include hw
theorem zdH {q:List Int} (h:q∈canon pss):q.Nodup/\q≠[]/\q.length<=5:=by
 obtain⟨h0,h5,_,hp⟩:=zG.mp (hw _ h);exact⟨hp.imp fun h z=>absurd (z ▸ h) (by omega),h0,h5⟩
theorem zjD {q r:List Int} (hq:q∈canon pss) (hr:r∈rims q):r∈canon pss:=by
 obtain⟨h0,t,ht,hs⟩:=zaf.mp hq;obtain⟨h1,k,hk,e⟩:=zak.mp hr;obtain⟨s,l⟩:=zf7 hk e;refine zaf.mpr ⟨fun z=>?_,t,ht,s.trans hs⟩;have:=congrArg List.length e;rw[z,List.length_append,List.length_take,List.length_drop,List.length_nil] at this;omega
theorem zhr {p q:List Int} (h:cof (ovS (canon pss)) p=[q]):q∉(canon pss).flatMap rims:=fun z=>by
 obtain⟨r,hr,hqr⟩:=List.mem_flatMap.mp z;obtain⟨hq,hpq⟩:=zaL.mp (show q∈cof (ovS (canon pss)) p by rw[h]; exact List.mem_cons_self);obtain⟨rn,_,_⟩:=zdH hw hr;obtain⟨qn,_,_⟩:=zdH hw hq;obtain⟨hl,a,ha,rfl⟩:=(zfo rn).mp hqr;obtain⟨hl2,b,hb,rfl⟩:=(zfo qn).mp hpq;obtain⟨hba,hbr⟩:=(List.Nodup.mem_erase_iff rn).mp hb;have hq':r.erase b∈canon pss:=zjD hw hr ((zfo rn).mpr ⟨hl,b,hbr,rfl⟩);have haq:a∈r.erase b:=(List.Nodup.mem_erase_iff rn).mpr ⟨Ne.symm hba,ha⟩;have hlen:(r.erase b).length=(r.erase a).length:=by rw[List.length_erase_of_mem hbr,List.length_erase_of_mem ha]
 have hm:r.erase b∈cof (ovS (canon pss)) ((r.erase a).erase b):=zaL.mpr ⟨hq',(zfo (zdH hw hq').1).mpr ⟨by rw[hlen]; exact hl2,a,haq,List.erase_comm a b⟩⟩;rw[h] at hm;have e:r.erase b=r.erase a:=by simpa using hm
 rw[e] at haq;exact ((List.Nodup.mem_erase_iff rn).mp haq).1 rfl
theorem free_eq:zaZ (ovS (canon pss)) (canon pss)=zbt (ovS (canon pss)) (canon pss):=by
 unfold zaZ zbt
 congr 1
 refine List.filter_congr fun p hp=>?_
 by_cases h1:(cof (ovS (canon pss)) p).length=1
 ·obtain⟨q,eq⟩:∃q,cof (ovS (canon pss)) p=[q]:=by
   match hc:cof (ovS (canon pss)) p,h1 with
   | [q],_=>exact⟨q,rfl⟩
  have:¬ (cof (ovS (canon pss)) p).headD []∈(ovS (canon pss)).map (·.1):=by
   rw[zda,eq];exact zhr hw eq
  rw[decide_eq_true h1,decide_eq_false this]
  rfl
 ·rw[decide_eq_false h1,Bool.false_and]
def lefts (pss:List (List Int)) (z:Pp):List (List Int):=(canon pss).filter fun x=>!decide (x=z.1 \/ x=z.2)
theorem zih {z:Pp} (h:z∈zaZ (ovS (canon pss)) (canon pss)):z.1∈canon pss/\cof (ovS (canon pss)) z.1=[z.2]:=by
 unfold zaZ at h;obtain⟨p,hp,rfl⟩:=List.mem_map.mp h;obtain⟨h1,h2⟩:=List.mem_filter.mp hp;have h2:=of_decide_eq_true h2;refine⟨h1,?_⟩;show cof (ovS (canon pss)) p=[(cof (ovS (canon pss)) p).headD []]
 match hc:cof (ovS (canon pss)) p,h2 with
 | [q],_=>rfl
theorem zeO {z:Pp} (h:z∈zaZ (ovS (canon pss)) (canon pss)):canon (lefts pss z)=lefts pss z:=by
 obtain⟨hp,hc⟩:=zih hw h;have htop:=zhr hw hc;have above:∀{y x:List Int},y∈canon pss->x∈canon pss->y.Sublist x->y≠x->∃r∈canon pss,y∈rims r/\r.Sublist x:=by
  intro y x hy hx hs hne;have hl:y.length<x.length:=by
   rcases Nat.lt_or_ge y.length x.length with g | g
   ·exact g
   ·exact absurd (hs.eq_of_length_le g) hne
  obtain⟨r,k,h1,h2,h3,h4⟩:=between hs hl;have hyl:y.length≠0:=fun e=>(zdH hw hy).2.1 (List.eq_nil_of_length_eq_zero e);obtain⟨_,t,ht,hst⟩:=zaf.mp hx;exact⟨r,zaf.mpr ⟨fun e=>by rw[e] at h2; simp at h2,t,ht,h1.trans hst⟩,zak.mpr ⟨by omega,k,h2,h4⟩,h1⟩
 unfold lefts;refine zbK fun x=>⟨fun hx=>?_,fun hx=>?_⟩
 ·obtain⟨h1,t,ht,hs⟩:=zaf.mp hx
  obtain⟨ht1,ht2⟩:=List.mem_filter.mp ht;obtain⟨_,t',ht',hs'⟩:=zaf.mp ht1;have hxc:x∈canon pss:=zaf.mpr ⟨h1,t',ht',hs.trans hs'⟩;refine⟨hxc,?_⟩;have ht2:¬ (t=z.1 \/ t=z.2):=by simpa using ht2
  show (!decide (x=z.1 \/ x=z.2))=true;rw[decide_eq_false]
  ·rfl
  rintro (rfl | rfl)
  ·obtain⟨r,hr,hrm,hrs⟩:=above hxc ht1 hs fun e=>ht2 (.inl e.symm)
   have hm:r∈cof (ovS (canon pss)) z.1:=zaL.mpr ⟨hr,hrm⟩;rw[hc] at hm;have hrz:r=z.2:=by simpa using hm
   rw[hrz] at hrs hr;obtain⟨r2,hr2,hrm2,_⟩:=above hr ht1 hrs fun e=>ht2 (.inr e.symm);exact htop (List.mem_flatMap.mpr ⟨r2,hr2,hrm2⟩)
  ·obtain⟨r,hr,hrm,_⟩:=above hxc ht1 hs fun e=>ht2 (.inr e.symm)
   exact htop (List.mem_flatMap.mpr ⟨r,hr,hrm⟩)
 ·exact zaf.mpr ⟨(zdH hw hx.1).2.1,x,List.mem_filter.mpr hx,List.Sublist.refl _⟩
end
end K43
end
section
namespace K43
open K1
open PySem L2 STb
structure Cl (L:List (List Int)):Prop where
 can:canon L=L
 pc:∀p∈L,zP p=true
def rem (L:List (List Int)) (z:Pp):List (List Int):=L.filter fun x=>!decide (x=z.1 \/ x=z.2)
def fr (L:List (List Int)):List Pp:=zaZ (ovS L) L
theorem zfS {X pss:List (List Int)} (h:∀x,x∈canon X ↔ x∈canon pss):canon X=canon pss:=by
 have:=zbK (X:=X) (pss:=pss) (P:=fun _=>true) fun x=>by rw[h]; simp
 rw[this,List.filter_eq_self.mpr fun _ _=>rfl]
theorem Cl.of {pss:List (List Int)} (hw:webM pss=true):Cl (canon pss):=by
 refine⟨zfS fun x=>?_,fun p hp=>zge hw hp⟩;rw[zaf];refine⟨fun ⟨h0,t,ht,hs⟩=>?_,fun h=>⟨(zaf.mp h).1,x,h,List.Sublist.refl _⟩⟩;obtain⟨_,u,hu,hs'⟩:=zaf.mp ht;exact zaf.mpr ⟨h0,u,hu,hs.trans hs'⟩
theorem Cl.hw {L:List (List Int)} (c:Cl L):∀p∈canon L,zP p=true:=by rw[c.can]; exact c.pc
theorem Cl.free_eq {L:List (List Int)} (c:Cl L):zbt (ovS L) L=fr L:=by
 have:=K43.free_eq c.hw;rw[c.can] at this;exact this.symm
theorem Cl.rem {L:List (List Int)} (c:Cl L) {z:Pp} (h:z∈fr L):Cl (rem L z):=by
 have hz:z∈zaZ (ovS (canon L)) (canon L):=by rw[c.can]; exact h
 have e:=zeO c.hw hz;unfold lefts at e;rw[c.can] at e;exact⟨e,fun p hp=>c.pc p (List.mem_filter.mp hp).1⟩
theorem Cl.tops {L:List (List Int)} (c:Cl L):L.filter (fun p=>!decide (p∈L.flatMap rims))=K1.tops L:=by
 have:=zeb c.pc;rw[c.can] at this;exact this
theorem zgm {L:List (List Int)}{z:Pp} (h:z∈fr L):(rem L z).length<L.length:=by
 have hz:z.1∈L:=by
  unfold fr zaZ at h;obtain⟨p,hp,rfl⟩:=List.mem_map.mp h;exact (List.mem_filter.mp hp).1
 unfold rem;refine List.length_filter_lt_length_iff_exists.mpr ⟨z.1,hz,by simp⟩
def run:List (List Int)->List Pp->Option (List (List Int))
 | L,[]=>some L
 | L,z::zs=>if z∈fr L then run (rem L z) zs else none
theorem zbP:∀{zs:List Pp}{L M:List (List Int)},Cl L->run L zs=some M->Cl M/\M.Sublist L
 | [],L,M,c,h=>by cases h; exact⟨c,List.Sublist.refl _⟩
 | z::zs,L,M,c,h=>by
  unfold run at h
  by_cases hz:z∈fr L
  ·rw[if_pos hz] at h
   obtain⟨h1,h2⟩:=zbP (c.rem hz) h;exact⟨h1,h2.trans List.filter_sublist⟩
  ·rw[if_neg hz] at h; cases h
theorem zfg:∀{zs:List Pp}{L M:List (List Int)} (n:Nat),run L zs=some M->∃N,run L (zs.take n)=some N
 | zs,L,M,0,h=>⟨L,by simp[run]⟩
 | [],L,M,n+1,h=>⟨L,by simp[run]⟩
 | z::zs,L,M,n+1,h=>by
  unfold run at h
  by_cases hz:z∈fr L
  ·rw[if_pos hz] at h
   obtain⟨N,e⟩:=zfg n h;exact⟨N,by rw[List.take_succ_cons]; unfold run; rw[if_pos hz]; exact e⟩
  ·rw[if_neg hz] at h; cases h
theorem zbv:∀{zs:List Pp}{L M:List (List Int)}{z:Pp},run L zs=some M->run L (zs++[z])=if z∈fr M then some (rem M z) else none
 | [],L,M,z,h=>by cases h; simp[run]
 | y::zs,L,M,z,h=>by
  unfold run at h
  by_cases hy:y∈fr L
  ·rw[if_pos hy] at h
   rw[List.cons_append];unfold run;rw[if_pos hy];exact zbv h
  ·rw[if_neg hy] at h; cases h
theorem zga:∀{zs:List Pp}{L:List (List Int)}{ys:List Pp},run L zs=none->run L (zs++ys)=none
 | [],L,ys,h=>by cases h
 | z::zs,L,ys,h=>by
  unfold run at h;rw[List.cons_append];unfold run
  by_cases hz:z∈fr L
  ·rw[if_pos hz] at h ⊢; exact zga h
  ·rw[if_neg hz]
theorem zhu {zs:List Pp}{L M:List (List Int)} (h:run L zs=some M) (hf:fr L=[]):M=L:=by
 cases zs with
 | nil=>cases h; rfl
 | cons z r=>
  unfold run at h;rw[hf,if_neg (by simp)] at h;cases h
theorem zkk {M:List (List Int)}{x y:List Int} (hx:x∈K1.tops M) (hy:y∈M) (hs:x.Sublist y):x=y:=by
 obtain⟨h1,h2⟩:=List.mem_filter.mp hx;rcases Nat.lt_or_ge x.length y.length with hl | hl
 ·exfalso
  unfold zdt at h2;have h0:=of_decide_eq_true h2;have:y∈M.filter fun o=>over o x:=List.mem_filter.mpr ⟨hy,by unfold over; rw[decide_eq_true hl,Bool.true_and,List.all_eq_true]; exact fun y hy=>decide_eq_true (hs.subset hy)⟩;rw[List.eq_nil_of_length_eq_zero h0] at this;cases this
 ·exact hs.eq_of_length_le hl
abbrev p6:List Int:=[0,1,2,3,4,5]
def unm (m:Nat):List Int:=p6.filter fun i=>m.testBit i.toNat
def chn:List (Nat×List (List Nat)):=[(7,[[1,3,11,27,59],[2,6,22,30,62],[4,5,13,29,61],[8,9,25,57],[10,14,15,31,63],[12,44,45],[16,17,19,23,55],[18,26,58],[20,21,53],[24,28,60],[32,33,35,51],[34,38,54],[36,37,39,47],[40,41,43],[42,46],[48,49],[50],[52],[56]]),(11,[[1,3,35,51],[2,6,14,15,31,63],[4,5,7,23,55],[8,9,13,29,61],[10,26,58],[12,28,60],[16,17,19,27,59],[18,22,30,62],[20,21,53],[24,25,57],[32,33,37,39,47],[34,42,46],[36,38,54],[40,41,43],[44,45],[48,49],[50],[52],[56]]),(13,[[1,3,35,39,47],[2,6,7,23,55],[4,5,21,29,61],[8,9,25,57],[10,11,27,59],[12,14,15,31,63],[16,17,19,51],[18,22,30,62],[20,28,60],[24,26,58],[32,33,37,53],[34,42,46],[36,38,54],[40,41,43],[44,45],[48,49],[50],[52],[56]]),(14,[[1,3,35,51],[2,6,7,15,31,63],[4,5,13,29,61],[8,9,11,27,59],[10,26,58],[12,28,60],[16,17,21,53],[18,19,23,55],[20,22,30,62],[24,25,57],[32,33,37,39,47],[34,42,46],[36,38,54],[40,41,43],[44,45],[48,49],[50],[52],[56]]),(19,[[1,3,11,27,59],[2,6,22,30,62],[4,5,7,39,47],[8,9,13,29,61],[10,14,15,31,63],[12,28,60],[16,17,21,23,55],[18,26,58],[20,52],[24,25,57],[32,33,35,51],[34,38,54],[36,37,53],[40,41,43],[42,46],[44,45],[48,49],[50],[56]]),(21,[[1,3,7,23,55],[2,6,22,54],[4,5,13,29,61],[8,9,41,43],[10,11,15,31,63],[12,14,30,62],[16,17,25,57],[18,19,27,59],[20,28,60],[24,26,58],[32,33,35,51],[34,38,39,47],[36,37,53],[40,42,46],[44,45],[48,49],[50],[52],[56]]),(22,[[1,3,11,27,59],[2,6,7,23,55],[4,5,21,29,61],[8,9,13,15,31,63],[10,14,30,62],[12,28,60],[16,17,19,51],[18,26,58],[20,52],[24,25,57],[32,33,35,39,47],[34,38,54],[36,37,53],[40,41,43],[42,46],[44,45],[48,49],[50],[56]]),(25,[[1,3,35,51],[2,6,14,46],[4,5,7,39,47],[8,9,11,27,59],[10,26,58],[12,13,15,31,63],[16,17,19,23,55],[18,22,30,62],[20,21,29,61],[24,28,60],[32,33,37,53],[34,42,43],[36,38,54],[40,41,57],[44,45],[48,49],[50],[52],[56]]),(26,[[1,3,7,23,55],[2,6,22,54],[4,5,13,29,61],[8,9,11,15,31,63],[10,14,30,62],[12,44,45],[16,17,25,57],[18,19,27,59],[20,21,53],[24,28,60],[32,33,35,51],[34,38,46],[36,37,39,47],[40,41,43],[42,58],[48,49],[50],[52],[56]]),(28,[[1,3,35,51],[2,6,14,30,62],[4,5,7,39,47],[8,9,11,27,59],[10,26,58],[12,13,15,31,63],[16,17,21,29,61],[18,19,23,55],[20,22,54],[24,25,57],[32,33,37,53],[34,42,43],[36,38,46],[40,41,45],[44,60],[48,49],[50],[52],[56]]),(35,[[1,3,11,27,59],[2,6,7,15,31,63],[4,5,37,53],[8,9,13,29,61],[10,26,58],[12,14,30,62],[16,17,21,23,55],[18,19,51],[20,22,54],[24,25,57],[28,60],[32,33,41,43],[34,38,39,47],[36,44,45],[40,42,46],[48,49],[50],[52],[56]]),(37,[[1,3,11,27,59],[2,6,7,15,31,63],[4,5,21,53],[8,9,13,29,61],[10,26,58],[12,14,30,62],[16,17,19,23,55],[18,22,54],[20,28,60],[24,25,57],[32,33,35,51],[34,38,39,47],[36,44,45],[40,41,43],[42,46],[48,49],[50],[52],[56]]),(38,[[1,3,11,27,59],[2,6,7,23,55],[4,5,21,29,61],[8,9,13,15,31,63],[10,26,58],[12,14,30,62],[16,17,19,51],[18,22,54],[20,28,60],[24,25,57],[32,33,37,53],[34,35,39,47],[36,44,45],[40,41,43],[42,46],[48,49],[50],[52],[56]]),(41,[[1,3,11,27,59],[2,6,7,15,31,63],[4,5,21,53],[8,9,13,29,61],[10,26,58],[12,14,30,62],[16,17,19,51],[18,22,23,55],[20,28,60],[24,25,57],[32,33,37,39,47],[34,35,43],[36,38,54],[40,42,46],[44,45],[48,49],[50],[52],[56]]),(42,[[1,3,19,23,55],[2,6,14,30,62],[4,5,7,39,47],[8,9,11,27,59],[10,26,58],[12,13,15,31,63],[16,17,25,57],[18,22,54],[20,21,29,61],[24,28,60],[32,33,37,53],[34,35,51],[36,38,46],[40,41,43],[44,45],[48,49],[50],[52],[56]]),(44,[[1,3,35,51],[2,6,14,30,62],[4,5,7,39,47],[8,9,11,27,59],[10,26,58],[12,13,15,31,63],[16,17,21,29,61],[18,19,23,55],[20,22,54],[24,25,57],[28,60],[32,33,37,53],[34,42,43],[36,38,46],[40,41,45],[48,49],[50],[52],[56]]),(49,[[1,3,35,51],[2,6,14,30,62],[4,5,7,39,47],[8,9,11,27,59],[10,26,58],[12,13,15,31,63],[16,17,21,29,61],[18,19,23,55],[20,22,54],[24,25,57],[28,60],[32,33,37,53],[34,42,43],[36,38,46],[40,41,45],[44],[48,50],[52],[56]]),(50,[[1,3,35,51],[2,6,14,30,62],[4,5,7,39,47],[8,9,11,27,59],[10,26,58],[12,13,15,31,63],[16,17,21,29,61],[18,19,23,55],[20,22,54],[24,25,57],[28,60],[32,33,37,53],[34,42,43],[36,38,46],[40,41,45],[44],[48,49],[52],[56]]),(52,[[1,3,35,51],[2,6,14,30,62],[4,5,7,39,47],[8,9,11,27,59],[10,26,58],[12,13,15,31,63],[16,17,21,29,61],[18,19,23,55],[20,22,54],[24,25,57],[28,60],[32,33,37,53],[34,42,43],[36,38,46],[40,41,45],[44],[48,49],[50],[56]]),(56,[[1,3,35,51],[2,6,14,30,62],[4,5,7,39,47],[8,9,11,27,59],[10,26,58],[12,13,15,31,63],[16,17,21,29,61],[18,19,23,55],[20,22,54],[24,25,57],[28,60],[32,33,37,53],[34,42,43],[36,38,46],[40,41,45],[44],[48,49],[50],[52]])]
def trp:List Nat:=[7,11,13,14,19,21,22,25,26,28,35,37,38,41,42,44,49,50,52,56]
def sbm (a b:Nat):Bool:=Nat.land a b == a
theorem zk1:(chn.all fun e=>e.2.length == 19 && (e.2.all fun c=>c.all fun a=>c.all fun b=>sbm a b || sbm b a) && (List.range 64).all fun m=>m == 0 || m == e.1 || e.2.any fun c=>c.contains m)=true:=by decide +kernel
theorem zle:(trp.all fun T=>chn.any fun e=>e.1 == T)=true:=by decide +kernel
theorem zjs:((parts p6).all fun x=>(List.range 64).any fun m=>!(m == 0) && decide (unm m=x))=true:=by decide +kernel
theorem zkn:((List.range 64).all fun a=>(List.range 64).all fun b=>!(sbm a b) || (unm a).isSublist (unm b))=true:=by decide +kernel
theorem anti19 {A:List (List Int)} (hA:A.Nodup) (h6:∀x∈A,x∈parts p6) (anti:∀x∈A,∀y∈A,x.Sublist y->x=y) {T:Nat} (hT:T∈trp) (hn:unm T∉A):A.length<=19:=by
 obtain⟨e,he,eT⟩:=List.any_eq_true.mp (List.all_eq_true.mp zle T hT);have eT:e.1=T:=by simpa using eT
 have hc:=List.all_eq_true.mp zk1 e he;rw[Bool.and_eq_true,Bool.and_eq_true] at hc;obtain⟨⟨h19,hch⟩,hall⟩:=hc;have h19:e.2.length=19:=by simpa using h19
 have ex:∀x∈A,∃m i c,m<64/\unm m=x/\i<19/\e.2[i]?=some c/\m∈c:=fun x hx=>by
  obtain⟨m,hm,h2⟩:=List.any_eq_true.mp (List.all_eq_true.mp zjs x (h6 x hx));rw[Bool.and_eq_true] at h2;have hm0:m≠0:=by simpa using h2.1
  have hmx:unm m=x:=of_decide_eq_true h2.2;have h3:=List.all_eq_true.mp hall m hm;rw[Bool.or_eq_true,Bool.or_eq_true] at h3;rcases h3 with (h3 | h3) | h3
  ·exact absurd (by simpa using h3) hm0
  ·have:m=T:=by rw[<- eT]; simpa using h3
   subst this;exact absurd (hmx ▸ hx) hn
  ·obtain⟨c,hc1,hc2⟩:=List.any_eq_true.mp h3
   obtain⟨i,hi⟩:=List.getElem?_of_mem hc1;exact⟨m,i,c,List.mem_range.mp hm,hmx,by rw[<- h19]; exact (List.getElem?_eq_some_iff.mp hi).1,hi,by simpa using hc2⟩
 classical
 let g:List Int->Nat:=fun x=>if h:x∈A then (ex x h).choose_spec.choose else 0
 have hg:∀x (h:x∈A),∃m c,m<64/\unm m=x/\g x<19/\e.2[g x]?=some c/\m∈c:=fun x h=>by
  have e1:g x=(ex x h).choose_spec.choose:=dif_pos h;obtain⟨c,a1,a2,a3,a4,a5⟩:=(ex x h).choose_spec.choose_spec;rw[e1];exact⟨(ex x h).choose,c,a1,a2,a3,a4,a5⟩
 have inj:∀x∈A,∀y∈A,g x=g y->x=y:=fun x hx y hy eg=>by
  obtain⟨m,c,m1,rfl,m3,m4,m5⟩:=hg x hx;obtain⟨m',c',n1,rfl,n3,n4,n5⟩:=hg y hy;rw[eg,n4] at m4;cases m4;have h4:=List.all_eq_true.mp (List.all_eq_true.mp (List.all_eq_true.mp hch c (List.mem_of_getElem? n4)) m m5) m' n5;have sl:∀{a b:Nat},a<64->b<64->sbm a b=true->(unm a).Sublist (unm b):=fun {a b} ha hb hs=>by
   have:=List.all_eq_true.mp (List.all_eq_true.mp zkn a (List.mem_range.mpr ha)) b (List.mem_range.mpr hb);rw[hs] at this;exact List.isSublist_iff_sublist.mp (by simpa using this)
  rcases Bool.or_eq_true _ _ ▸ h4 with h5 | h5
  ·exact anti _ hx _ hy (sl m1 n1 h5)
  ·exact (anti _ hy _ hx (sl n1 m1 h5)).symm
 have nd:(A.map g).Nodup:=by
  unfold List.Nodup at hA ⊢;rw[List.pairwise_map];refine hA.imp_of_mem fun {x y} hx hy hne he=>hne (inj x hx y hy he)
 have:=nd.length_le_of_subset (l₂:=List.range 19) fun i hi=>by
  obtain⟨x,hx,rfl⟩:=List.mem_map.mp hi;obtain⟨_,_,_,_,h3,_⟩:=hg x hx;exact List.mem_range.mpr h3
 simpa using this
end K43
end
section
namespace K43
open K1
open PySem L2 STb
def fcov:List (Nat×Nat):=[(15,15),(23,113),(27,402),(29,676),(30,840),(39,7169),(43,25602),(45,43012),(46,53256),(51,197648),(53,329760),(54,397376),(57,598144),(58,672000),(60,819712)]
def cvs:List Nat:=[15,113,402,676,840,7169,25602,43012,53256,197648,329760,397376,598144,672000,819712]
def cv2:List Nat:=[15,113,127,402,415,499,676,687,757,840,847,889,950,986,1004,7169,7183,7281,7571,7845,8009,25602,25615,25715,26002,26278,26442,31747,43012,43023,43125,43414,43684,43852,48133,53256,53263,53369,53658,53932,54088,56329,60422,62474,63500,197648,197663,197745,198034,198324,198488,203793,222226,240660,250904,329760,329775,329841,330162,330404,330600,334881,355362,370724,383016,397376,397391,397425,397778,398052,398152,400449,422978,440388,446536,461872,463952,464992,598144,598159,598257,598418,598692,598984,605313,615554,632964,651400,672000,672015,672113,672146,672584,672676,679169,681218,708872,715012,730256,738576,745856,819712,819727,819825,819876,820040,820114,826881,829956,840200,845314,862368,887328,893568,938304,954944,967424,995520,1001760,1017360]
theorem zka:(six.all fun p=>fcov.any fun e=>p.isSublist (unm e.1))=true:=by decide +kernel
theorem zkA:(fcov.all fun e=>cvs.contains e.2 && (List.range 20).all fun t=>e.2.testBit t || !((unm (trp.getD t 0)).isSublist (unm e.1)))=true:=by decide +kernel
theorem zk3:((List.range 20).all fun t=>trp.contains (trp.getD t 0))=true:=by decide +kernel
theorem zlx:(cvs.all fun a=>cvs.all fun b=>cv2.contains (Nat.lor a b))=true:=by decide +kernel
theorem zlr:(cvs.all fun a=>Nat.blt a 1048576)=true:=by decide +kernel
theorem five:(cv2.all fun a=>cv2.all fun b=>cvs.all fun c=>!(Nat.beq (Nat.lor (Nat.lor a b) c) 1048575))=true:=by decide +kernel
theorem miss {u:Nat} (h:u<1048576) (hn:u≠1048575):∃t,t<20/\u.testBit t=false:=by
 apply Classical.byContradiction;intro hc;have hb:∀t,t<20->u.testBit t=true:=fun t ht=>by
  cases e:u.testBit t with
  | true=>rfl
  | false=>exact absurd ⟨t,ht,e⟩ hc
 refine hn (Nat.eq_of_testBit_eq fun t=>?_);rw[show (1048575:Nat)=2 ^ 20 - 1 from rfl,Nat.testBit_two_pow_sub_one]
 by_cases ht:t<20
 ·rw[hb t ht,decide_eq_true ht]
 ·rw[decide_eq_false ht]
  exact Nat.testBit_lt_two_pow (Nat.lt_of_lt_of_le h (Nat.pow_le_pow_right (n:=2) (i:=20) (by decide) (by omega)))
theorem zgq {a b c d e:Nat} (ha:a∈cvs) (hb:b∈cvs) (hc:c∈cvs) (hd:d∈cvs) (he:e∈cvs):∃t,t<20/\∀x∈[a,b,c,d,e],x.testBit t=false:=by
 have two:∀{x y:Nat},x∈cvs->y∈cvs->(x ||| y)∈cv2:=fun {x y} hx hy=>by
  have:=List.all_eq_true.mp (List.all_eq_true.mp zlx x hx) y hy
  simpa using this
 have lt:∀{x:Nat},x∈cvs->x<2 ^ 20:=fun {x} hx=>by
  have:=List.all_eq_true.mp zlr x hx;exact Nat.blt_eq.mp this
 have h5:=List.all_eq_true.mp (List.all_eq_true.mp (List.all_eq_true.mp five _ (two ha hb)) _ (two hc hd)) e he;have hne:((a ||| b) ||| (c ||| d)) ||| e≠1048575:=fun z=>by
  have:Nat.beq (((a ||| b) ||| (c ||| d)) ||| e) 1048575=true:=by rw[z]; decide
  rw[show Nat.lor (Nat.lor (a ||| b) (c ||| d)) e=((a ||| b) ||| (c ||| d)) ||| e from rfl,this] at h5;cases h5
 obtain⟨t,ht,e0⟩:=miss (Nat.or_lt_two_pow (Nat.or_lt_two_pow (Nat.or_lt_two_pow (lt ha) (lt hb)) (Nat.or_lt_two_pow (lt hc) (lt hd))) (lt he)) hne;refine⟨t,ht,?_⟩;rw[Nat.testBit_or,Nat.testBit_or,Nat.testBit_or,Nat.testBit_or,Bool.or_eq_false_iff,Bool.or_eq_false_iff,Bool.or_eq_false_iff,Bool.or_eq_false_iff] at e0;obtain⟨⟨⟨h1,h2⟩,h3,h4⟩,h6⟩:=e0;simp[h1,h2,h3,h4,h6]
theorem zdy {b:List (List Int)} (hs:Small b) {p:List Int} (hp:p∈b):p∈six/\p.Sublist p6:=by
 obtain⟨h0,h4,hr,hb⟩:=hs.2 p hp;have hsub:p.Sublist p6:=zam _ _ (by decide) ((zaD p).mp hr) fun y hy=>by
  have:=hb y hy;have:y=0 \/ y=1 \/ y=2 \/ y=3 \/ y=4 \/ y=5:=by omega
  rcases this with rfl | rfl | rfl | rfl | rfl | rfl <;> decide
 refine⟨?_,hsub⟩;unfold six;rw[List.mem_filter,zw];exact⟨⟨h0,hsub⟩,decide_eq_true h4⟩
theorem zfA {b:List (List Int)} (h5:b.length<=5) (hs:Small b):∃T∈trp,∀p∈b,¬ (unm T).Sublist p:=by
 have ex:∀p∈b,∃c∈cvs,∀t,t<20->c.testBit t=false->¬ (unm (trp.getD t 0)).Sublist p:=fun p hp=>by
  obtain⟨e,he,h1⟩:=List.any_eq_true.mp (List.all_eq_true.mp zka p (zdy hs hp).1);have h2:=List.all_eq_true.mp zkA e he;rw[Bool.and_eq_true] at h2;refine⟨e.2,by simpa using h2.1,fun t ht e0 hsb=>?_⟩;have h3:=List.all_eq_true.mp h2.2 t (List.mem_range.mpr ht);rw[e0,Bool.false_or] at h3;have:(unm (trp.getD t 0)).isSublist (unm e.1)=true:=List.isSublist_iff_sublist.mpr (hsb.trans (List.isSublist_iff_sublist.mp h1));rw[this] at h3;cases h3
 classical
 let f:Nat->Nat:=fun i=>match h:b[i]? with
  | some p=>(ex p (List.mem_of_getElem? h)).choose
  | none=>15
 have hf:∀i,f i∈cvs:=fun i=>by
  show (match h:b[i]? with | some p=>(ex p (List.mem_of_getElem? h)).choose | none=>15)∈cvs;split
  ·rename_i p h; exact (ex p (List.mem_of_getElem? h)).choose_spec.1
  ·decide
 have hp:∀i p,b[i]?=some p->∀t,t<20->(f i).testBit t=false->¬ (unm (trp.getD t 0)).Sublist p:=fun i p e=>by
  have e1:∃h:p∈b,f i=(ex p h).choose:=by
   refine⟨List.mem_of_getElem? e,?_⟩;show (match h:b[i]? with | some p=>(ex p (List.mem_of_getElem? h)).choose | none=>15)=_;split
   ·rename_i q h
    obtain rfl:q=p:=Option.some.inj (h.symm.trans e)
    rfl
   ·rename_i h; rw[h] at e; cases e
  obtain⟨h,e1⟩:=e1;rw[e1];exact (ex p h).choose_spec.2
 obtain⟨t,ht,hall⟩:=zgq (hf 0) (hf 1) (hf 2) (hf 3) (hf 4);refine⟨trp.getD t 0,by have:=List.all_eq_true.mp zk3 t (List.mem_range.mpr ht); simpa using this,fun p hpb=>?_⟩;obtain⟨i,hi⟩:=List.getElem?_of_mem hpb;have hi5:i<5:=Nat.lt_of_lt_of_le (List.getElem?_eq_some_iff.mp hi).1 h5;refine hp i p hi t ht (hall _ ?_);have:i=0 \/ i=1 \/ i=2 \/ i=3 \/ i=4:=by omega
 rcases this with rfl | rfl | rfl | rfl | rfl <;> simp
theorem zfZ:∀n,n<19->(trp.any fun T=>(known n).all fun b=>!((unm T).isSublist b))=true/\((known n).all fun b=>b.isSublist p6)=true:=by decide +kernel
def k19:List (List Int):=dd ((known 19).flatMap parts)
theorem zkT:(k19.all fun p=>(k19.all fun q=>!decide (p∈rims q)) || k19.any fun q=>k19.any fun r=>!decide (q=r) && decide (p∈rims q) && decide (p∈rims r))=true:=by decide +kernel
theorem zby {first gap:Int}{p q:List Int}:ren first gap p∈rims (ren first gap q) ↔ ∃r∈rims q,ren first gap r=ren first gap p:=by
 rw[zak];unfold ren;rw[List.length_map];constructor
 ·rintro⟨h1,k,hk,e⟩
  refine⟨q.take k++q.drop (k+1),zak.mpr ⟨h1,k,hk,rfl⟩,?_⟩;rw[e,List.map_append,List.map_take,List.map_drop]
 ·rintro⟨r,hr,e⟩
  obtain⟨h1,k,hk,rfl⟩:=zak.mp hr;exact⟨h1,k,hk,by rw[<- e,List.map_append,List.map_take,List.map_drop]⟩
theorem zbB {b pss:List (List Int)}{first gap:Int} (hp:pss.Perm (b.map (ren first gap))) {x:List Int}:x∈canon pss ↔ ∃y r,r∈b/\y≠[]/\y.Sublist r/\x=ren first gap y:=by
 rw[zaf];constructor
 ·rintro⟨h0,t,ht,hs⟩
  obtain⟨r,hr,rfl⟩:=List.mem_map.mp (hp.mem_iff.mp ht);unfold ren at hs;obtain⟨y,hy,rfl⟩:=List.sublist_map_iff.mp hs;exact⟨y,r,hr,fun z=>h0 (by rw[z]; rfl),hy,rfl⟩
 ·rintro⟨y,r,hr,h0,hs,rfl⟩
  exact⟨fun z=>h0 (List.map_eq_nil_iff.mp z),ren first gap r,hp.mem_iff.mpr (List.mem_map.mpr ⟨r,hr,rfl⟩),hs.map _⟩
theorem zf9 {pss:List (List Int)}{first gap:Int} (hg:1<=gap) (hp:pss.Perm ((known 19).map (ren first gap))):fr (canon pss)=[]:=by
 have inK:∀{x:List Int},x∈canon pss ↔ ∃y∈k19,x=ren first gap y:=fun {x}=>by
  rw[zbB hp];constructor
  ·rintro⟨y,r,hr,h0,hs,rfl⟩
   exact⟨y,by unfold k19; rw[zaC,List.mem_flatMap]; exact⟨r,hr,zw.mpr ⟨h0,hs⟩⟩,rfl⟩
  ·rintro⟨y,hy,rfl⟩
   unfold k19 at hy;rw[zaC,List.mem_flatMap] at hy;obtain⟨r,hr,hm⟩:=hy;obtain⟨h0,hs⟩:=zw.mp hm;exact⟨y,r,hr,h0,hs,rfl⟩
 unfold fr zaZ;rw[List.map_eq_nil_iff,List.filter_eq_nil_iff];intro p hpc h1;have h1:=of_decide_eq_true h1;obtain⟨p0,hp0,rfl⟩:=inK.mp hpc;obtain⟨q,eq⟩:∃q,cof (ovS (canon pss)) (ren first gap p0)=[q]:=by
  match hc:cof (ovS (canon pss)) (ren first gap p0),h1 with
  | [q],_=>exact⟨q,rfl⟩
 have h2:=List.all_eq_true.mp zkT p0 hp0;rw[Bool.or_eq_true] at h2;have back:∀{q0:List Int},ren first gap p0∈rims (ren first gap q0)->p0∈rims q0:=fun {q0} h=>by
  obtain⟨r,hr,e⟩:=zby.mp h;rw[<- zbj hg e]; exact hr
 rcases h2 with h2 | h2
 ·obtain⟨hq,hm⟩:=zaL.mp (show q∈cof (ovS (canon pss)) (ren first gap p0) by rw[eq]; exact List.mem_cons_self)
  obtain⟨q0,hq0,rfl⟩:=inK.mp hq;have:=List.all_eq_true.mp h2 q0 hq0;rw[decide_eq_true (back hm)] at this;cases this
 ·obtain⟨q1,hq1,h3⟩:=List.any_eq_true.mp h2
  obtain⟨q2,hq2,h4⟩:=List.any_eq_true.mp h3;rw[Bool.and_eq_true,Bool.and_eq_true] at h4;obtain⟨⟨n1,n2⟩,n3⟩:=h4;have n2:=of_decide_eq_true n2;have n3:=of_decide_eq_true n3;have m1:ren first gap q1∈cof (ovS (canon pss)) (ren first gap p0):=zaL.mpr ⟨inK.mpr ⟨q1,hq1,rfl⟩,zby.mpr ⟨p0,n2,rfl⟩⟩;have m2:ren first gap q2∈cof (ovS (canon pss)) (ren first gap p0):=zaL.mpr ⟨inK.mpr ⟨q2,hq2,rfl⟩,zby.mpr ⟨p0,n3,rfl⟩⟩;rw[eq] at m1 m2;have e1:ren first gap q1=q:=by simpa using m1
  have e2:ren first gap q2=q:=by simpa using m2
  have:=zbj hg (e1.trans e2.symm);simp[this] at n1
theorem pull {α β:Type}{f:α->β}{P:α->Prop}:∀{l:List β},(∀x∈l,∃y,P y/\f y=x)->∃l0:List α,l0.map f=l/\∀y∈l0,P y
 | [],_=>⟨[],rfl,fun y hy=>by cases hy⟩
 | x::l,h=>by
  obtain⟨y,hy,e⟩:=h x List.mem_cons_self;obtain⟨l0,e0,h0⟩:=pull (l:=l) fun x hx=>h x (List.mem_cons_of_mem _ hx);refine⟨y::l0,by rw[List.map_cons,e,e0],fun z hz=>?_⟩;rcases List.mem_cons.mp hz with e | hz
  ·rw[e]; exact hy
  ·exact h0 z hz
theorem ze5 {b pss M:List (List Int)}{first gap:Int} (hg:1<=gap) (hp:pss.Perm (b.map (ren first gap))) (h6:∀p∈b,p.Sublist p6) {T:Nat} (hT:T∈trp) (hm:∀p∈b,¬ (unm T).Sublist p) (hM:M.Sublist (canon pss)):(tops M).length<=19:=by
 obtain⟨A,eA,hA⟩:=pull (f:=ren first gap) (P:=fun y=>y∈parts p6/\y≠unm T) (l:=tops M) fun x hx=>by
  have hxM:=(List.mem_filter.mp hx).1;obtain⟨y,r,hr,h0,hs,rfl⟩:=(zbB hp).mp (hM.subset hxM);exact⟨y,⟨zw.mpr ⟨h0,hs.trans (h6 r hr)⟩,fun e=>hm r hr (e ▸ hs)⟩,rfl⟩
 have nd:(tops M).Nodup:=(hM.nodup (zZ pss)).filter _;rw[<- eA] at nd;have ndA:A.Nodup:=by
  unfold List.Nodup at nd ⊢;rw[List.pairwise_map] at nd;exact nd.imp fun {x y} h e=>h (by rw[e])
 have:=anti19 ndA (fun x hx=>(hA x hx).1) (fun x hx y hy hs=>?_) hT (fun h=>(hA _ h).2 rfl)
 ·rw[<- eA,List.length_map]; exact this
 ·have mx:ren first gap x∈tops M:=by rw[<- eA]; exact List.mem_map.mpr ⟨x,hx,rfl⟩
  have my:ren first gap y∈tops M:=by rw[<- eA]; exact List.mem_map.mpr ⟨y,hy,rfl⟩
  exact zbj hg (zkk mx (List.mem_filter.mp my).1 (hs.map _))
theorem tops19 {pss M:List (List Int)}{zs:List Pp} (d:Drawn pss) (h:run (canon pss) zs=some M):(tops M).length<=19:=by
 obtain⟨hw,_,h17⟩:=zdv d;have hM:=(zbP (Cl.of hw) h).2;obtain⟨b,first,gap,hb,_,_,hg,_,hp⟩:=d;rcases hb with ⟨n,hn,rfl⟩ | ⟨h5,hs⟩
 ·by_cases h19:n=19
  ·subst h19
   rw[zhu h (zf9 hg hp)];have:=zif pss;omega
  ·obtain⟨h1,h2⟩:=zfZ n (by omega)
   obtain⟨T,hT,h3⟩:=List.any_eq_true.mp h1;refine ze5 hg hp (fun p hp=>List.isSublist_iff_sublist.mp (List.all_eq_true.mp h2 p hp)) hT (fun p hp hs=>?_) hM;have:=List.all_eq_true.mp h3 p hp;rw[List.isSublist_iff_sublist.mpr hs] at this;cases this
 ·obtain⟨T,hT,h3⟩:=zfA h5 hs
  exact ze5 hg hp (fun p hp=>(zdy hs hp).2) hT h3 hM
end K43
end
section
namespace K43
open K1
open PySem L2 STb
def gM:Nat->List (List Int)->List (List Int)
 | 0,L=>L
 | n+1,L=>match fr L with
  | []=>L
  | z::_=>gM n (rem L z)
theorem zeL:∀(n m:Nat) (L:List (List Int)),L.length<=n->L.length<=m->gM n L=gM m L
 | 0,m,L,h,_=>by
  rw[List.eq_nil_of_length_eq_zero (Nat.le_zero.mp h)];cases m <;> rfl
 | n+1,0,L,_,h=>by
  rw[List.eq_nil_of_length_eq_zero (Nat.le_zero.mp h)]
  rfl
 | n+1,m+1,L,hn,hm=>by
  rw[gM,gM];cases e:fr L with
  | nil=>rfl
  | cons z r=>
   have:=zgm (L:=L) (z:=z) (by rw[e]; exact List.mem_cons_self);exact zeL n m (rem L z) (by omega) (by omega)
theorem zjK {L:List (List Int)}{z:Pp}{r:List Pp} (e:fr L=z::r):gM L.length L=gM (rem L z).length (rem L z):=by
 have hlt:=zgm (L:=L) (z:=z) (by rw[e]; exact List.mem_cons_self);obtain⟨n,hn⟩:∃n,L.length=n+1:=⟨L.length - 1,by omega⟩;rw[hn,gM,e];exact zeL n _ _ (by omega) (Nat.le_refl _)
theorem zhx {L:List (List Int)} (e:fr L=[]) (n:Nat):gM n L=L:=by
 cases n with
 | zero=>rfl
 | succ n=>rw[gM,e]
theorem zjd {p:List Int}:∀{L:List (List Int)},(∀q∈L,(rims q).Nodup)->cof (ovS L) p=L.filter fun q=>decide (p∈rims q)
 | [],_=>rfl
 | q::L,h=>by
  have ih:=zjd (p:=p) (L:=L) fun q hq=>h q (List.mem_cons_of_mem _ hq);have hq:=h q List.mem_cons_self;have e0:ovS (q::L)=((rims q).map fun r=>(r,q))++ovS L:=by unfold ovS; rw[List.flatMap_cons]
  have e1:cof (ovS (q::L)) p=cof ((rims q).map fun r=>(r,q)) p++cof (ovS L) p:=by rw[e0]; unfold cof; rw[List.filter_append,List.map_append]
  have go:∀{l:List (List Int)},l.Nodup->cof (l.map fun r=>(r,q)) p=if p∈l then [q] else []:=by
   intro l
   induction l with
   | nil=>intro _; rfl
   | cons a l ih2=>
    intro hn;rw[List.nodup_cons] at hn;have:=ih2 hn.2;unfold cof at this ⊢;rw[List.map_cons,List.filter_cons]
    by_cases e:a=p
    ·have:cof (l.map fun r=>(r,q)) p=[]:=by rw[ih2 hn.2,if_neg (by rw[<- e]; exact hn.1)]
     unfold cof at this;simp only[e,decide_true,if_true,List.map_cons,this,List.mem_cons,true_or]
    ·simp only[e,decide_false,Bool.false_eq_true,if_false]
     rw[this];simp only[List.mem_cons,fun z:p=a=>e z.symm,false_or];simp[Ne.symm e]
  rw[e1,ih,go hq,List.filter_cons]
  by_cases e:p∈rims q
  ·simp[e]
  ·simp[e]
def sel {α:Type}:List α->Nat->List α
 | [],_=>[]
 | x::U,S=>if S % 2=1 then x::sel U (S / 2) else sel U (S / 2)
def mk {α:Type} (P:α->Bool):List α->Nat
 | []=>0
 | x::U=>2*mk P U+if P x=true then 1 else 0
theorem zdr (a b:Nat):(a &&& b) % 2=1 ↔ a % 2=1/\b % 2=1:=by
 have h:=Nat.testBit_and a b 0;simp only[Nat.testBit_zero] at h;have:decide ((a &&& b) % 2=1)=(decide (a % 2=1) && decide (b % 2=1)):=h;rw[<- decide_eq_true_eq (p:=(a &&& b) % 2=1),this,Bool.and_eq_true,decide_eq_true_eq,decide_eq_true_eq]
theorem ziI (a b:Nat):(a &&& b) / 2=(a / 2) &&& (b / 2):=by
 refine Nat.eq_of_testBit_eq fun i=>?_;rw[<- Nat.testBit_succ,Nat.testBit_and,Nat.testBit_and,Nat.testBit_succ,Nat.testBit_succ]
theorem zbD {α:Type} (P:α->Bool):∀(U:List α) (S:Nat),(sel U S).filter P=sel U (S &&& mk P U)
 | [],_=>rfl
 | x::U,S=>by
  have e1:(mk P (x::U)) / 2=mk P U:=by rw[mk]; split <;> omega
  have e2:(mk P (x::U)) % 2=1 ↔ P x=true:=by
   rw[mk];split
   ·rename_i h; exact⟨fun _=>h,fun _=>by omega⟩
   ·rename_i h; exact⟨fun z=>by omega,fun z=>absurd z h⟩
  rw[sel,sel,ziI,e1,<- zbD P U]
  by_cases h1:S % 2=1
  ·rw[if_pos h1,List.filter_cons]
   by_cases h2:P x=true
   ·rw[if_pos h2,if_pos ((zdr _ _).mpr ⟨h1,e2.mpr h2⟩)]
   ·rw[if_neg h2,if_neg fun z=>h2 (e2.mp ((zdr _ _).mp z).2)]
  ·rw[if_neg h1,if_neg fun z=>h1 ((zdr _ _).mp z).1]
theorem zc5 {α:Type}:∀U:List α,sel U 0=[]
 | []=>rfl
 | x::U=>by rw[sel,if_neg (by decide)]; exact zc5 U
theorem zen {α:Type}:∀{U:List α}{j:Nat}{x:α},U[j]?=some x->sel U (2 ^ j)=[x]
 | [],_,_,h=>by cases h
 | y::U,0,x,h=>by
  have:y=x:=by simpa using h
  subst this;rw[sel,if_pos (by decide)];show y::sel U 0=_;rw[zc5]
 | y::U,j+1,x,h=>by
  have e:2 ^ (j+1) / 2=2 ^ j:=by rw[Nat.pow_succ]; omega
  have e2:¬ 2 ^ (j+1) % 2=1:=by rw[Nat.pow_succ]; omega
  rw[sel,if_neg e2,e];exact zen (by simpa using h)
theorem zde {α:Type}:∀{U:List α}{T:Nat},T<2 ^ U.length->sel U T=[]->T=0
 | [],T,h,_=>by simpa using h
 | x::U,T,h,e=>by
  rw[sel] at e
  by_cases h1:T % 2=1
  ·rw[if_pos h1] at e; cases e
  ·rw[if_neg h1] at e
   rw[List.length_cons,Nat.pow_succ] at h;have:=zde (T:=T / 2) (by omega) e;omega
theorem zcK {α:Type}:∀{U:List α}{T:Nat},T<2 ^ U.length->(sel U T).length=1->∃j,T=2 ^ j
 | [],T,_,e=>by cases e
 | x::U,T,h,e=>by
  rw[sel] at e;rw[List.length_cons,Nat.pow_succ] at h
  by_cases h1:T % 2=1
  ·rw[if_pos h1,List.length_cons] at e
   have:=zde (U:=U) (T:=T / 2) (by omega) (List.eq_nil_of_length_eq_zero (by omega));exact⟨0,by omega⟩
  ·rw[if_neg h1] at e
   obtain⟨j,hj⟩:=zcK (T:=T / 2) (by omega) e;exact⟨j+1,by rw[Nat.pow_succ]; omega⟩
theorem ziZ {α:Type} (P:α->Bool):∀{U:List α}{i:Nat}{x:α},U[i]?=some x->(mk P U).testBit i=P x
 | [],_,_,h=>by cases h
 | y::U,0,x,h=>by
  have:y=x:=by simpa using h
  subst this;rw[Nat.testBit_zero,mk];cases e:P y
  ·simp
  ·simp
 | y::U,i+1,x,h=>by
  have e1:(mk P (y::U)) / 2=mk P U:=by rw[mk]; split <;> omega
  rw[Nat.testBit_succ,e1];exact ziZ P (by simpa using h)
theorem zei {α:Type}:∀{U:List α}{S:Nat}{x:α},x∈sel U S ↔ ∃i,U[i]?=some x/\S.testBit i=true
 | [],S,x=>by simp[sel]
 | y::U,S,x=>by
  have ih:=zei (U:=U) (S:=S / 2) (x:=x);rw[sel];constructor
  ·intro h
   have h':(S % 2=1/\x=y) \/ x∈sel U (S / 2):=by
    by_cases h1:S % 2=1
    ·rw[if_pos h1] at h
     rcases List.mem_cons.mp h with e | e
     ·exact .inl ⟨h1,e⟩
     ·exact .inr e
    ·rw[if_neg h1] at h; exact .inr h
   rcases h' with ⟨h1,rfl⟩ | h'
   ·exact⟨0,rfl,by rw[Nat.testBit_zero]; exact decide_eq_true h1⟩
   ·obtain⟨i,e1,e2⟩:=ih.mp h'
    exact⟨i+1,by simpa using e1,by rw[Nat.testBit_succ]; exact e2⟩
  ·rintro⟨i,e1,e2⟩
   cases i with
   | zero=>
    rw[Nat.testBit_zero] at e2;rw[if_pos (of_decide_eq_true e2)];have:y=x:=by simpa using e1
    rw[this]; exact List.mem_cons_self
   | succ i=>
    have:=ih.mpr ⟨i,by simpa using e1,by rw[Nat.testBit_succ] at e2; exact e2⟩;split
    ·exact List.mem_cons_of_mem _ this
    ·exact this
theorem zdu {α:Type} (P:α->Bool):∀{U:List α}{S a:Nat}{x:α},U[a]?=some x->S.testBit a=true->P x=true->(∀k y,k<a->U[k]?=some y->¬ (S.testBit k=true/\P y=true))->∃r,(sel U S).filter P=x::r
 | [],_,_,_,h,_,_,_=>by cases h
 | y::U,S,0,x,h,hs,hp,_=>by
  have:y=x:=by simpa using h
  subst this;rw[Nat.testBit_zero] at hs;rw[sel,if_pos (of_decide_eq_true hs),List.filter_cons,if_pos hp];exact⟨_,rfl⟩
 | y::U,S,a+1,x,h,hs,hp,hn=>by
  have h0:=hn 0 y (by omega) rfl;rw[Nat.testBit_zero] at h0;rw[Nat.testBit_succ] at hs;obtain⟨r,e⟩:=zdu P (U:=U) (S:=S / 2) (a:=a) (x:=x) (by simpa using h) hs hp fun k z hk ez=>by
   have:=hn (k+1) z (by omega) (by simpa using ez);rw[Nat.testBit_succ] at this;exact this
  rw[sel]
  by_cases h1:S % 2=1
  ·rw[if_pos h1,List.filter_cons,if_neg fun z=>h0 ⟨decide_eq_true h1,z⟩]
   exact⟨r,e⟩
  ·rw[if_neg h1]; exact⟨r,e⟩
def one (T:Nat):Bool:=T == 2 ^ T.log2
theorem zjz {T:Nat}:one T=true ↔ ∃j,T=2 ^ j:=by
 unfold one;constructor
 ·intro h; exact⟨T.log2,by simpa using h⟩
 ·rintro⟨j,rfl⟩
  rw[Nat.log2_two_pow];simp
def ff:List Nat->Nat->Nat->Option (Nat×Nat)
 | [],_,_=>none
 | c::cs,i,S=>if (S.testBit i && one (S &&& c))=true then some (i,(S &&& c).log2) else ff cs (i+1) S
def gB (Cs:List Nat):Nat->Nat->Nat
 | 0,S=>S
 | n+1,S=>match ff Cs 0 S with
  | none=>S
  | some (i,j)=>gB Cs n ((S ^^^ 2 ^ i) ^^^ 2 ^ j)
theorem zhj:∀{cs:List Nat}{i S:Nat},ff cs i S=none->∀k c,cs[k]?=some c->¬ (S.testBit (i+k)=true/\one (S &&& c)=true)
 | [],_,_,_,_,_,h=>by cases h
 | c::cs,i,S,h,k,d,e=>by
  rw[ff] at h
  by_cases hc:(S.testBit i && one (S &&& c))=true
  ·rw[if_pos hc] at h; cases h
  ·rw[if_neg hc] at h
   cases k with
   | zero=>
    have:c=d:=by simpa using e
    subst this;rw[Bool.and_eq_true] at hc;exact hc
   | succ k=>
    have:=zhj h k d (by simpa using e);rw[show i+(k+1)=i+1+k by omega];exact this
theorem zhw:∀{cs:List Nat}{i S a j:Nat},ff cs i S=some (a,j)->∃k c,a=i+k/\cs[k]?=some c/\S.testBit a=true/\S &&& c=2 ^ j/\∀m d,m<k->cs[m]?=some d->¬ (S.testBit (i+m)=true/\one (S &&& d)=true)
 | [],_,_,_,_,h=>by cases h
 | c::cs,i,S,a,j,h=>by
  rw[ff] at h
  by_cases hc:(S.testBit i && one (S &&& c))=true
  ·rw[if_pos hc] at h
   rw[Bool.and_eq_true] at hc;injection h with h
   injection h with h1 h2
   subst h1; subst h2;refine⟨0,c,rfl,rfl,hc.1,?_,fun m d hm=>absurd hm (Nat.not_lt_zero _)⟩;have:=hc.2;unfold one at this
   simpa using this
  ·rw[if_neg hc] at h
   obtain⟨k,d,e1,e2,e3,e4,e5⟩:=zhw h;refine⟨k+1,d,by omega,by simpa using e2,e3,e4,fun m d' hm ed=>?_⟩;cases m with
   | zero=>
    have:c=d':=by simpa using ed
    subst this;rw[Bool.and_eq_true] at hc;exact hc
   | succ m=>
    have:=e5 m d' (by omega) (by simpa using ed);rw[show i+(m+1)=i+1+m by omega];exact this
end K43
end
section
namespace K43
open K1
open PySem L2 STb
def cnt:List Bool->Nat->Nat
 | [],_=>0
 | b::bs,S=>(if (decide (S % 2=1) && b)=true then 1 else 0)+cnt bs (S / 2)
def lw (many size:Nat) (ring:Bool):List (List Int):=((List.range many).map fun k:Nat=>(List.range size).map fun j:Nat=>((k:Int)+(j:Int)))++if ring=true then [[0,(many:Int)+size - 2]] else []
def ofs (size m:Nat):List (List Nat):=match m with
 | 1=>[[0]]
 | 2=>if size=3 then [[0,1],[0,2]] else [[0,1],[0,2],[0,3]]
 | 3=>if size=3 then [[0,1,2]] else [[0,1,2],[0,1,3],[0,2,3]]
 | _=>if size=3 then [] else [[0,1,2,3]]
def lvl (n:Nat) (os:List (List Nat)):List (List Int):=(List.range n).flatMap fun i=>(os.filter fun o=>Nat.blt (i+o.getLastD 0) n).map fun o=>o.map fun x=>((i+x:Nat):Int)
def un (n size:Nat) (ring:Bool):List (List Int):=lvl n (ofs size 1)++((if ring=true then (lvl n (ofs size 2)).take (size - 1)++[0,(n:Int) - 1]::(lvl n (ofs size 2)).drop (size - 1) else lvl n (ofs size 2))++(lvl n (ofs size 3)++lvl n (ofs size 4)))
def srt:List (List Int)->Bool
 | []=>true
 | [_]=>true
 | a::b::r=>(kle a b && !decide (a=b)) && srt (b::r)
def csO (U:List (List Int)):List Nat:=U.map fun p=>mk (fun q=>Nat.beq (p.length+1) q.length && decide (p∈rims q)) U
def chkA (many size:Nat) (ring:Bool):Bool:=srt (un (many+size - 1) size ring) && ((lw many size ring).all fun t=>(parts t).all fun x=>decide (x∈un (many+size - 1) size ring)) && ((un (many+size - 1) size ring).all fun x=>!(decide (x=[])) && (lw many size ring).any fun t=>x.isSublist t) && Nat.blt (un (many+size - 1) size ring).length 200
def tcB (Cs:List Nat) (S:Nat):Bool:=Nat.ble (cnt (Cs.map fun c=>Nat.beq (S &&& c) 0) S) 20
def chkB (many size:Nat) (ring:Bool):Bool:=tcB (csO (un (many+size - 1) size ring)) (gB (csO (un (many+size - 1) size ring)) 200 (2 ^ (un (many+size - 1) size ring).length - 1))
end K43
end
section
namespace K43
open K1
open PySem L2 STb
theorem zi3 {α:Type}{l:List α} (h:l.Nodup) {i j:Nat}{hi:i<l.length}{hj:j<l.length} (e:l[i]=l[j]):i=j:=by
 rcases Nat.lt_trichotomy i j with g | g | g
 ·exact absurd e (List.pairwise_iff_getElem.mp h i j hi hj g)
 ·exact g
 ·exact absurd e.symm (List.pairwise_iff_getElem.mp h j i hj hi g)
theorem zkl {q:List Int} (hq:q.Nodup):(rims q).Nodup:=by
 unfold rims;split
 ·exact List.nodup_nil
 ·unfold List.Nodup
  rw[List.pairwise_map];refine List.Pairwise.imp_of_mem (R:=fun a b:Nat=>a<b) (fun {a b} ha hb hlt e=>?_) List.pairwise_lt_range;rw[List.mem_range] at ha hb;rw[<- zbz hq ha,<- zbz hq hb] at e;have n1:q[a]∉q.erase q[a]:=by rw[hq.mem_erase_iff]; exact fun z=>z.1 rfl
  refine n1 (e ▸ (hq.mem_erase_iff.mpr ⟨fun z=>?_,List.getElem_mem ha⟩));have:=zi3 hq z;omega
theorem zgR {p q:List Int} (h:p∈rims q):p.length+1=q.length:=by
 obtain⟨_,k,hk,rfl⟩:=zak.mp h;rw[List.length_append,List.length_take,List.length_drop];omega
def cm (U:List (List Int)) (p:List Int):Nat:=mk (fun q=>decide (p∈rims q)) U
theorem zcL (U:List (List Int)):csO U=U.map (cm U):=by
 unfold csO cm;refine List.map_congr_left fun p _=>?_
 congr 1
 funext q
 by_cases h:p∈rims q
 ·rw[decide_eq_true h,zgR h,Bool.and_true]; exact Nat.beq_refl _
 ·rw[decide_eq_false h,Bool.and_false]
theorem zcl {S c n:Nat} (h:S<2 ^ n):S &&& c<2 ^ n:=Nat.lt_of_le_of_lt Nat.and_le_left h
theorem two_lt {j n:Nat} (h:2 ^ j<2 ^ n):j<n:=(Nat.pow_lt_pow_iff_right (by decide)).mp h
theorem zho {U:List (List Int)}{T:Nat} (h:T<2 ^ U.length):(sel U T).length=1 ↔ one T=true:=by
 rw[zjz];constructor
 ·exact zcK h
 ·rintro⟨j,rfl⟩
  have:=two_lt h;rw[zen (List.getElem?_eq_getElem this)]; rfl
theorem zci {U:List (List Int)} (hr:∀q∈U,(rims q).Nodup) (S:Nat) (p:List Int):cof (ovS (sel U S)) p=sel U (S &&& cm U p):=by
 have hm:∀q∈sel U S,(rims q).Nodup:=fun q hq=>by
  obtain⟨i,e,_⟩:=zei.mp hq;exact hr q (List.mem_of_getElem? e)
 rw[zjd hm,zbD]
 rfl
theorem zls {U:List (List Int)} (hU:U.Nodup) (hr:∀q∈U,(rims q).Nodup):∀(n S:Nat),S<2 ^ U.length->gM n (sel U S)=sel U (gB (csO U) n S)/\gB (csO U) n S<2 ^ U.length
 | 0,S,h=>⟨rfl,h⟩
 | n+1,S,h=>by
  rw[gB];cases e:ff (csO U) 0 S with
  | none=>
   have hn:=zhj e;refine⟨zhx ?_ _,h⟩;unfold fr zaZ;rw[List.map_eq_nil_iff,List.filter_eq_nil_iff];intro p hp h1;have h1:=of_decide_eq_true h1;obtain⟨i,e1,e2⟩:=zei.mp hp;rw[zci hr,zho (zcl h)] at h1;refine hn i (cm U p) (by rw[zcL,List.getElem?_map,e1]; rfl) ⟨by rw[Nat.zero_add]; exact e2,h1⟩
  | some x=>
   obtain⟨a,j⟩:=x;obtain⟨k,c,ha,ec,hs,hj,hf⟩:=zhw e;rw[Nat.zero_add] at ha;obtain rfl:k=a:=ha.symm;rw[zcL,List.getElem?_map] at ec;obtain⟨p,ep,rfl⟩:=Option.map_eq_some_iff.mp ec;have hjl:j<U.length:=two_lt (by rw[<- hj]; exact zcl h);have eq:=List.getElem?_eq_getElem hjl;generalize U[j]=q at eq;have hc:cof (ovS (sel U S)) p=[q]:=by rw[zci hr,hj,zen eq]
   have hpq:p∈rims q:=(zaL.mp (show q∈cof (ovS (sel U S)) p by rw[hc]; exact List.mem_cons_self)).2;obtain⟨r,er⟩:=zdu (fun p=>decide ((cof (ovS (sel U S)) p).length=1)) ep hs (by rw[hc]; rfl) fun m y hm ey z=>by
    have z2:=of_decide_eq_true z.2;rw[zci hr,zho (zcl h)] at z2;refine hf m (cm U y) hm (by rw[zcL,List.getElem?_map,ey]; rfl) ⟨by rw[Nat.zero_add]; exact z.1,z2⟩
   have efr:fr (sel U S)=(p,q)::r.map (frP (ovS (sel U S))):=by
    unfold fr zaZ;rw[er,List.map_cons];unfold frP;rw[hc]; rfl
   have hsj:S.testBit j=true:=by
    have:(S &&& cm U p).testBit j=true:=by rw[hj,Nat.testBit_two_pow_self]
    rw[Nat.testBit_and,Bool.and_eq_true] at this;exact this.1
   have eS:(S ^^^ 2 ^ k) ^^^ 2 ^ j=S &&& mk (fun x=>!decide (x=p \/ x=q)) U:=by
    refine Nat.eq_of_testBit_eq fun i=>?_;rw[Nat.testBit_xor,Nat.testBit_xor,Nat.testBit_and,Nat.testBit_two_pow,Nat.testBit_two_pow];have hkj:k≠j:=fun z=>by
     subst z;rw[ep] at eq;have:=zgR hpq;rw[Option.some.inj eq] at this;omega
    have inj:∀{i m:Nat} {x:List Int},U[i]?=some x->U[m]?=some x->i=m:=fun {i m x} h1 h2=>by
     obtain⟨l1,g1⟩:=List.getElem?_eq_some_iff.mp h1;obtain⟨l2,g2⟩:=List.getElem?_eq_some_iff.mp h2;exact zi3 hU (g1.trans g2.symm)
    by_cases hi:i<U.length
    ·have ei:=List.getElem?_eq_getElem hi
     rw[ziZ _ ei]
     by_cases h1:k=i
     ·subst h1
      rw[ei] at ep;rw[hs,decide_eq_true rfl,decide_eq_false (fun z=>hkj z.symm),decide_eq_true (.inl (Option.some.inj ep))]; rfl
     ·by_cases h2:j=i
      ·subst h2
       rw[ei] at eq;rw[hsj,decide_eq_true rfl,decide_eq_false h1,decide_eq_true (.inr (Option.some.inj eq))]; rfl
      ·rw[decide_eq_false h1,decide_eq_false h2,decide_eq_false fun z=>?_]
       ·simp
       ·rcases z with z | z
        ·rw[z] at ei; exact h1 (inj ep ei)
        ·rw[z] at ei; exact h2 (inj eq ei)
    ·have hS:S.testBit i=false:=Nat.testBit_lt_two_pow (Nat.lt_of_lt_of_le h (Nat.pow_le_pow_right (by decide) (by omega)))
     have:k<U.length:=(List.getElem?_eq_some_iff.mp ep).1;rw[hS,decide_eq_false (show ¬ k=i by omega),decide_eq_false (show ¬ j=i by omega)]; rfl
   have erem:rem (sel U S) (p,q)=sel U ((S ^^^ 2 ^ k) ^^^ 2 ^ j):=by
    rw[eS,<- zbD]; rfl
   have:=zls hU hr n ((S ^^^ 2 ^ k) ^^^ 2 ^ j) (by rw[eS]; exact zcl h);refine⟨?_,this.2⟩;rw[gM,efr];show gM n (rem (sel U S) (p,q))=_;rw[erem];exact this.1
theorem zhp {α:Type} (P:α->Bool):∀(U:List α) (S:Nat),((sel U S).filter P).length=cnt (U.map P) S
 | [],S=>rfl
 | x::U,S=>by
  have ih:=zhp P U (S / 2);rw[sel,List.map_cons,cnt]
  by_cases h1:S % 2=1
  ·rw[if_pos h1,List.filter_cons,decide_eq_true h1,Bool.true_and]
   by_cases h2:P x=true
   ·rw[if_pos h2,if_pos h2,List.length_cons,ih]; omega
   ·rw[if_neg h2,if_neg h2,ih]; omega
  ·rw[if_neg h1,decide_eq_false h1,Bool.false_and,ih,if_neg (by decide)]; omega
theorem zgM {α:Type}:∀U:List α,sel U (2 ^ U.length - 1)=U
 | []=>rfl
 | x::U=>by
  have:=Nat.pow_pos (n:=U.length) (show 0<2 by decide);rw[sel,List.length_cons,Nat.pow_succ,if_pos (by omega),show (2 ^ U.length*2 - 1) / 2=2 ^ U.length - 1 by omega,zgM U]
theorem zhL {U:List (List Int)} (hU:U.Nodup) (hr:∀q∈U,(rims q).Nodup) {n:Nat} (h:tcB (csO U) (gB (csO U) n (2 ^ U.length - 1))=true) (hc:Cl (gM n U)):(tops (gM n U)).length<=20:=by
 have hlt:2 ^ U.length - 1<2 ^ U.length:=by
  have:=Nat.pow_pos (n:=U.length) (show 0<2 by decide);omega
 obtain⟨e,hb⟩:=zls hU hr n _ hlt;rw[zgM] at e;rw[<- hc.tops,e];generalize gB (csO U) n (2 ^ U.length - 1)=S at h hb;unfold tcB at h;have h:=Nat.le_of_ble_eq_true h;rw[zhp];refine Nat.le_trans (Nat.le_of_eq ?_) h;rw[zcL,List.map_map]
 congr 1
 refine List.map_congr_left fun p hp=>?_;show (!decide (p∈(sel U S).flatMap rims))=Nat.beq (S &&& cm U p) 0;have hz:p∈(sel U S).flatMap rims ↔ S &&& cm U p≠0:=by
  constructor
  ·intro h z
   obtain⟨q,hq,hm⟩:=List.mem_flatMap.mp h;have:q∈cof (ovS (sel U S)) p:=zaL.mpr ⟨hq,hm⟩;rw[zci hr,z,zc5] at this;cases this
  ·intro hne
   cases hs:sel U (S &&& cm U p) with
   | nil=>exact absurd (zde (zcl hb) hs) hne
   | cons q r=>
    have:q∈cof (ovS (sel U S)) p:=by rw[zci hr,hs]; exact List.mem_cons_self
    obtain⟨h1,h2⟩:=zaL.mp this;exact List.mem_flatMap.mpr ⟨q,h1,h2⟩
 by_cases e:S &&& cm U p=0
 ·rw[decide_eq_false fun z=>hz.mp z e,e]; rfl
 ·rw[decide_eq_true (hz.mpr e)]
  cases e2:Nat.beq (S &&& cm U p) 0 with
  | false=>rfl
  | true=>exact absurd (Nat.eq_of_beq_eq_true e2) e
theorem zjf {α β:Type} (f:α->β) (P:β->Bool):∀U:List α,mk P (U.map f)=mk (fun x=>P (f x)) U
 | []=>rfl
 | x::U=>by rw[List.map_cons,mk,mk,zjf f P U]
theorem zjl (U:List (List Int)) (first:Int):csO (U.map (ren first 1))=csO U:=by
 rw[zcL,zcL,List.map_map];refine List.map_congr_left fun p _=>?_;show cm _ (ren first 1 p)=_;unfold cm;rw[zjf]
 congr 1
 funext q
 refine decide_eq_decide.mpr ⟨fun h=>?_,fun h=>zby.mpr ⟨p,h,rfl⟩⟩;obtain⟨r,hr,e⟩:=zby.mp h;rw[<- zbj (by decide) e]; exact hr
end K43
end
section
namespace K43
open K1
open PySem L2 STb
theorem zgb (f:Int):∀a b:List Int,HT.lexLt (a.map fun x=>f+1*x) (b.map fun x=>f+1*x)=HT.lexLt a b
 | [],[]=>rfl
 | [],_::_=>rfl
 | _::_,[]=>rfl
 | x::a,y::b=>by
  have ih:=zgb f a b;simp only[List.map_cons,HT.lexLt];rw[ih]
  by_cases e:x=y
  ·rw[if_pos e,if_pos (by rw[e])]
  ·rw[if_neg e,if_neg (by omega)]
   exact decide_eq_decide.mpr (by omega)
theorem zjw (f:Int) (a b:List Int):kle (ren f 1 a) (ren f 1 b)=kle a b:=by
 have h:=zgb f b a;unfold kle key ren;simp only[HT.lexLt,List.length_map];rw[h]
theorem ziS:∀{U:List (List Int)},srt U=true->U.Pairwise fun a b=>kle a b=true/\a≠b
 | [],_=>List.Pairwise.nil
 | [_],_=>List.pairwise_singleton _ _
 | a::b::r,h=>by
  rw[srt,Bool.and_eq_true,Bool.and_eq_true] at h;have ih:=ziS h.2;have hab:kle a b=true/\a≠b:=⟨h.1.1,by simpa using h.1.2⟩;refine List.pairwise_cons.mpr ⟨fun c hc=>?_,ih⟩;rcases List.mem_cons.mp hc with rfl | hc
  ·exact hab
  ·have hbc:=(List.pairwise_cons.mp ih).1 c hc
   obtain⟨g1,n1⟩:=hab;obtain⟨g2,n2⟩:=hbc;rw[zaV] at g1 g2;refine⟨zaV.mpr (zat _ _ _ g1 g2),fun z=>n2 ?_⟩;subst z;have:=zdf _ _ g1 g2;unfold key at this;exact (List.cons.inj this).2
def shapes:List (Nat×Nat×Bool):=(List.range 10).flatMap fun m=>[(m+8,3,true),(m+8,3,false),(m+8,4,true),(m+8,4,false)]
theorem allA:(shapes.all fun s=>chkA s.1 s.2.1 s.2.2)=true:=by decide +kernel
theorem allB:(shapes.all fun s=>chkB s.1 s.2.1 s.2.2)=true:=by decide +kernel
theorem allC:(shapes.all fun s=>(lw s.1 s.2.1 s.2.2).all fun p=>!decide (p=[]) && Nat.ble p.length 5 && rises p && p.all fun x=>decide (0<=x) && decide (x<=50))=true:=by decide +kernel
theorem allD:(shapes.all fun s=>decide (lw s.1 s.2.1 s.2.2).Nodup)=true:=by decide +kernel
def zh1 (pss:List (List Int)):Prop:=∃s∈shapes,∃first:Int,0<=first/\first<40/\pss=(lw s.1 s.2.1 s.2.2).map (ren first 1)
theorem zkX (many size:Nat) (ring:Bool):(lw many size ring).length<=many+1:=by
 unfold lw;rw[List.length_append,List.length_map,List.length_range];split <;> simp
theorem zcz {pss:List (List Int)}{s:Nat×Nat×Bool} (hs:s∈shapes) {first:Int} (e:pss=(lw s.1 s.2.1 s.2.2).map (ren first 1)) :
  canon pss=(un (s.1+s.2.1 - 1) s.2.1 s.2.2).map (ren first 1)/\(canon pss).length<200:=by
 have hA:=List.all_eq_true.mp allA s hs;unfold chkA at hA;generalize un (s.1+s.2.1 - 1) s.2.1 s.2.2=U at hA ⊢;simp only[Bool.and_eq_true] at hA;obtain⟨⟨⟨h1,h2⟩,h3⟩,h4⟩:=hA;have pw:=ziS h1;have pw':(U.map (ren first 1)).Pairwise fun a b=>kle a b=true/\a≠b:=by
  rw[List.pairwise_map];refine pw.imp fun {a b} h=>⟨by rw[zjw]; exact h.1,fun z=>h.2 (zbj (by decide) z)⟩
 have nd:(U.map (ren first 1)).Nodup:=pw'.imp fun h=>h.2;have ec:canon pss=U.map (ren first 1):=by
  refine zaS ((List.perm_ext_iff_of_nodup (zZ _) nd).mpr fun x=>?_) (zQ _) (pw'.imp fun h=>h.1);rw[zbB (b:=lw s.1 s.2.1 s.2.2) (first:=first) (gap:=1) (by rw[e]),List.mem_map];constructor
  ·rintro⟨y,r,hr,h0,hs,rfl⟩
   have:=List.all_eq_true.mp (List.all_eq_true.mp h2 r hr) y (zw.mpr ⟨h0,hs⟩);exact⟨y,of_decide_eq_true this,rfl⟩
  ·rintro⟨y,hy,rfl⟩
   have:=List.all_eq_true.mp h3 y hy;rw[Bool.and_eq_true] at this;obtain⟨r,hr,hz⟩:=List.any_eq_true.mp this.2;exact⟨y,r,hr,by simpa using this.1,List.isSublist_iff_sublist.mp hz,rfl⟩
 refine⟨ec,?_⟩;rw[ec,List.length_map];exact Nat.le_of_ble_eq_true h4
theorem zev {s:Nat×Nat×Bool} (h:s∈shapes):s.1<=17/\(s.2.1=3 \/ s.2.1=4):=by
 unfold shapes at h;obtain⟨m,hm,h⟩:=List.mem_flatMap.mp h;rw[List.mem_range] at hm;simp only[List.mem_cons,List.not_mem_nil,or_false] at h;rcases h with rfl | rfl | rfl | rfl <;> simp <;> omega
theorem zfj {pss:List (List Int)} (h:zh1 pss):webM pss=true/\pss.Nodup/\pss.length<=18/\(canon pss).length<200:=by
 obtain⟨s,hs,first,h0,h1,e⟩:=h;have hl:pss.length<=18:=by
  have:=zkX s.1 s.2.1 s.2.2;have:=zev hs;rw[e,List.length_map]; omega
 have hn:pss.Nodup:=by
  have:=of_decide_eq_true (List.all_eq_true.mp allD s hs);rw[e];unfold List.Nodup at this ⊢;rw[List.pairwise_map];exact this.imp fun {x y} e z=>e (zbj (by decide) z)
 have hc:=(zcz hs e).2;refine⟨zgg (by omega) hn (fun p hp=>?_) (by rw[<- zaG]; omega),hn,hl,hc⟩;rw[e] at hp;obtain⟨q,hq,rfl⟩:=List.mem_map.mp hp;have:=List.all_eq_true.mp (List.all_eq_true.mp allC s hs) q hq;simp only[Bool.and_eq_true,List.all_eq_true,decide_eq_true_eq] at this;obtain⟨⟨⟨a,b⟩,c⟩,d⟩:=this;have b:=Nat.le_of_ble_eq_true b;rw[zG];unfold ren;refine⟨fun z=>?_,by rw[List.length_map]; exact b,fun y hy=>?_,?_⟩
 ·rw[List.map_eq_nil_iff.mp z] at a; cases a
 ·obtain⟨x,hx,rfl⟩:=List.mem_map.mp hy
  have:=d x hx;omega
 ·rw[zaD] at c
  rw[List.pairwise_map];exact c.imp fun {x y} e=>by omega
theorem zgy {pss:List (List Int)} (h:zh1 pss) (hc:Cl (gM (canon pss).length (canon pss))):(tops (gM (canon pss).length (canon pss))).length<=20:=by
 have hw:=zfj h;have hnd:=zZ pss;have c0:Cl (canon pss):=Cl.of hw.1;obtain⟨s,hs,first,h0,h1,e⟩:=h;obtain⟨ec,hl⟩:=zcz hs e;have hB:=List.all_eq_true.mp allB s hs;rw[zeL _ 200 _ (Nat.le_refl _) (by omega)] at hc ⊢;rw[ec] at hc hnd c0 ⊢;refine zhL hnd (fun q hq=>zkl ?_) ?_ hc
 ·have:=(zG.mp (c0.pc q hq)).2.2.2
  exact this.imp fun h=>by omega
 ·rw[zjl,List.length_map]
  exact hB
end K43
end
section
namespace L2
open PySem PySem.Spec PyProof.Rows STb
def PrK (h:Heap) (x:List Int×List Int) (b:Addr):Prop:=∃(a1 a2:Addr) (cs ds:List Value),IsTup h b #[.ref a1,.ref a2]/\IsTup h a1 cs.toArray/\IntsAre cs x.1/\IsTup h a2 ds.toArray/\IntsAre ds x.2
theorem zid {h:Heap}{b:Addr}{xs ys:Array Value} (h1:IsTup h b xs) (h2:IsTup h b ys):xs=ys:=by
 obtain⟨o,e,_,n,d⟩:=h1;obtain⟨o',e',_,n',d'⟩:=h2;obtain rfl:o=o':=Option.some.inj (e.symm.trans e');rw[d] at d';injection d' with z _
theorem PrK.inj {h:Heap}{a:Addr}{x y:List Int×List Int} (prog:Program) (w:World) (h1:PrK h x a) (h2:PrK h y a):x=y:=by
 obtain⟨a1,a2,cs,ds,t,t1,i1,t2,i2⟩:=h1;obtain⟨b1,b2,es,fs,u,u1,j1,u2,j2⟩:=h2;have e:=zid t u;have e1:a1=b1:=by injection e with e; injection e with e _; injection e
 have e2:a2=b2:=by injection e with e; injection e with _ e; injection e with e _; injection e
 subst e1; subst e2;have q1:=IsTupleKey.inj (zaO (prog:=prog) (w:=w) t1 i1) (zaO u1 j1);have q2:=IsTupleKey.inj (zaO (prog:=prog) (w:=w) t2 i2) (zaO u2 j2);exact Prod.ext q1 q2
section
variable {prog:Program}{w:World}{A:Around}{E:Value->Shared->Prop}{s:Shared}
theorem zcP {h:Heap}{b:Addr}{xs:Array Value} (t:IsTup h b xs):h.IsTuple b xs:=t
theorem zjI (prog:Program) (w:World) {x y:List Int×List Int}{a b:Addr} (hu:A.units+8<cLine) (hx:PrK s.heap x a) (hy:PrK s.heap y b):SeqAt.EqAt A s (.ref a) (.ref b) (decide (x=y)):=by
 by_cases e:a=b
 ·subst e
  have:=PrK.inj prog w hx hy;subst this;rw[decide_eq_true rfl];exact .same _
 ·obtain⟨a1,a2,cs,ds,t,t1,i1,t2,i2⟩:=hx
  obtain⟨b1,b2,es,fs,u,u1,j1,u2,j2⟩:=hy;have:=SeqAt.RcAt.tuples (A:=A) (e:=fun j=>if j=0 then decide (x.1=y.1) else decide (x.2=y.2)) (zcP t) (zcP u) (by omega) (fun j h1 h2=>?_)
  ·refine .of_refs e ?_
   have ee:decide (x=y)=((List.range (min (#[Value.ref a1,.ref a2]:Array Value).size (#[Value.ref b1,.ref b2]:Array Value).size)).all (fun j=>if j=0 then decide (x.1=y.1) else decide (x.2=y.2)) && (#[Value.ref a1,.ref a2]:Array Value).size == (#[Value.ref b1,.ref b2]:Array Value).size):=by
    show decide (x=y)=(((decide (x.1=y.1)) && ((decide (x.2=y.2)) && true)) && true);rw[Bool.and_true,Bool.and_true,<- Bool.decide_and];exact decide_eq_decide.mpr Prod.ext_iff
   rw[ee];exact this
  ·have hj:j=0 \/ j=1:=by simp at h1; omega
   rcases hj with rfl | rfl
   ·exact fun prog w E Q q=>wpAny_eqBool_tuple (by show A.units+1<cLine; omega) (zaO (prog:=prog) (w:=w) t1 i1) (zaO u1 j1) q
   ·exact fun prog w E Q q=>wpAny_eqBool_tuple (by show A.units+1<cLine; omega) (zaO (prog:=prog) (w:=w) t2 i2) (zaO u2 j2) q
end
section
variable {X:Cx}
theorem zje {pins:List (Addr×Obj)}{σ:St}{H:Hp}{s:Shared}{t:Addr}{x:Pp} (I:Inv X pins σ H s) (h:Pr2 H t x):PrK s.heap x t:=by
 obtain⟨a,b,ht,ha,hb⟩:=h;obtain⟨its,r,p,_⟩:=I.tuple (SqT.of (K:=X.K) ht);obtain rfl:=vals_refs (as:=[a,b]) r;obtain⟨i1,r1,p1,_⟩:=I.tuple (SqT.of (K:=X.K) ha);obtain⟨i2,r2,p2,_⟩:=I.tuple (SqT.of (K:=X.K) hb);exact⟨a,b,i1,i2,p,p1,intsAre_of r1,p2,intsAre_of r2⟩
end
end L2
end
section
namespace L2
open PySem PySem.Spec PyProof.Rows STb
theorem ziV {H:Hp}{a:Addr}{ps qs:List Int} (h:Tp H a ps) (h':Tp H a qs):ps=qs:=by
 have e:=Option.some.inj ((show H a=some _ from h).symm.trans h');injection e with e
 exact (List.map_inj_right (fun x y z=>by injection z)).mp e
theorem Pr2.inj {H:Hp}{t:Addr}{x y:Pp} (h:Pr2 H t x) (h':Pr2 H t y):x=y:=by
 obtain⟨a,b,e,p,q⟩:=h;obtain⟨a',b',e',p',q'⟩:=h';have z:=Option.some.inj (e.symm.trans e');injection z with z
 injection z with z1 z2
 injection z2 with z2 _
 injection z1 with z1
 injection z2 with z2
 subst z1; subst z2;exact Prod.ext (ziV p p') (ziV q q')
def zkf (neg:Bool) (K:PySem.W.Frag):R2:=fun x y H Q=>∃t l ts z ps,x=.ref t/\y=.ref l/\Pr2 H t z/\SqL K H l (ts.map V.ref)/\Prs2 H ts ps/\Q (.bl (if neg then !decide (z∈ps) else decide (z∈ps))) H
open Classical in
theorem zi1 {H:Hp}{z:Pp}:∀{ts:List Addr}{ps:List Pp},Prs2 H ts ps->(ts.map Value.ref).any (fun v=>decide (∃t,v=Value.ref t/\Pr2 H t z))=decide (z∈ps)
 | _,_,.nil=>by simp
 | _,_,.cons (a:=t') (b:=z') h r=>by
  have ih:=zi1 (z:=z) r;rw[List.map_cons,List.any_cons,ih];have e:decide (∃t,Value.ref t'=Value.ref t/\Pr2 H t z)=decide (z=z'):=decide_eq_decide.mpr ⟨fun ⟨t,e,q⟩=>by injection e with e; subst e; exact Pr2.inj q h,fun e=>⟨t',rfl,e ▸ h⟩⟩;rw[e,<- Bool.decide_or];exact decide_eq_decide.mpr (List.mem_cons).symm
section
variable {X:Cx}
theorem zcM (hu:X.A.units+64<cLine):OpR X (compareOp .NotIn) (zkf true X.K):=by
 classical
 intro pins s σ H x y v u Q I rx ry h;obtain⟨t,l,ts,z,ps,rfl,rfl,ht,hl,hp,q⟩:=h;cases rx;cases ry;obtain⟨its,r,p,_⟩:=I.list hl;obtain rfl:=vals_refs r;refine SeqAt.notIn_listAt (fun v=>decide (∃t,v=Value.ref t/\Pr2 H t z)) p.isList (fun w hw=>?_) ⟨.bl _,H,I,rfl,?_⟩
 ·have hw':w∈ts.map Value.ref:=by simpa using hw
  obtain⟨t',ht',rfl⟩:=List.mem_map.mp hw';obtain⟨i,hi⟩:=List.getElem?_of_mem ht';obtain⟨z',_,h'⟩:=hp.get hi;have e:=zjI X.prog X.w (A:=X.A.in1) (s:=s) (by show X.A.units+1+8<cLine; omega) (zje I h') (zje I ht);have e2:decide (∃t,Value.ref t'=Value.ref t/\Pr2 H t z)=decide (z'=z):=decide_eq_decide.mpr ⟨fun ⟨t,e,q⟩=>by injection e with e; subst e; exact Pr2.inj h' q,fun e=>⟨t',rfl,e ▸ h'⟩⟩;show SeqAt.EqAt _ _ _ _ (decide _);rw[e2];exact e
 ·have e:(ts.map Value.ref).toArray.any (fun v=>decide (∃t,v=Value.ref t/\Pr2 H t z))=(ts.map Value.ref).any (fun v=>decide (∃t,v=Value.ref t/\Pr2 H t z)):=by simp
  rw[e,zi1 hp];exact q
end
end L2
end
section
namespace K43
open K1
open PySem L2 STb
abbrev zbi:Stmt:=top 22
abbrev zeU:Stmt:=top 23
theorem Cl.five {L:List (List Int)} (c:Cl L):∀p∈L,p.length<=5:=fun p hp=>(zG.mp (c.pc p hp)).2.1
section
variable {P:Program}{w:World}{K:PySem.W.Frag}{mg:Str->Option Value}{base:Heap}
def zff (K:PySem.W.Frag):Sp:=fun vs H Q _=>∃l as pss,vs=[.ref l]/\SqL K H l (as.map V.ref)/\Tps H as pss/\webS pss/\(canon pss).length<200/\
 ∀D RD TD H' rs zs M bs,Same H H'->H RD=none->H TD=none->RD≠TD->fr M=[]->M=gM (canon pss).length (canon pss)->H' D=some (.tup [.ref RD,.ref TD])->H' RD=some (.lst (List.map V.ref rs))->Prs2 H' rs zs->run (canon pss) zs=some M->zs.length<=199->H' TD=some (.lst (List.map V.ref bs))->Tps H' bs (tops M)->Q (.ref D) H'
theorem za9:zt ["web","left","row","free"] ["web"] (zg zbi):=⟨rfl,rfl,rfl,by decide +kernel,rfl,by decide +kernel,by decide +kernel⟩
theorem zhd {f fp ff ft fg:Addr}{fd fdp fdf fdt fdg:FuncData} (F:Fun K "pushes" "pushes" zbi f fd) (B:Bt mg)
  (Fp:Fun K "pieces" "pieces" zaX fp fdp) (bp:Binds K fdp ["web"] []) (mp:mg "pieces"=some (.ref fp)) (Gp:FnOk P w K mg base CX0 8 fp fdp ["web"] (zcT K))
  (Ff:Fun K "free_among" "free_among" zdn ff fdf) (bf:Binds K fdf ["every"] []) (mf:mg "free_among"=some (.ref ff)) (Gf:FnOk P w K mg base CX0 2 ff fdf ["every"] (zgv K))
  (Ft:Fun K "taken_out" "taken_out" zbx ft fdt) (bt:Binds K fdt ["every","pair"] []) (mt:mg "taken_out"=some (.ref ft))
  (Fg:Fun K "greatest_of" "greatest_of" zdA fg fdg) (bg:Binds K fdg ["every"] []) (mg':mg "greatest_of"=some (.ref fg)) (Gg:FnOk P w K mg base CX0 5 fg fdg ["every"] (ziP K)) :
  FnOk P w K mg base CX0 9 f fd ["web"] (zff K):=by
 have Gt:FnOk P w K mg base CX0 1 ft fdt ["every","pair"] (zej K):=zeZ Ft;refine F.ok za9 (fun vs H Q E h=>?_) (fun cdv A outer s H vs Q E hr h=>?_)
 ·obtain⟨l,as,pss,rfl,_⟩:=h; rfl
 ·obtain⟨l,as,pss,rfl,hl,ha,hw,h64,k⟩:=h
  have hr1:Room 1 _:=hr.mono (by decide);have hr2:Room 2 _:=hr.mono (by decide);have hr5:Room 5 _:=hr.mono (by decide);refine⟨_,zf (zq (i:=1) za9.nd rfl (Or.inl rfl) (zl Gp hr rfl mp Fp.kp bp .nil pass0 (zc (pv 0) ze)))
   (zf (zq (i:=2) za9.nd rfl (Or.inl rfl) (z0 ze))
   (zf (zq (i:=3) za9.nd rfl (Or.inl rfl) (zl Gf hr2 rfl mf Ff.kp bf .nil pass0 (zc (pv 1) ze)))
   (zf (zhW PassesOwn.never (zx zhR (zu zn rfl B.len za3 (zc (pv 3) ze)) zj (nomark _))
    (zf (zaq (zbR PySem.F.plainAttrs_list PySem.F.slot_list_append PySem.F.type_list_append zR (pv 2) (zc (zai zac (pv 3) zj (fun _ _=>rfl)) ze)))
    (zf (zq (i:=1) za9.nd rfl (Or.inl rfl) (zl Gt hr1 rfl mt Ft.kp bt .nil pass0 (zc (pv 1) (zc (zai zac (pv 3) zj (fun _ _=>rfl)) ze))))
    (zi (zq (i:=3) za9.nd rfl (Or.inl rfl) (zl Gf hr2 rfl mf Ff.kp bf .nil pass0 (zc (pv 1) ze)))))))
   (zi (zr (zaF (zc (pv 2) (zc (zl Gg hr5 rfl mg' Fg.kp bg .nil pass0 (zc (pv 1) ze)) ze)))))))),?_⟩
  have c0:Cl (canon pss):=Cl.of hw.1;refine⟨_,rfl,l,as,pss,rfl,hl,ha,hw,fun LA H1 ls s1 _ hA1 hl1=>⟨zh (by simp),fun RD hRD=>?_⟩⟩;have sR:=Same.new (o:=.lst []) hRD;have nA:LA≠RD:=ne_of_none hA1 hRD;refine⟨_,rfl,LA,ls,canon pss,rfl,SqL.of (sR _ _ hA1),sR.tps hl1,c0.five,by omega,fun FA H2 fs s2 hFA0 hFA hf2=>?_⟩;have nF:FA≠RD:=Ne.symm (ne_of_none zd hFA0);refine⟨fun m σ H3=>∃(LA FA:Addr) (ls fs rs:List Addr) (L:List (List Int)) (zs:List Pp),m=L.length/\σ=[some (.ref l),some (.ref LA),some (.ref RD),some (.ref FA)]/\Same H H3/\LA≠RD/\FA≠RD/\H3 LA=some (.lst (ls.map V.ref))/\Tps H3 ls L/\H3 RD=some (.lst (rs.map V.ref))/\Prs2 H3 rs zs/\H3 FA=some (.lst (fs.map V.ref))/\Prs2 H3 fs (fr L)/\run (canon pss) zs=some L/\gM L.length L=gM (canon pss).length (canon pss)/\zs.length+L.length<=(canon pss).length,
   ⟨_,LA,FA,ls,fs,[],canon pss,[],rfl,rfl,(s1.trans sR).trans s2,nA,nF,s2 _ _ (sR _ _ hA1),s2.tps (sR.tps hl1),s2 _ _ zd,.nil,hFA,hf2,rfl,rfl,by simp⟩,?_⟩
  have hR0:H RD=none:=s1.free hRD;rintro m σ H3 ⟨LA,FA,ls,fs,rs,L,zs,rfl,rfl,s3,nA,nF,hA,hls,hR,hrs,hF,hfs,hrun,hgM,hlen⟩;obtain⟨cL,sub⟩:=zbP c0 hrun;have hlL:=sub.length_le;have hfl:=hfs.length;have hrl:=hrs.length;refine⟨_,rfl,FA,_,rfl,.inl (SqL.of hF),_,_,rfl,rfl,_,rfl,?_⟩;rw[List.length_map,hfl];cases hfr:fr L with
  | nil=>
   refine iteF ⟨_,rfl,_,rfl,LA,ls,L,rfl,SqL.of hA,by rw[cL.can]; exact hls,cL.pc,by rw[cL.can]; omega,fun TD H5 bs s5 hTD0 hTD hb5=>⟨zh (by simp),fun T hT=>?_⟩⟩;rw[cL.can] at hb5;have s6:=Same.new (o:=.tup [.ref RD,.ref TD]) hT;exact k T RD TD _ rs zs L bs ((s3.trans s5).trans s6) hR0 (s3.free hTD0) (ne_of_none hR hTD0) hfr (by rw[<- hgM,zhx hfr]) zd (s6 _ _ (s5 _ _ hR)) ((hrs.same s5).same s6) hrun (by omega) (s6 _ _ hTD) (s6.tps hb5)
  | cons z r=>
   rw[hfr] at hfs hfl;rw[decide_eq_true (show (0:Int)<(((z::r).length:Nat):Int) by rw[List.length_cons]; omega)];have hz:z∈fr L:=by rw[hfr]; exact List.mem_cons_self
   have hlt:=zgm hz;refine iteT ⟨_,fun σ' H' h=>h,?_⟩;cases hfs with
   | @cons t _ fs' _ ht hfs'=>
   refine⟨_,rfl,.inl ⟨rfl,_,SqL.of hR⟩,_,rfl,FA,_,_,_,rfl,rfl,SqL.of hF,zJ (j:=0) rfl,RD,_,_,rfl,rfl,hR,by rw[List.length_map]; exact zS (by omega),?_⟩;have nn:∀xs:List V,HO.lst (rs.map V.ref)≠.tup xs:=by intro xs z; cases z
   have hA4:upd H3 RD (.lst (rs.map V.ref++[.ref t])) LA=some (.lst (ls.map V.ref)):=by rw[upd_ne nA]; exact hA
   have hF4:upd H3 RD (.lst (rs.map V.ref++[.ref t])) FA=some (.lst ((t::fs').map V.ref)):=by rw[upd_ne nF]; exact hF
   have hls4:Tps (upd H3 RD (.lst (rs.map V.ref++[.ref t]))) ls L:=Tps.upd hls hR nn;have ht4:Pr2 (upd H3 RD (.lst (rs.map V.ref++[.ref t]))) t z:=Pr2.upd ht hR nn;have hrs4:Prs2 (upd H3 RD (.lst (rs.map V.ref++[.ref t]))) (rs++[t]) (zs++[z]):=Prs2.snoc (Prs2.upd hrs hR nn) ht4;have hR4:upd H3 RD (.lst (rs.map V.ref++[.ref t])) RD=some (.lst ((rs++[t]).map V.ref)):=by rw[zd,List.map_append]; rfl
   have s4:Same H (upd H3 RD (.lst (rs.map V.ref++[.ref t]))):=s3.then hR0;generalize upd H3 RD (.lst (rs.map V.ref++[.ref t]))=H4 at hA4 hF4 hls4 ht4 hrs4 hR4 s4;refine⟨_,rfl,_,rfl,FA,_,_,_,rfl,rfl,SqL.of hF4,zJ (j:=0) rfl,LA,t,ls,L,z,rfl,SqL.of hA4,hls4,by omega,ht4,fun D H5 bs s5 hD0 hD5 hb5=>?_⟩;refine⟨_,rfl,D,bs,rem L z,rfl,SqL.of hD5,hb5,(cL.rem hz).five,by omega,fun D2 H6 ts s6 hD20 hD26 ht6=>?_⟩;refine⟨_,hlt,D,D2,bs,ts,rs++[t],rem L z,zs++[z],rfl,rfl,(s4.trans s5).trans s6,Ne.symm (ne_of_none hR4 hD0),Ne.symm (ne_of_none (s5 _ _ hR4) hD20),s6 _ _ hD5,s6.tps hb5,s6 _ _ (s5 _ _ hR4),(hrs4.same s5).same s6,hD26,ht6,?_,by rw[<- zjK hfr]; exact hgM,by rw[List.length_append,List.length_singleton]; omega⟩;rw[zbv hrun,if_pos hz]
def zjb (K:PySem.W.Frag):Sp:=fun vs H Q _=>∃l m o as pss ts ps os oss,vs=[.ref l,.ref m,.ref o]/\SqL K H l (as.map V.ref)/\Tps H as pss/\webS pss/\(canon pss).length<200/\SqL K H m (ts.map V.ref)/\Prs2 H ts ps/\ps.length<=200/\SqL K H o (os.map V.ref)/\Tps H os oss/\webS oss/\
 ∀H',Same H H'->Q (.bl (decide (run (canon pss) ps=some (canon oss)))) H'
theorem zdL:zt ["web","pairs","other","left","goal","pair"] ["web","pairs","other"] (zg zeU):=⟨rfl,rfl,rfl,by decide +kernel,rfl,by decide +kernel,by decide +kernel⟩
theorem zj3 {f fp ff ft:Addr}{fd fdp fdf fdt:FuncData} (F:Fun K "is_pushed" "is_pushed" zeU f fd)
  (Fp:Fun K "pieces" "pieces" zaX fp fdp) (bp:Binds K fdp ["web"] []) (mp:mg "pieces"=some (.ref fp)) (Gp:FnOk P w K mg base CX0 8 fp fdp ["web"] (zcT K))
  (Ff:Fun K "free_among" "free_among" zdn ff fdf) (bf:Binds K fdf ["every"] []) (mf:mg "free_among"=some (.ref ff)) (Gf:FnOk P w K mg base CX0 2 ff fdf ["every"] (zgv K))
  (Ft:Fun K "taken_out" "taken_out" zbx ft fdt) (bt:Binds K fdt ["every","pair"] []) (mt:mg "taken_out"=some (.ref ft)) :
  FnOk P w K mg base CX0 9 f fd ["web","pairs","other"] (zjb K):=by
 have Gt:FnOk P w K mg base CX0 1 ft fdt ["every","pair"] (zej K):=zeZ Ft;refine F.ok zdL (fun vs H Q E h=>?_) (fun cdv A outer s H vs Q E hr h=>?_)
 ·obtain⟨l,m,o,as,pss,ts,ps,os,oss,rfl,_⟩:=h; rfl
 ·obtain⟨l,m,o,as,pss,ts,ps,os,oss,rfl,hl,ha,hw,h64,hm,ht,hz,ho,hos,hwo,k⟩:=h
  have hu64:=hr.units;have hr1:Room 1 _:=hr.mono (by decide);have hr2:Room 2 _:=hr.mono (by decide);refine⟨_,zf (zq (i:=3) zdL.nd rfl (Or.inl rfl) (zl Gp hr rfl mp Fp.kp bp .nil pass0 (zc (pv 0) ze)))
   (zf (zq (i:=4) zdL.nd rfl (Or.inl rfl) (zl Gp hr rfl mp Fp.kp bp .nil pass0 (zc (pv 2) ze)))
   (zf (zaa PassesOwn.never rfl (zz (pv 1)) (zm (i:=5) zdL.nd rfl (Or.inl rfl))
    (zf (zav (zx (r:=zkf true K) (zcM hu64) (pv 5) (zl Gf hr2 rfl mf Ff.kp bf .nil pass0 (zc (pv 3) ze)) (by with_unfolding_all rfl)) (zi (zr zaY)) zD)
    (zi (zq (i:=3) zdL.nd rfl (Or.inl rfl) (zl Gt hr1 rfl mt Ft.kp bt .nil pass0 (zc (pv 3) (zc (pv 5) ze)))))))
   (zi (zr (zex (zkZ hu64) (pv 3) (pv 4) (nomark _)))))),?_⟩
  have c0:Cl (canon pss):=Cl.of hw.1;have htl:=ht.length;refine⟨_,rfl,l,as,pss,rfl,hl,ha,hw,fun LA H1 ls s1 _ hA1 hl1=>?_⟩;refine⟨_,rfl,o,os,oss,rfl,s1.seq ho,s1.tps hos,hwo,fun GA H2 gs s2 _ hG2 hg2=>?_⟩;have s12:=s1.trans s2;refine⟨_,rfl,m,rfl,⟨_,s12.seq hm⟩,zK (K:=K) (a:=m) (xs:=ts.map V.ref) (fun i σ H3=>∃(LA:Addr) (ls:List Addr) (L:List (List Int)) (v5:Option V),σ=[some (.ref l),some (.ref m),some (.ref o),some (.ref LA),some (.ref GA),v5]/\Same H2 H3/\H3 LA=some (.lst (ls.map V.ref))/\Tps H3 ls L/\run (canon pss) (ps.take i)=some L)
   ⟨LA,ls,canon pss,none,rfl,Same.refl _,s2 _ _ hA1,s2.tps hl1,rfl⟩ (fun i σ H3 _ ⟨_,_,_,_,_,sm,_⟩=>sm.seq (s12.seq hm)) ?_ ?_⟩
  ·rintro i v σ H3 hv ⟨LA,ls,L,v5,rfl,sm,hA,hls,hrun⟩
   obtain⟨t,et,rfl⟩:=zT hv;obtain⟨z,ez,hz'⟩:=ht.get et;obtain⟨cL,sub⟩:=zbP c0 hrun;have hlL:=sub.length_le;have s3:=s12.trans sm;refine⟨_,rfl,_,rfl,LA,ls,L,rfl,SqL.of hA,hls,cL.five,by omega,fun FA H4 fs s4 _ hF4 hf4=>?_⟩;refine⟨t,FA,fs,z,fr L,rfl,rfl,(hz'.same s3).same s4,SqL.of hF4,hf4,_,rfl,?_⟩;rw[if_pos rfl]
   by_cases hm':z∈fr L
   ·rw[decide_eq_true hm']
    refine iteF ⟨_,rfl,_,rfl,LA,t,ls,L,z,rfl,SqL.of (s4 _ _ hA),s4.tps hls,by omega,(hz'.same s3).same s4,fun D H5 bs s5 _ hD5 hb5=>?_⟩;refine⟨D,bs,rem L z,_,rfl,(sm.trans s4).trans s5,hD5,hb5,?_⟩;rw[take_snoc ez,zbv hrun,if_pos hm']
   ·rw[decide_eq_false hm']
    refine iteT ?_;have hno:run (canon pss) ps=none:=by
     have e:ps=ps.take (i+1)++ps.drop (i+1):=(List.take_append_drop _ _).symm;rw[e];refine zga ?_;rw[take_snoc ez,zbv hrun,if_neg hm']
    have:=k H4 (s3.trans s4);rw[hno,decide_eq_false (by simp)] at this;exact this
  ·rintro σ H3 ⟨LA,ls,L,v5,rfl,sm,hA,hls,hrun⟩
   rw[List.length_map,htl,take_all] at hrun;refine⟨_,rfl,_,rfl,.inr ⟨LA,GA,ls,gs,L,canon oss,rfl,rfl,SqL.of hA,hls,SqL.of (sm _ _ hG2),sm.tps hg2,?_⟩⟩;rw[if_neg (by decide)];have:=k H3 (s12.trans sm);rw[hrun,show decide (some L=some (canon oss))=decide (L=canon oss) from decide_eq_decide.mpr (by simp)] at this;exact this
end
end K43
end
section
namespace L2
open PySem PySem.Spec PyProof.Rows
section
variable {X:Cx}{scope:Scope}{N':List Str}{caps:List (Option Nat)}{tg iter elt:Expr}{ifs:List Expr}{wi:TI}{g:TG}{tc:TT}{te:TE}{pos:Pos}
theorem zjG {i:Nat}{x:Str}{pos' spos:Pos} (hc:X.calm=true) (hk:scope.kind=.function) (hcell:∀y∈scope.names,y.2≠.cell) (hnames:∀y∈scope.names,y.2=.local->scope.names.lookup y.1=some .local)
  (hfr:∀y∈scope.names,y.2=.free->X.env.kindOf y.1=some .cell \/ X.env.kindOf y.1=some .free) (hcap:zfR X.N N' caps scope)
  (hi:PI X tg iter wi) (hg:∀cl C s₀ H₀ ex,PG (cxC X scope N' cl C s₀ H₀ ex) tg g) (ht:∀cl C s₀ H₀ ex,PTL (cxC X scope N' cl C s₀ H₀ ex) ifs tc) (he:∀cl C s₀ H₀ ex,PE (cxC X scope N' cl C s₀ H₀ ex) elt te)
  (hs:∀x,foldedSetIterable iter X.env x=pure x) (hN:X.N.Nodup) (hi':X.N[i]?=some x) (hx:Loc X.env.scope x) (hf:X.fn x=true \/ X.env.scope.names.lookup x=some .local)
  (hsw:swapsWith (.ListComp elt [⟨tg,iter,ifs,0⟩] scope pos) (some (.Name x pos')) spos.line X.env=pure true) :
  PS X (.Assign [.Name x pos'] (.ListComp elt [⟨tg,iter,ifs,0⟩] scope pos) spos) (tAsg (tLC wi caps g tc te) (zap i)):=by
 intro pins s σ H D I h;rw[exec_Assign_Name_used _ _ _ _ hsw];refine wpAny_bind (wpAny_standAt (wpAny_bind ?_));show wpAny _ X.A (do let _ <- comprehension (.ListComp elt [⟨tg,iter,ifs,0⟩] scope pos) scope X.env _ (newList []) (firstAsync [⟨tg,iter,ifs,0⟩]) (firstIter [⟨tg,iter,ifs,0⟩] X.env) (some (assign (.Name x pos') X.env))) _ _ s;refine wpAny_bind (wpAny_mono (zdG (use:=some (assign (.Name x pos') X.env)) (R:=fun _ s'=>SP X pins D .next s') hc hk hcell hnames hfr hcap hi hg ht he hs I h fun Dl C H' s4 f L q=>?_) (fun _ s' hq=>wpAny_pure (wpAny_pure hq)) fun _ _ e=>e);show wpAny _ X.A (assign (.Name x pos') X.env (.ref Dl)) _ _ s4;refine wpAny_assign_Name (zcc (v:=.ref Dl) (L.back s4.heap (Heap.SameBut.refl _ _)) hN hi' hx rfl (fun s5 I5 ⟨a,hsa,ha⟩=>?_) hf);have hCa:C≠a:=by
  rcases ha with e | e
  ·rw[e]; exact L.nl
  ·exact fun z=>L.nc x a e z.symm
 obtain⟨m,hn⟩:=L.ns;refine⟨m,hn.sameBut hsa hCa,fun h' hs'=>⟨_,H',?_,q⟩⟩;refine I5.call' (s':={ s5 with heap:=h' }) (ch:=[C]) rfl ⟨fun b o q n hb hx=>?_,fun b o q n hb hx=>?_,fun b o q n hx=>n,fun b o q hx=>?_,fun b xs q=>q,fun b o u q=>q,fun b ps q=>⟨#[],by simpa using q⟩⟩ ?_ I5.bare fun b hb=>?_
 ·exact (hs'.2 b (by simpa using hx)).trans q
 ·exact⟨o.slots,(hs'.2 b (by simpa using hx)).trans q⟩
 ·exact⟨o,(hs'.2 b (by simpa using hx)).trans q⟩
 ·intro b u e
  refine (I5.hok b u e).stay (fun c v hc q=>(hs'.2 c ?_).trans q) (fun _ q=>q) fun _ _ q=>q;rintro rfl;rcases hc with z | z
  ·rw[<- z,L.no] at e; cases e
  ·rw[L.no] at z; cases z
 ·have e:b=C:=by simpa using hb
  subst e;exact⟨.inr L.far,L.nl,L.nc,L.np⟩
end
end L2
end
section
namespace L2
open PySem PySem.Spec PyProof.Rows
section
variable {X:Cx}{scope:Scope}{caps:List (Option Nat)}{tg iter elt:Expr}{ifs:List Expr}{wi:TI}{g:TG}{tc:TT}{te:TE}{pos:Pos}
theorem zjv {i:Nat}{x:Str}{pos' spos:Pos} (hnd:X.N.Nodup) (hi':X.N[i]?=some x) (hx:Loc X.env.scope x) (N N':List Str) (caps:List (Option Nat)) (hi:PI X tg iter wi) (hg:∀cl C s₀ H₀ ex,PG (cxC X scope N' cl C s₀ H₀ ex) tg g) (ht:∀cl C s₀ H₀ ex,PTL (cxC X scope N' cl C s₀ H₀ ex) ifs tc) (he:∀cl C s₀ H₀ ex,PE (cxC X scope N' cl C s₀ H₀ ex) elt te)
  (hc:X.calm=true:=by rfl) (hk:scope.kind=.function:=by rfl) (hcell:∀y∈scope.names,y.2≠.cell:=by decide +kernel) (hnames:∀y∈scope.names,y.2=.local->scope.names.lookup y.1=some .local:=by decide +kernel)
  (hfr:∀y∈scope.names,y.2=.free->X.env.kindOf y.1=some .cell \/ X.env.kindOf y.1=some .free) (hN:X.N=N:=by rfl) (hcap:capB N N' caps scope=true:=by decide +kernel)
  (hs:∀x,foldedSetIterable iter X.env x=pure x:=by intro _; rfl) (hf:X.fn x=true \/ X.env.scope.names.lookup x=some .local:=by first | exact .inl rfl | exact .inr rfl | assumption)
  (hsw:swapsWith (.ListComp elt [⟨tg,iter,ifs,0⟩] scope pos) (some (.Name x pos')) spos.line X.env=pure true:=by rfl) :
  PS X (.Assign [.Name x pos'] (.ListComp elt [⟨tg,iter,ifs,0⟩] scope pos) spos) (tAsg (tLC wi caps g tc te) (zap i)):=
 zjG hc hk hcell hnames hfr (zcR (by rw[hN]; exact hcap)) hi hg ht he hs hnd hi' hx hf hsw
end
end L2
end
section
namespace L2
open PySem PySem.Spec PyProof.Rows
section
variable {X:Cx}{scope:Scope}{N':List Str}{caps:List (Option Nat)}{tg iter elt:Expr}{ifs:List Expr}{wi:TI}{g:TG}{tc:TT}{te:TE}{pos:Pos}
theorem zfE {use:Option (Value->Sem Unit)}{R:Value->Shared->Prop}{pp:Pos} (hc:X.calm=true) (hk:scope.kind=.function) (hcellL:∀y∈scope.names,y.2=.cell->scope.names.lookup y.1=some .cell) (hfreeL:∀y∈scope.names,y.2=.free->scope.names.lookup y.1=some .free) (hnames:∀y∈scope.names,y.2=.local->scope.names.lookup y.1=some .local)
  (hfr:∀y∈scope.names,y.2=.free->X.env.kindOf y.1=some .cell \/ X.env.kindOf y.1=some .free) (hcap:zfR X.N N' caps scope)
  (hi:PI X tg iter wi) (hg:∀cl C s₀ H₀ ex,PG (cxD X scope N' cl C s₀ H₀ ex) tg g) (ht:∀cl C s₀ H₀ ex,PTL (cxD X scope N' cl C s₀ H₀ ex) ifs tc) (he:∀cl C s₀ H₀ ex,PE (cxD X scope N' cl C s₀ H₀ ex) elt te)
  (hs:∀x,foldedSetIterable iter X.env x=pure x) {pins:List (Addr×Obj)} {s:Shared} {σ:St} {H:Hp} {Q:VK} (I:Inv X pins σ H s) (h:tLC wi caps g tc te σ H Q)
  (fin:∀(D C:Addr) (H':Hp) (s4:Shared) (f:Flow),Left X pins σ H' s4 C->Q (.ref D) H'->compPost (model X.prog X.w) X.A X.xe use R (.ref D) C (.ok f) s4) :
  wpAny (model X.prog X.w) X.A (comprehension (.ListComp elt [⟨tg,iter,ifs,0⟩] scope pos) scope X.env pp (newList []) (firstAsync [⟨tg,iter,ifs,0⟩]) (firstIter [⟨tg,iter,ifs,0⟩] X.env) use) R X.xe s:=by
 have hcl:∀y∈scope.names,y.2=.free->∃c,X.env.cells.lookup y.1=some c:=fun y hy e=>I.ok.has y.1 (hfr y hy e);refine wpAny_comprehension_free (use:=use) rfl hs (zcy hcl) hk hnames ?_;refine thn (hi pins s σ H _ I h) fun xv s1 h1=>thn h1 fun itv s2 h2=>?_;obtain⟨it,fp,tn,J,H2,e,I2,T,st2,f2,q⟩:=h2;subst e;have hf2:H2 s2.heap.objs.size=none:=I2.hok.fresh (Nat.le_refl _);obtain⟨W,⟨m0,w0⟩,turn⟩:=q s2.heap.objs.size hf2;refine wpAny_newObj_type (zfK fun h₁ hns₁ hold₁ hown₁=>?_);dsimp only at hns₁ hold₁ hown₁ ⊢;generalize hD:s2.heap.objs.size=D at *;obtain⟨s3,e3⟩:∃s3:Shared,s3={ s2 with heap:=s2.heap.push { cls:=.type "list",dict:=none,data:=.seq ([]:List Value).toArray } }:=⟨_,rfl⟩;have h3:s3.heap=s2.heap.push { cls:=.type "list",dict:=none,data:=.seq ([]:List Value).toArray }:=by rw[e3]
 rw[<- h3] at hns₁ hold₁ hown₁ ⊢;have hD3:s3.heap.objs.size=D+1:=by rw[h3,Heap.size_push,hD]
 have I3:Inv X pins σ (upd H2 D (.lst [])) s3:=by
  rw[e3,<- hD];exact I2.lnew (t':=s2.toks) (ys:=[]) .nil (Nat.zero_le _)
 obtain⟨Xc,eX⟩:∃Xc,Xc=cxD X scope N' (cellsFrom (s3.heap.objs.size+1) scope.names (clOf X.env.cells scope.names [])) s3.heap.objs.size s3 (upd H2 D (.lst [])) fp:=⟨_,rfl⟩;have hg':PG Xc tg g:=by rw[eX]; exact hg _ _ _ _ _
 have ht':PTL Xc ifs tc:=by rw[eX]; exact ht _ _ _ _ _
 have he':PE Xc elt te:=by rw[eX]; exact he _ _ _ _ _
 have xP:Xc.prog=X.prog:=by rw[eX]; rfl
 have xw:Xc.w=X.w:=by rw[eX]; rfl
 have xK:Xc.K=X.K:=by rw[eX]; rfl
 have xA:Xc.A=X.A:=by rw[eX]; rfl
 have xc:Xc.calm=true:=by rw[eX]; exact hc
 have xe:Xc.env=compEnvC scope (cellsFrom (s3.heap.objs.size+1) scope.names (clOf X.env.cells scope.names [])) s3.heap.objs.size X.env:=by rw[eX]; rfl
 have xE:Xc.xe=fun _ _=>False:=by rw[eX]; rfl
 have hcin:∀x c,(cellsFrom (s3.heap.objs.size+1) scope.names (clOf X.env.cells scope.names [])).lookup x=some c->(X.env.cells.lookup x=some c/\scope.names.lookup x=some .free) \/ (scope.names.lookup x=some .cell/\s3.heap.objs.size+1<=c/\h₁.IsCell c none):=fun x c e=>by
  rcases hown₁ x c (PySem.mem_of_lookup e) with q | ⟨q1,q2,q3⟩
  ·obtain⟨q4,q5⟩:=zaK hcl (fun p hp=>absurd hp (by simp)) q
   exact .inl ⟨q4,hfreeL _ q5 rfl⟩
  ·exact .inr ⟨hcellL _ q1 rfl,q2,q3⟩
 have hlow:∀p∈clOf X.env.cells scope.names [],p.2<s3.heap.objs.size+1:=fun p hp=>by
  obtain⟨q4,_⟩:=zaK hcl (fun p hp=>absurd hp (by simp)) (x:=p.1) (c:=p.2) hp;obtain⟨v,o,ho,_⟩:=I3.cell p.1 p.2 q4;exact Nat.lt_succ_of_lt (Heap.lt_size ho)
 have hfd:∀b∈fp,b≠D/\b<D:=fun b hb=>by
  obtain⟨ob,eb,_⟩:=T.obj 0 _ st2 b hb;have:=Heap.lt_size eb;rw[hD] at this;exact⟨Nat.ne_of_lt this,this⟩
 have hfs:∀b∈frs X.stack,b<D:=fun b hb=>by
  obtain⟨_,ob,eb,_⟩:=I2.stack.mem hb;have:=Heap.lt_size eb;rw[hD] at this;exact this
 have hold:∀b o,s3.heap.get? b=some o->h₁.get? b=some o:=hold₁;have hCf:(upd H2 D (.lst [])) s3.heap.objs.size=none:=I3.hok.fresh (Nat.le_refl _);have Ic:Inv Xc pins (zcS caps σ) (upd H2 D (.lst [])) { s3 with heap:=h₁ }:=by
  have okc:Xc.Ok:=by
   rw[eX];refine⟨I.ok.mod,hk,I.ok.glob,I.ok.blt,Nat.le_refl _,fun x y c a b=>zf8 scope.names _ _ (fun x y c p q=>I.ok.inj x y c (zaK hcl (fun p hp=>absurd hp (by simp)) p).1 (zaK hcl (fun p hp=>absurd hp (by simp)) q).1) hlow x y c (PySem.mem_of_lookup a) (PySem.mem_of_lookup b),fun x hx=>?_,(fun x c a e=>by
    rcases hcin x c e with ⟨_,q⟩ | ⟨_,q,_⟩
    ·have a':=of_decide_eq_true a
     rw[q] at a'; cases a'
    ·exact Nat.le_of_succ_le q),I.ok.hd,I.ok.frames,.inl rfl,fun b hb=>⟨?_,fun x c e=>?_⟩,fun b o e=>?_,?_,fun b o e z=>?_,fun b hb z=>?_,?_,fun b hb=>?_⟩
   ·have hx':(relabel scope X.env).names.lookup x=some .cell \/ (relabel scope X.env).names.lookup x=some .free:=hx
    have key:∃k',scope.names.lookup x=some k'/\(k'=.free \/ k'=.cell):=by
     rcases hx' with q | q
     ·obtain⟨k',e1,e2⟩:=zaE q
      rcases e2 with e2 | ⟨e2,_⟩
      ·exact⟨k',e1,.inr e2.symm⟩
      ·exact⟨k',e1,.inl e2⟩
     ·obtain⟨k',e1,e2⟩:=zaE q
      rcases e2 with e2 | ⟨e2,_⟩
      ·exact⟨k',e1,.inl e2.symm⟩
      ·exact⟨k',e1,.inl e2⟩
    obtain⟨k',e1,e2⟩:=key;have hm:=PySem.mem_of_lookup e1;rcases e2 with rfl | rfl
    ·obtain⟨c,hc'⟩:=za4 (cells:=X.env.cells) (acc:=[]) (.inl hm)
     obtain⟨d,hd⟩:=zE hc';exact Option.isSome_iff_exists.mp (PySem.W.cellsFrom_some scope.names (s3.heap.objs.size+1) _ (.inr (by rw[hd]; rfl)))
    ·exact Option.isSome_iff_exists.mp (PySem.W.cellsFrom_some scope.names (s3.heap.objs.size+1) _ (.inl e1))
   ·show b≠s3.heap.objs.size
    exact Nat.ne_of_lt (by rw[hD3]; exact Nat.lt_succ_of_lt (hfd b hb).2)
   ·rcases hcin x c e with ⟨q,_⟩ | ⟨_,q,_⟩
    ·exact (f2 b hb).2.2.2.2.1 x c q
    ·have h1:b<s3.heap.objs.size+1:=by rw[hD3]; exact Nat.lt_succ_of_lt (Nat.lt_succ_of_lt (hfd b hb).2)
     exact Nat.ne_of_gt (Nat.lt_of_lt_of_le h1 q)
   ·exact I3.bs b o e
   ·exact Nat.le_trans I.ok.bsz I3.sz
   ·obtain⟨f,_,_,fx,_,_⟩:=f2 b z
    rcases fx with fx | fx
    ·exact I.ok.noex b o e fx
    ·have:=Nat.lt_of_lt_of_le (Heap.lt_size e) I.ok.bsz
     omega
   ·rcases List.mem_cons.mp (I2.stkSub b z) with r | r
    ·exact (f2 b hb).2.1 r
    ·exact (f2 b hb).2.2.1 r
   ·exact I3.stack
   ·exact I3.stkFree b hb
  refine⟨okc,(by rw[eX]; rfl),I3.bare,?_,?_,fun x c e=>?_,?_,fun x c e=>?_,fun p hp=>?_,?_,?_⟩
  ·rw[eX]
   exact Un.kept hold
  ·rw[xe]
   refine⟨_,hns₁,fun i x v e1 e2 e3=>?_⟩;obtain⟨c1,c2⟩:=hcap;unfold zcS at e2;rw[List.getElem?_map] at e2;cases e4:caps[i]? with
   | none=>rw[e4] at e2; cases e2
   | some cc=>
    rw[e4] at e2;cases cc with
    | none=>cases e2
    | some j=>
     obtain⟨y,d1,d2,d3⟩:=c2 i j e4;have e1':N'[i]?=some x:=by rw[eX] at e1; exact e1
     rw[d1] at e1';have exy:y=x:=Option.some.inj e1';subst exy;have e5:σ[j]?=some (some v):=by
      simp only[Option.map_some,Option.some.injEq] at e2;cases e6:σ[j]? with
      | none=>rw[e6] at e2; cases e2
      | some ov=>rw[e6] at e2; simp only[Option.getD_some] at e2; rw[e2]
     have hm:=PySem.mem_of_lookup d3;have vis:Vis X.env.scope y:=by
      rcases hfr _ hm rfl with q | q
      ·exact .inr (.inl q)
      ·exact .inr (.inr q)
     obtain⟨m,_,hl⟩:=I3.loc;obtain⟨u,ru,lk⟩:=hl j y v d2 e5 vis;refine⟨u,ru,?_⟩;have lk2:∃c,X.env.cells.lookup y=some c/\s3.heap.IsCell c (some u):=by
      rcases lk with ⟨k1,_⟩ | ⟨_,c,k2,k3⟩
      ·rcases hfr _ hm rfl with q | q
       ·rw[k1] at q; cases q
       ·rw[k1] at q; cases q
      ·exact⟨c,k2,k3⟩
     obtain⟨c,k2,k3⟩:=lk2;obtain⟨d,hd'⟩:=za4 (cells:=X.env.cells) (acc:=[]) (.inl hm);obtain⟨d',hd2⟩:=zE hd';obtain⟨d2,hd3⟩:=Option.isSome_iff_exists.mp (PySem.W.cellsFrom_some scope.names (s3.heap.objs.size+1) (clOf X.env.cells scope.names []) (x:=y) (.inr (by rw[hd2]; rfl)));have:c=d2:=by
      rcases hcin y d2 hd3 with ⟨q,_⟩ | ⟨q,_⟩
      ·rw[k2] at q
       exact Option.some.inj q
      ·rw[d3] at q; cases q
     subst this;refine .inr ⟨?_,c,hd3,k3.keeps hold⟩;have rl:=zax (scope:=scope) (env:=X.env) (x:=y) (names:=scope.names) (.inl d3);rcases rl with q | q
     ·exact .inr q
     ·exact .inl q
  ·rw[xe] at e
   rcases hcin x c e with ⟨q,_⟩ | ⟨_,_,q⟩
   ·obtain⟨v,k3⟩:=I3.cell x c q
    exact⟨v,k3.keeps hold⟩
   ·exact⟨_,q⟩
  ·rw[xe]; exact hCf
  ·rw[xe] at e
   rcases hcin x c e with ⟨q,_⟩ | ⟨_,q,_⟩
   ·exact I3.freeC x c q
   ·exact I3.hok.fresh (Nat.le_of_succ_le q)
  ·have hp':p∈X.pn++pins:=by rw[eX] at hp; exact hp
   obtain⟨a1,a2,a3,a4,a5⟩:=I3.pin p hp';refine⟨hold _ _ a1,a2,?_,?_,a5⟩
   ·rw[xe]
    show p.1≠s3.heap.objs.size;exact Nat.ne_of_lt (Heap.lt_size a1)
   ·rw[eX]
    intro z;rcases List.mem_cons.mp (I3.stkSub p.1 z) with r | r
    ·exact a3 r
    ·exact a4 r
  ·rw[xP,xw]
   exact I3.hok.kept hold
  ·unfold zcS
   rw[List.length_map,hcap.1,eX]
   rfl
 have leave:∀{σ':St} {H':Hp} {s4:Shared} {h':Heap},Inv Xc pins σ' H' s4->Heap.SameBut s3.heap.objs.size s4.heap h'->Inv X pins σ H' { s4 with heap:=h' }:=fun {σ' H' s4 h'} I4 hs'=>by
  have hlt:∀b o,s2.heap.get? b=some o->b≠D/\b≠s3.heap.objs.size:=fun b o e=>by
   have hb:=Heap.lt_size e;rw[hD] at hb;exact⟨Nat.ne_of_lt hb,Nat.ne_of_lt (by rw[hD3]; exact Nat.lt_succ_of_lt hb)⟩
  have up3:∀b o,s2.heap.get? b=some o->s3.heap.get? b=some o:=fun b o e=>by rw[h3]; exact Heap.get?_push_of_some _ e
  have base:Un (frs X.stack) fp (upd H2 D (.lst [])) H' s3.heap s4.heap:=by
   have:=I4.base;rw[eX] at this;exact this
  have hCn:H' s3.heap.objs.size=none:=by
   have:=I4.free;rw[xe] at this;exact this
  have os4:s4.os=s2.os:=by
   have:=I4.os;rw[eX] at this;rw[this];show s3.os=s2.os;rw[e3]
  refine I2.call' (s':={ s4 with heap:=h' }) (ch:=fp) os4 ⟨fun b o q n hb hx=>?_,fun b o q n hb hx=>?_,fun b o q n hx=>?_,fun b o q hx=>?_,fun b xs q=>?_,fun b o u q=>?_,fun b ps q=>?_⟩ ?_ I4.bare fun b hb=>?_
  ·obtain⟨n1,n2⟩:=hlt b o q
   exact (hs'.2 b n2).trans (base.keep b o (up3 b o q) (by rw[upd_ne n1]; exact n) hb hx)
  ·obtain⟨n1,n2⟩:=hlt b o q
   obtain⟨sl,e⟩:=base.slot b o (up3 b o q) (by rw[upd_ne n1]; exact n) hb hx;exact⟨sl,(hs'.2 b n2).trans e⟩
  ·obtain⟨n1,n2⟩:=hlt b o q
   exact base.free b o (up3 b o q) (by rw[upd_ne n1]; exact n) hx
  ·obtain⟨n1,n2⟩:=hlt b o q
   obtain⟨o',e⟩:=base.there b o (up3 b o q) hx;exact⟨o',(hs'.2 b n2).trans e⟩
  ·exact base.tups b xs (by rw[upd_ne (ne_of_none q hf2)]; exact q)
  ·exact base.frzs b o u (by rw[upd_ne (ne_of_none q hf2)]; exact q)
  ·exact base.tbls b ps (by rw[upd_ne (ne_of_none q hf2)]; exact q)
  ·intro b u e
   have hk4:=I4.hok b u e;rw[xP,xw] at hk4;refine hk4.stay (fun c v hc q=>(hs'.2 c ?_).trans q) (fun _ q=>q) fun _ _ q=>q;rintro rfl;rcases hc with z | z
   ·rw[<- z,hCn] at e; cases e
   ·rw[hCn] at z; cases z
  ·obtain⟨f0,f1,f3,f4,f5,f6⟩:=f2 b hb
   exact⟨f4,f1,f5,f6⟩
 have stat:∀{H':Hp},(∀b∈fp,H' b=none)->∀b∈fp,FpOk Xc pins H' b:=fun {H'} hn b hb=>by
  obtain⟨f0,f1,f3,f4,f5,f6⟩:=f2 b hb;refine⟨hn b hb,?_,?_,.inl (by rw[eX]; exact hb),fun x c e=>?_,fun p hp=>?_⟩
  ·rw[xe]
   show b≠s3.heap.objs.size;exact Nat.ne_of_lt (by rw[hD3]; exact Nat.lt_succ_of_lt (hfd b hb).2)
  ·rw[eX]
   intro z;rcases List.mem_cons.mp (I2.stkSub b z) with r | r
   ·exact f1 r
   ·exact f3 r
  ·rw[xe] at e
   rcases hcin x c e with ⟨q,_⟩ | ⟨_,q,_⟩
   ·exact f5 x c q
   ·have h1:b<s3.heap.objs.size+1:=by rw[hD3]; exact Nat.lt_succ_of_lt (Nat.lt_succ_of_lt (hfd b hb).2)
    exact Nat.ne_of_gt (Nat.lt_of_lt_of_le h1 q)
  ·rw[eX] at hp
   exact f6 p hp
 subst eX;have loop:∀n s',(∃i σ' H',Inv (cxD X scope N' (cellsFrom (s3.heap.objs.size+1) scope.names (clOf X.env.cells scope.names [])) s3.heap.objs.size s3 (upd H2 D (.lst [])) fp) pins σ' H' s'/\tn i s'.heap/\(∀b∈fp,H' b=none)/\W i n σ' H')->
   codeAny (model X.prog X.w) X.A (.compLoop (.ListComp elt [⟨tg,iter,ifs,0⟩] scope pos) 0 (.ref it) (.ref D) (compEnvC scope (cellsFrom (s3.heap.objs.size+1) scope.names (clOf X.env.cells scope.names [])) s3.heap.objs.size X.env)) (compPost (model X.prog X.w) X.A X.xe use R (.ref D) s3.heap.objs.size) s':=by
  intro n0 s0' hI0;refine codeAny_loop rfl (fun n s'=>∃i σ' H',Inv (cxD X scope N' (cellsFrom (s3.heap.objs.size+1) scope.names (clOf X.env.cells scope.names [])) s3.heap.objs.size s3 (upd H2 D (.lst [])) fp) pins σ' H' s'/\tn i s'.heap/\(∀b∈fp,H' b=none)/\W i n σ' H') (fun n s' hI=>?_) n0 hI0;obtain⟨i,σ',H',I',st',fr',w'⟩:=hI;show wpAny _ X.A ((compTurn (.ListComp elt [⟨tg,iter,ifs,0⟩] scope pos) 0 (.ref it) (.ref D) (compEnvC scope (cellsFrom (s3.heap.objs.size+1) scope.names (clOf X.env.cells scope.names [])) s3.heap.objs.size X.env)).onRaise (fun x=>do noteFrame x (compEnvC scope (cellsFrom (s3.heap.objs.size+1) scope.names (clOf X.env.cells scope.names [])) s3.heap.objs.size X.env); theTreesLotGoes x)) _ _ s';refine wpAny_noted ?_;rw[compTurn_list];refine wpAny_bind (wpAny_standAt (wpAny_bind ?_));rcases turn i n σ' H' w' with ⟨stop,qn⟩ | ⟨go,step⟩
  ·refine thn (T.done (cxD X scope N' (cellsFrom (s3.heap.objs.size+1) scope.names (clOf X.env.cells scope.names [])) s3.heap.objs.size s3 (upd H2 D (.lst [])) fp) rfl rfl rfl hc i pins s' σ' H' _ I' (stat fr') st' stop) fun r s4 ⟨hr,I4⟩=>?_
   subst hr;refine wpAny_pure ?_;obtain⟨m,hn,_⟩:=id I4.loc;refine fin D _ H' s4 _ ⟨⟨m,hn⟩,I3.sz,fun e=>?_,fun x c e=>?_,fun p hp=>Nat.ne_of_lt (Heap.lt_size (I3.pin p hp).1),I4.free,fun h' hs'=>leave I4 hs'⟩ qn
   ·obtain⟨m3,hn3,_⟩:=I3.loc
    obtain⟨o3,_,_,ho3,_⟩:=hn3;exact absurd e.symm (Nat.ne_of_lt (Heap.lt_size ho3))
   ·obtain⟨v,hv⟩:=I3.cell x c e
    obtain⟨o3,ho3,_⟩:=hv;exact Nat.ne_of_lt (Heap.lt_size ho3)
  ·refine thn (T.item (cxD X scope N' (cellsFrom (s3.heap.objs.size+1) scope.names (clOf X.env.cells scope.names [])) s3.heap.objs.size s3 (upd H2 D (.lst [])) fp) rfl rfl rfl hc i pins s' σ' H' _ I' (stat fr') st' go) fun r s4 ⟨u,hr,h4⟩=>?_
   subst hr;refine wpAny_bind (thn h4 fun _ s5 ⟨x,H5,I5,r5,y5,st5,fr5⟩=>?_);have I5':=I5.pinned (stat fr5) (T.obj _ _ st5);refine wpAny_bind (wpAny_mono (hg' _ s5 σ' H5 x u _ I5' r5 (step x H5 y5)) (fun _ s6 h6=>?_) fun _ _ z=>z.elim);obtain⟨σ6,H6,I6,q6⟩:=h6;refine wpAny_bind (wpAny_mono (ht' _ s6 σ6 H6 _ I6 q6) (fun ok s7 h7=>?_) fun _ _ z=>z.elim);obtain⟨H7,I7,q7⟩:=h7;have again:∀{σ8:St} {H8:Hp} {s8:Shared} {m':Nat},Inv (cxD X scope N' (cellsFrom (s3.heap.objs.size+1) scope.names (clOf X.env.cells scope.names [])) s3.heap.objs.size s3 (upd H2 D (.lst [])) fp) (pins++zcG fp s5.heap) σ8 H8 s8->m'<n->W (i+1) m' σ8 H8->
     ∃m,m<n/\∃i σ' H',Inv (cxD X scope N' (cellsFrom (s3.heap.objs.size+1) scope.names (clOf X.env.cells scope.names [])) s3.heap.objs.size s3 (upd H2 D (.lst [])) fp) pins σ' H' s8/\tn i s8.heap/\(∀b∈fp,H' b=none)/\W i m σ' H':=fun {σ8 H8 s8 m'} I8 hm w8=>by
    refine⟨m',hm,i+1,σ8,H8,I8.unpinned,T.keep _ _ _ st5 fun b hb o e=>(I8.pin (b,o) (List.mem_append_right _ (List.mem_append_right _ (zao hb e)))).1,fun b hb=>?_,w8⟩;obtain⟨o,e,d⟩:=T.obj _ _ st5 b hb;exact (I8.pin (b,o) (List.mem_append_right _ (List.mem_append_right _ (zao hb e)))).2.1
   cases ok with
   | false=>
    obtain⟨m',hm,w7⟩:=q7;exact wpAny_pure ⟨rfl,again I7 hm w7⟩
   | true=>
    refine wpAny_bind (wpAny_bind (wpAny_mono (he' _ s7 σ6 H7 _ I7 q7) (fun v s8 h8=>?_) fun _ _ z=>z.elim));obtain⟨y,H8,I8,r8,ys,m',hD8,hl8,hm8,w8⟩:=h8;refine wpAny_bind (wpAny_mono (zR (X:=cxD X scope N' (cellsFrom (s3.heap.objs.size+1) scope.names (clOf X.env.cells scope.names [])) s3.heap.objs.size s3 (upd H2 D (.lst [])) fp) _ s8 σ6 H8 (.ref D) [y] (.ref D) [v] (fun _ H9=>H9=upd H8 D (.lst (ys++[y]))) I8 rfl (.cons r8 .nil) ⟨D,ys,y,rfl,rfl,hD8,hl8,rfl⟩) (fun _ s9 h9=>?_) fun _ _ z=>z.elim);obtain⟨_,H9,I9,_,e9⟩:=h9;subst e9;exact wpAny_pure (wpAny_pure ⟨rfl,again I9 hm8 w8⟩)
 have start:∃i σ' H',Inv (cxD X scope N' (cellsFrom (s3.heap.objs.size+1) scope.names (clOf X.env.cells scope.names [])) s3.heap.objs.size s3 (upd H2 D (.lst [])) fp) pins σ' H' { s3 with heap:=h₁ }/\tn i ({ s3 with heap:=h₁ }:Shared).heap/\(∀b∈fp,H' b=none)/\W i m0 σ' H':=by
  refine⟨0,zcS caps σ,upd H2 D (.lst []),Ic,T.keep 0 _ _ st2 fun b hb o e=>hold b o (by rw[h3]; exact Heap.get?_push_of_some _ e),fun b hb=>?_,w0⟩;rw[upd_ne (hfd b hb).1];exact (f2 b hb).1
 have es:({ s2 with heap:=h₁ }:Shared)={ s3 with heap:=h₁ }:=by rw[e3]
 show codeAny (model X.prog X.w) X.A _ _ ({ s2 with heap:=h₁ }:Shared);rw[es];refine codeAny_compStart_list (loop m0 _ start) (T.self _ 0 _ _ _ ?_ (loop m0 _ start));exact T.keep 0 _ _ st2 fun b hb o e=>hold b o (by rw[h3]; exact Heap.get?_push_of_some _ e)
theorem zh7 {i:Nat}{x:Str}{pos' spos:Pos} (hc:X.calm=true) (hk:scope.kind=.function) (hcellL:∀y∈scope.names,y.2=.cell->scope.names.lookup y.1=some .cell) (hfreeL:∀y∈scope.names,y.2=.free->scope.names.lookup y.1=some .free) (hnames:∀y∈scope.names,y.2=.local->scope.names.lookup y.1=some .local)
  (hfr:∀y∈scope.names,y.2=.free->X.env.kindOf y.1=some .cell \/ X.env.kindOf y.1=some .free) (hcap:zfR X.N N' caps scope)
  (hi:PI X tg iter wi) (hg:∀cl C s₀ H₀ ex,PG (cxD X scope N' cl C s₀ H₀ ex) tg g) (ht:∀cl C s₀ H₀ ex,PTL (cxD X scope N' cl C s₀ H₀ ex) ifs tc) (he:∀cl C s₀ H₀ ex,PE (cxD X scope N' cl C s₀ H₀ ex) elt te)
  (hs:∀x,foldedSetIterable iter X.env x=pure x) (hN:X.N.Nodup) (hi':X.N[i]?=some x) (hx:Loc X.env.scope x) (hf:X.fn x=true \/ X.env.scope.names.lookup x=some .local)
  (hsw:swapsWith (.ListComp elt [⟨tg,iter,ifs,0⟩] scope pos) (some (.Name x pos')) spos.line X.env=pure true) :
  PS X (.Assign [.Name x pos'] (.ListComp elt [⟨tg,iter,ifs,0⟩] scope pos) spos) (tAsg (tLC wi caps g tc te) (zap i)):=by
 intro pins s σ H D I h;rw[exec_Assign_Name_used _ _ _ _ hsw];refine wpAny_bind (wpAny_standAt (wpAny_bind ?_));show wpAny _ X.A (do let _ <- comprehension (.ListComp elt [⟨tg,iter,ifs,0⟩] scope pos) scope X.env _ (newList []) (firstAsync [⟨tg,iter,ifs,0⟩]) (firstIter [⟨tg,iter,ifs,0⟩] X.env) (some (assign (.Name x pos') X.env))) _ _ s;refine wpAny_bind (wpAny_mono (zfE (use:=some (assign (.Name x pos') X.env)) (R:=fun _ s'=>SP X pins D .next s') hc hk hcellL hfreeL hnames hfr hcap hi hg ht he hs I h fun Dl C H' s4 f L q=>?_) (fun _ s' hq=>wpAny_pure (wpAny_pure hq)) fun _ _ e=>e);show wpAny _ X.A (assign (.Name x pos') X.env (.ref Dl)) _ _ s4;refine wpAny_assign_Name (zcc (v:=.ref Dl) (L.back s4.heap (Heap.SameBut.refl _ _)) hN hi' hx rfl (fun s5 I5 ⟨a,hsa,ha⟩=>?_) hf);have hCa:C≠a:=by
  rcases ha with e | e
  ·rw[e]; exact L.nl
  ·exact fun z=>L.nc x a e z.symm
 obtain⟨m,hn⟩:=L.ns;refine⟨m,hn.sameBut hsa hCa,fun h' hs'=>⟨_,H',?_,q⟩⟩;refine I5.call' (s':={ s5 with heap:=h' }) (ch:=[C]) rfl ⟨fun b o q n hb hx=>?_,fun b o q n hb hx=>?_,fun b o q n hx=>n,fun b o q hx=>?_,fun b xs q=>q,fun b o u q=>q,fun b ps q=>⟨#[],by simpa using q⟩⟩ ?_ I5.bare fun b hb=>?_
 ·exact (hs'.2 b (by simpa using hx)).trans q
 ·exact⟨o.slots,(hs'.2 b (by simpa using hx)).trans q⟩
 ·exact⟨o,(hs'.2 b (by simpa using hx)).trans q⟩
 ·intro b u e
  refine (I5.hok b u e).stay (fun c v hc q=>(hs'.2 c ?_).trans q) (fun _ q=>q) fun _ _ q=>q;rintro rfl;rcases hc with z | z
  ·rw[<- z,L.no] at e; cases e
  ·rw[L.no] at z; cases z
 ·have e:b=C:=by simpa using hb
  subst e;exact⟨.inr L.far,L.nl,L.nc,L.np⟩
end
section
variable {X:Cx}{scope:Scope}{caps:List (Option Nat)}{tg iter elt:Expr}{ifs:List Expr}{wi:TI}{g:TG}{tc:TT}{te:TE}{pos:Pos}
theorem zh0 {i:Nat}{x:Str}{pos' spos:Pos} (hnd:X.N.Nodup) (hi':X.N[i]?=some x) (hx:Loc X.env.scope x) (N N':List Str) (caps:List (Option Nat)) (hi:PI X tg iter wi) (hg:∀cl C s₀ H₀ ex,PG (cxD X scope N' cl C s₀ H₀ ex) tg g) (ht:∀cl C s₀ H₀ ex,PTL (cxD X scope N' cl C s₀ H₀ ex) ifs tc) (he:∀cl C s₀ H₀ ex,PE (cxD X scope N' cl C s₀ H₀ ex) elt te)
  (hc:X.calm=true:=by rfl) (hk:scope.kind=.function:=by rfl) (hcellL:∀y∈scope.names,y.2=.cell->scope.names.lookup y.1=some .cell:=by decide +kernel) (hfreeL:∀y∈scope.names,y.2=.free->scope.names.lookup y.1=some .free:=by decide +kernel) (hnames:∀y∈scope.names,y.2=.local->scope.names.lookup y.1=some .local:=by decide +kernel)
  (hfr:∀y∈scope.names,y.2=.free->X.env.kindOf y.1=some .cell \/ X.env.kindOf y.1=some .free) (hN:X.N=N:=by rfl) (hcap:capB N N' caps scope=true:=by decide +kernel)
  (hs:∀x,foldedSetIterable iter X.env x=pure x:=by intro _; rfl) (hf:X.fn x=true \/ X.env.scope.names.lookup x=some .local:=by first | exact .inl rfl | exact .inr rfl | assumption)
  (hsw:swapsWith (.ListComp elt [⟨tg,iter,ifs,0⟩] scope pos) (some (.Name x pos')) spos.line X.env=pure true:=by rfl) :
  PS X (.Assign [.Name x pos'] (.ListComp elt [⟨tg,iter,ifs,0⟩] scope pos) spos) (tAsg (tLC wi caps g tc te) (zap i)):=
 zh7 hc hk hcellL hfreeL hnames hfr (zcR (by rw[hN]; exact hcap)) hi hg ht he hs hnd hi' hx hf hsw
end
end L2
end
section
namespace L2
open PySem PySem.Spec PyProof.Rows
section
variable {X:Cx}{scope:Scope}{caps:List (Option Nat)}{tg iter elt:Expr}{ifs:List Expr}{wi:TI}{g:TG}{tc:TT}{te:TE}{pos:Pos}
end
theorem zlE {env env0:Env}{scope osc:Scope} (hsc:env.scope=relabel osc env0) (h:scope.names.all (fun y=>decide (y.2≠.free) || decide (osc.names.lookup y.1=some .cell) || decide (osc.names.lookup y.1=some .free))=true):∀y∈scope.names,y.2=.free->env.kindOf y.1=some .cell \/ env.kindOf y.1=some .free:=by
 intro y hy e;have:=List.all_eq_true.mp h y hy;simp only[Bool.or_eq_true,decide_eq_true_eq] at this;have key:osc.names.lookup y.1=some .free \/ osc.names.lookup y.1=some .cell:=by
  rcases this with (q | q) | q
  ·exact absurd e q
  ·exact .inr q
  ·exact .inl q
 have:=zax (scope:=osc) (env:=env0) key;unfold Env.kindOf;rw[hsc];rcases this with q | q
 ·exact .inr q
 ·exact .inl q
end L2
end
section
namespace K43
open K1
open PySem L2 STb
abbrev zdJ:Stmt:=top 37
abbrev nmG:List Str:=["box","many","size","first","found"]
abbrev tRow:TE:=tOp (rI0 fun i j=>.int (i+j)) (tOp (rI0 fun i j=>.int (i+j)) (tVar 1) (tVar 2)) (tVar 0)
def rowL (size:Nat) (first:Int) (k:Nat):List Int:=(List.range size).map fun j:Nat=>first+(k:Int)+(j:Int)
section
variable {P:Program}{w:World}{K:PySem.W.Frag}{mg:Str->Option Value}{base:Heap}
theorem zix {H2:Hp}{D:Addr}{size:Nat}{first:Int}{k0:Nat}{kv:Int} (hk:kv=(k0:Int)) {Q:VK} (hz:size<=10) (hD:H2 D=none)
  (k:∀(H3:Hp),Same H2 H3->H3 D=some (.lst ((rowL size first k0).map V.int))->Q (.ref D) H3) :
  zau (Itr 0 size) (zap 0) tYes tRow [none,some (.int first),some (.int kv)] H2 D Q:=by
 subst hk;refine za7 (fun j σ ys H3=>∃v,σ=[v,some (.int first),some (.int (k0:Int))]/\Same H2 H3/\H3 D=some (.lst ys)/\ys=((rowL size first k0).take j).map V.int) ?_ ?_ ?_
 ·exact⟨none,rfl,Same.new hD,zd,rfl⟩
 ·rintro j σ ys H3 hj hy ⟨v,rfl,sm,hD3,rfl⟩
  refine gyes ?_;refine⟨_,rfl,_,rfl,_,_,rfl,rfl,_,rfl,_,_,rfl,rfl,cput (zh (by omega)) hj hy hD3 ⟨_,rfl,sm.then hD,zd,?_⟩⟩;have e:(rowL size first k0)[j]?=some (first+(k0:Int)+(0+(j:Int))):=by unfold rowL; rw[List.getElem?_map,List.getElem?_range hj,Int.zero_add]; rfl
  rw[take_snoc e,List.map_append]; rfl
 ·rintro σ ys H3 ⟨v,rfl,sm,hD3,rfl⟩
  rw[List.take_of_length_le (by unfold rowL; simp)] at hD3;exact k H3 sm hD3
abbrev zkP (K:PySem.W.Frag):TE:=tCB (fun xs H Q=>∃p ys,xs=[V.ref p]/\((SqL K H p ys/\∀l,H l=none->Q (.ref l) (upd H l (.tup ys))) \/ (SqT K H p ys/\Q (.ref p) H))) (zbc (tLC (zk5 (zbc (tVar 2) tNil)) [none,some 1,some 0] (zap 0) tYes tRow) tNil)
theorem zhs {H2:Hp}{D:Addr}{many size:Nat}{first:Int}{Q:VK} (hm:many<=20) (hz:size<=10) (hD:H2 D=none)
  (k:∀(H3:Hp) (bs:List Addr),Same H2 H3->H3 D=some (.lst (bs.map V.ref))->Tps H3 bs ((List.range many).map (rowL size first))->Q (.ref D) H3) :
  zau (Itr 0 many) (zap 0) tYes (zkP K) [none,some (.int first),some (.int (size:Int))] H2 D Q:=by
 refine za7 (fun j σ ys H3=>∃(v:Option V) (bs:List Addr),σ=[v,some (.int first),some (.int (size:Int))]/\Same H2 H3/\H3 D=some (.lst ys)/\ys=bs.map V.ref/\Tps H3 bs (((List.range many).map (rowL size first)).take j)) ?_ ?_ ?_
 ·exact⟨none,[],rfl,Same.new hD,zd,rfl,.nil⟩
 ·rintro j σ ys H3 hj hy ⟨v,bs,rfl,sm,hD3,rfl,hb⟩
  have e:((List.range many).map (rowL size first))[j]?=some (rowL size first j):=by rw[List.getElem?_map,List.getElem?_range hj]; rfl
  refine gyes ?_;refine⟨_,rfl,_,rfl,by omega,by omega,fun D2 hD2=>zN ?_⟩;rw[Int.toNat_natCast];refine zix (k0:=j) (by omega) hz hD2 fun H4 s4 hD4=>⟨D2,_,rfl,.inl ⟨SqL.of hD4,fun t ht=>?_⟩⟩;have s5:=s4.trans (Same.new (o:=.tup ((rowL size first j).map V.int)) ht);refine cput (zh (by omega)) hj hy (s5 _ _ hD3) ⟨_,bs++[t],rfl,(sm.trans s5).then hD,zd,by rw[List.map_append]; rfl,?_⟩;rw[take_snoc e];exact Tps.upd (Tps.snoc (s5.tps hb) zd) (s5 _ _ hD3) (by intro xs z; cases z)
 ·rintro σ ys H3 ⟨v,bs,rfl,sm,hD3,rfl,hb⟩
  rw[List.take_of_length_le (by simp)] at hb;exact k H3 bs sm hD3 hb
theorem shape_mem {m s:Nat} (h1:m<10) (h2:s<2) (b:Bool):(m+8,s+3,b)∈shapes:=by
 unfold shapes;refine List.mem_flatMap.mpr ⟨m,List.mem_range.mpr h1,?_⟩;have:s=0 \/ s=1:=by omega
 rcases this with rfl | rfl <;> cases b <;> simp
theorem zg9 (many size:Nat) (first:Int):(List.range many).map (rowL size first)=(lw many size false).map (ren first 1):=by
 unfold lw;rw[if_neg (by decide),List.append_nil,List.map_map];refine List.map_congr_left fun k _=>?_;show rowL size first k=ren first 1 _;unfold rowL ren;rw[List.map_map];exact List.map_congr_left fun j _=>by show first+(k:Int)+(j:Int)=first+1*((k:Int)+(j:Int)); omega
theorem rows_ring (many size:Nat) (first:Int):(List.range many).map (rowL size first)++[[first,first+many+size - 2]]=(lw many size true).map (ren first 1):=by
 rw[zg9];unfold lw;rw[if_neg (by decide),if_pos rfl,List.append_nil,List.map_append]
 congr 1
 show _=[[first+1*0,first+1*((many:Int)+size - 2)]];rw[show first+(many:Int)+size - 2=first+1*((many:Int)+size - 2) by omega,show first+1*0=first by omega]
def zi2:Sp:=fun vs H Q _=>∃p,vs=[.ref p]/\zab H p/\∀D bs qss H',zae p H H'->zab H' p->H D=none->H' D=some (.lst (bs.map V.ref))->Tps H' bs qss->zh1 qss->Q (.ref D) H'
theorem zd9:zt nmG ["box"] (zg zdJ):=⟨rfl,rfl,rfl,by decide +kernel,rfl,by decide +kernel,by decide +kernel⟩
theorem zkg {f ft:Addr}{fd fdt:FuncData} (F:Fun K "_law_long" "_law_long" zdJ f fd) (B:Bt mg) (Ft:Fun K "_law_take" "_law_take" zcu ft fdt) (bt:Binds K fdt ["box","most"] []) (mt:mg "_law_take"=some (.ref ft)) :
  FnOk P w K mg base CX0 2 f fd ["box"] zi2:=by
 have Gt:FnOk P w K mg base CX0 1 ft fdt ["box","most"] zdW:=zc3 Ft;refine F.ok zd9 (fun vs H Q E h=>?_) (fun cdv A outer s H vs Q E hr h=>?_)
 ·obtain⟨p,rfl,_⟩:=h; rfl
 ·obtain⟨p,rfl,hb,k⟩:=h
  refine⟨_,zf (zq (i:=1) zd9.nd rfl (Or.inl rfl) (zC zah zj (zl Gt hr rfl mt Ft.kp bt .nil pass0 (zc (pv 0) (zc zj ze)))))
   (zf (zq (i:=2) zd9.nd rfl (Or.inr rfl) (zC zah zj (zl Gt hr rfl mt Ft.kp bt .nil pass0 (zc (pv 0) (zc zj ze)))))
   (zf (zq (i:=3) zd9.nd rfl (Or.inr rfl) (zl Gt hr rfl mt Ft.kp bt .nil pass0 (zc (pv 0) (zc zj ze))))
   (zf (zh0 (i:=4) zd9.nd rfl (Or.inl rfl) nmG ["k","first","size"] [none,some 3,some 2] (zar rfl B.range (zc (pv 1) ze)) (fun cl C s₀ H₀ ex=>zm (i:=0) (ndN ["k","first","size"]) rfl (Or.inr rfl)) (fun cl C s₀ H₀ ex=>zas)
     (fun cl C s₀ H₀ ex=>zL zal rfl B.tuple zb4 (zc (zI ["k","first","size"] ["j","first","k"] [none,some 1,some 0] (zar rfl B.range (zc (pv 2) ze)) (fun cl C s₀ H₀ ex=>zm (i:=0) (ndN ["j","first","k"]) rfl (Or.inl rfl)) (fun cl C s₀ H₀ ex=>zas)
      (fun cl C s₀ H₀ ex=>zC zah (zC zah (pv 1) (pv 2)) (pv 0)) (hfr:=zlE rfl (by decide +kernel)) (te:=tRow)) ze)) (hfr:=frOf (zg zdJ) (by decide +kernel)) (te:=zkP K))
   (zf (zav (zx zeB (zl Gt hr rfl mt Ft.kp bt .nil pass0 (zc (pv 0) (zc zj ze))) zj (nomark _))
    (zi (zaq (zbR PySem.F.plainAttrs_list PySem.F.slot_list_append PySem.F.type_list_append zR (pv 4) (zc (zaF (zc (pv 3) (zc (zC ziW (zC zah (zC zah (pv 3) (pv 1)) (pv 2)) zj) ze))) ze)))) zD)
   (zi (zr (pv 4))))))),?_⟩
  refine⟨_,rfl,p,10,rfl,hb,by decide,by decide,fun r1 H1 a0 a1 sb1 hb1=>⟨_,_,rfl,rfl,?_⟩⟩;refine⟨_,rfl,p,2,rfl,hb1,by decide,by decide,fun r2 H2 b0 b1 sb2 hb2=>⟨_,_,rfl,rfl,?_⟩⟩;refine⟨_,rfl,p,40,rfl,hb2,by decide,by decide,fun first H3 c0 c1 sb3 hb3=>?_⟩;have sb123:=(sb1.trans sb2).trans sb3;obtain⟨m,rfl⟩:=Int.eq_ofNat_of_zero_le a0;obtain⟨z,rfl⟩:=Int.eq_ofNat_of_zero_le b0;have e8:(8:Int)+(m:Int)=((m+8:Nat):Int):=by omega
  have e3:(3:Int)+(z:Int)=((z+3:Nat):Int):=by omega
  simp only[e8,e3];refine⟨_,rfl,_,rfl,by omega,by omega,fun D hD=>zN ?_⟩;rw[Int.toNat_natCast];refine zhs (by omega) (by omega) hD fun H4 bs s4 hD4 hb4=>?_;have hD0:H D=none:=sb123.free hb hb3 hD;have hbl:=hb4.length;rw[List.length_map,List.length_range] at hbl;refine⟨_,rfl,p,2,rfl,hb3.same s4,by decide,by decide,fun r H5 r0 r1 sb5 hb5=>⟨rfl,_,rfl,?_⟩⟩;have hDp:D≠p:=(hb3.same s4).ne hD4;have sb4:zae p H H4:=fun b o hb' e=>s4 _ _ (sb123 b o hb' e);have hD5:=sb5 _ _ hDp hD4;have ht5:=sb5.tps (hb3.same s4) hb4;refine ite2 (fun e=>?_) (fun e=>⟨_,rfl,k D bs _ H5 (sb4.trans sb5) hb5 hD0 hD5 ht5 ⟨_,shape_mem (by omega) (by omega) false,first,c0,c1,zg9 _ _ _⟩⟩);refine⟨_,rfl,.inl ⟨rfl,_,SqL.of hD5⟩,_,rfl,_,rfl,_,rfl,_,_,rfl,rfl,_,rfl,_,_,rfl,rfl,_,_,rfl,rfl,zh (by simp),fun t ht=>⟨D,_,_,rfl,rfl,(Same.new ht) _ _ hD5,by rw[List.length_map]; exact zS (by omega),?_⟩⟩;have s6:=Same.new (o:=.tup [.int first,.int (first+((m+8:Nat):Int)+((z+3:Nat):Int) - 2)]) ht;have hb6:=s6.tps ht5;refine⟨_,rfl,k D (bs++[t]) _ _ ((sb4.trans sb5).trans (zae.of s6) |>.then hD0) ((hb5.same s6).upd hDp) hD0 (by rw[zd,List.map_append]; rfl) (Tps.upd (Tps.snoc hb6 (show Tp _ t [first,first+((m+8:Nat):Int)+((z+3:Nat):Int) - 2] from zd)) (s6 _ _ hD5) (by intro xs z; cases z)) ⟨_,shape_mem (by omega) (by omega) true,first,c0,c1,rows_ring _ _ _⟩⟩
end
end K43
end
section
namespace L2
open PySem PySem.Spec PyProof.Rows
section
variable {X:Cx}
theorem zfM:OpR X (compareOp .IsNot) (fun x y H Q=>∃a b:Bool,x=.bl a/\y=.bl b/\Q (.bl (a != b)) H):=by
 intro pins s σ H x y v u Q I rx ry h;obtain⟨a,b,rfl,rfl,q⟩:=h;cases rx;cases ry;exact isnot_bool (fin_bl I q rfl)
end
end L2
namespace K43
open K1
open PySem L2 STb
abbrev sLaw:Stmt:=top 38
abbrev nmL:List Str:=["script","box","web","handed","turn","found","known","pair"]
structure Gd (pss:List (List Int)):Prop where
 hw:webM pss=true
 few:(canon pss).length<200
 top:∀zs M,run (canon pss) zs=some M->M=gM (canon pss).length (canon pss)->(tops M).length<=20
theorem Gd.drawn {pss:List (List Int)} (d:Drawn pss):Gd pss:=by
 have h56:=zht d;exact⟨(zdv d).1,by rw[zaG]; omega,fun zs M h _=>Nat.le_trans (tops19 d h) (by decide)⟩
theorem Gd.long {pss:List (List Int)} (d:zh1 pss):Gd pss:=by
 have h:=zfj d;refine⟨h.1,h.2.2.2,fun zs M hr e=>?_⟩;have c:=(zbP (Cl.of h.1) hr).1;rw[e] at c ⊢;exact zgy d c
theorem Gd.left {pss:List (List Int)} (g:Gd pss) {zs:List Pp}{M:List (List Int)} (hr:run (canon pss) zs=some M) (e:M=gM (canon pss).length (canon pss)):webS (tops M)/\canon (tops M)=M:=by
 obtain⟨c,sub⟩:=zbP (Cl.of g.hw) hr;have hl:=sub.length_le;have hlt:=g.few;have ec:canon (tops M)=M:=by
  have:=zeC c.pc;rw[c.can] at this;exact this
 refine⟨⟨zgg (g.top zs M hr e) ((sub.nodup (zZ pss)).filter _) (fun p hp=>c.pc p (List.mem_filter.mp hp).1) (by rw[<- zaG,ec]; omega),by rw[ec]; omega⟩,ec⟩
section
variable {P:Program}{w:World}{K:PySem.W.Frag}{mg:Str->Option Value}{base:Heap}
def zij (K:PySem.W.Frag):Sp:=fun vs H Q _=>∃(a:Addr) (ns:List Int),vs=[.ref a]/\SqL K H a (ns.map V.int)/\ns.length<=63/\∀H',Q (.bl true) H'
theorem zcv:zt nmL ["script"] (zg sLaw):=⟨rfl,rfl,rfl,by decide +kernel,rfl,by decide +kernel,by decide +kernel⟩
theorem zlc {f fc fb ft fw fl fp fe fh fg fi:Addr}{fd fdc fdb fdt fdw fdl fdp fde fdh fdg fdi:FuncData} (F:Fun K "law" "law" sLaw f fd) (B:Bt mg)
  (Fc:Fun K "_law_cell_at" "_law_cell_at" zeu fc fdc) (bc:Binds K fdc ["script","k"] []) (mc:mg "_law_cell_at"=some (.ref fc))
  (Fb:Fun K "_law_box" "_law_box" sBox fb fdb) (bb:Binds K fdb ["cell"] []) (mb:mg "_law_box"=some (.ref fb))
  (Ft:Fun K "_law_take" "_law_take" zcu ft fdt) (bt:Binds K fdt ["box","most"] []) (mt:mg "_law_take"=some (.ref ft))
  (Fw:Fun K "_law_web" "_law_web" sWeb fw fdw) (bw:Binds K fdw ["box"] []) (mw:mg "_law_web"=some (.ref fw)) (Gw:FnOk P w K mg base CX0 3 fw fdw ["box"] zlm)
  (Fh:Fun K "_law_long" "_law_long" zdJ fh fdh) (bh:Binds K fdh ["box"] []) (mh:mg "_law_long"=some (.ref fh)) (Gh:FnOk P w K mg base CX0 2 fh fdh ["box"] zi2)
  (Fl:Fun K "_law_pieces" "_law_pieces" zaM fl fdl) (bl:Binds K fdl ["web"] []) (ml:mg "_law_pieces"=some (.ref fl)) (Gl:FnOk P w K mg base CX0 2 fl fdl ["web"] (zgY K))
  (Fp:Fun K "pushes" "pushes" zbi fp fdp) (bp:Binds K fdp ["web"] []) (mp:mg "pushes"=some (.ref fp)) (Gp:FnOk P w K mg base CX0 9 fp fdp ["web"] (zff K))
  (Fe:Fun K "_law_free" "_law_free" zb7 fe fde) (be:Binds K fde ["known"] []) (me:mg "_law_free"=some (.ref fe)) (Ge:FnOk P w K mg base CX0 3 fe fde ["known"] (zgD K))
  (Fg:Fun K "_law_greatest" "_law_greatest" zdR fg fdg) (bg:Binds K fdg ["known"] []) (mg':mg "_law_greatest"=some (.ref fg)) (Gg:FnOk P w K mg base CX0 3 fg fdg ["known"] (ziQ K))
  (Fi:Fun K "is_pushed" "is_pushed" zeU fi fdi) (bi:Binds K fdi ["web","pairs","other"] []) (mi:mg "is_pushed"=some (.ref fi)) (Gi:FnOk P w K mg base CX0 9 fi fdi ["web","pairs","other"] (zjb K)) :
  FnOk P w K mg base CX0 10 f fd ["script"] (zij K):=by
 have Gc:FnOk P w K mg base CX0 1 fc fdc ["script","k"] (ziR K):=zkp Fc B;have Gb:FnOk P w K mg base CX0 1 fb fdb ["cell"] zlz:=zlo Fb;have Gt:FnOk P w K mg base CX0 1 ft fdt ["box","most"] zdW:=zc3 Ft;refine F.ok zcv (fun vs H Q E h=>?_) (fun cdv A outer s H vs Q E hr h=>?_)
 ·obtain⟨a,ns,rfl,_⟩:=h; rfl
 ·obtain⟨a,nn,rfl,hS,hn,k⟩:=h
  have hu64:=hr.units;have hr1:Room 1 _:=hr.mono (by decide);have hr2:Room 2 _:=hr.mono (by decide);have hr3:Room 3 _:=hr.mono (by decide);have R3:∃tr,PSs (cxOf CX0 P w K mg base nmL "law" (zg sLaw) f cdv A outer s H E).nox (List.drop 3 (zo sLaw)) tr/\
    ∀(p O:Addr) (os:List Addr) (pss:List (List Int)) (H1:Hp),H1 O=some (.lst (os.map V.ref))->Tps H1 os pss->Gd pss->
     tr { nx:=fun _ H'=>Q .non H',rt:=Q } [some (.ref a),some (.ref p),some (.ref O),none,none,none,none,none] H1:=by
   refine⟨_,zf (zq (i:=3) zcv.nd rfl (Or.inl rfl) (zL zaW rfl B.list zbJ (zc (pv 2) ze)))
    (zf (zaa PassesOwn.never rfl (zar rfl B.range (zc zj ze)) (zm (i:=4) zcv.nd rfl (Or.inl rfl))
     (zf (zq (i:=5) zcv.nd rfl (Or.inl rfl) (zl Gp hr rfl mp Fp.kp bp .nil pass0 (zc (pv 3) ze)))
     (zf (zav (PW.pt (zgh (zcA (zd8 (zu zeT rfl B.isinstance zaR (zc (pv 5) (zc (zeF (v:=.ty "tuple") rfl B.tuple zb4 rfl) ze))))) (zgh (zx zkS (zu zn rfl B.len za3 (zc (pv 5) ze)) zj (nomark _)) (zfs (zx (zha hu64) (pv 3) (pv 2) (nomark _)))))) (zi (zr zaY)) zD)
     (zf (zav (PW.pt (zgh (zcA (zd8 (zu zcd rfl B.isinstance zaR (zc (zai zaT (pv 5) zj (fun _ _=>rfl)) (zc (zeF (v:=.ty "list") rfl B.list zbJ rfl) ze))))) (zfs (zcA (zd8 (zu zcd rfl B.isinstance zaR (zc (zai zaT (pv 5) zj (fun _ _=>rfl)) (zc (zeF (v:=.ty "list") rfl B.list zbJ rfl) ze)))))))) (zi (zr zaY)) zD)
     (zf (zq (i:=6) zcv.nd rfl (Or.inl rfl) (zl Gl hr2 rfl ml Fl.kp bl .nil pass0 (zc (pv 2) ze)))
     (zf (zaa PassesOwn.never rfl (zz (zai zaT (pv 5) zj (fun _ _=>rfl))) (zm (i:=7) zcv.nd rfl (Or.inr rfl))
      (zf (zav (zx (r:=zkf true K) (zcM hu64) (pv 7) (zl Ge hr3 rfl me Fe.kp be .nil pass0 (zc (pv 6) ze)) (by with_unfolding_all rfl)) (zi (zr zaY)) zD)
      (zi (zjv (i:=6) zcv.nd rfl (Or.inl rfl) nmL ["one","pair"] [none,some 7] (zz (pv 6)) (fun cl C s₀ H₀ ex=>zm (i:=0) (ndN ["one","pair"]) rfl (Or.inl rfl))
       (fun cl C s₀ H₀ ex=>zbk (zx (zec (in1_units hu64)) (pv 0) (pv 1) (by with_unfolding_all rfl))) (fun cl C s₀ H₀ ex=>pv 0) (hfr:=frOf (zg sLaw) (by decide +kernel)) (tc:=zd0 (tOp (rInP true K) (tVar 0) (tVar 1)))))))
     (zf (zav (PW.pt (zgh (zx (zkL hu64) (zl Ge hr3 rfl me Fe.kp be .nil pass0 (zc (pv 6) ze)) (z0 ze) (nomark _)) (zfs (zx (zha hu64) (zai zaT (pv 5) zj (fun _ _=>rfl)) (zl Gg hr3 rfl mg' Fg.kp bg .nil pass0 (zc (pv 6) ze)) (nomark _))))) (zi (zr zaY)) zD)
     (zf (zav (zx zfM (zl Gi hr rfl mi Fi.kp bi .nil pass0 (zc (pv 3) (zc (zL zaW rfl B.list zbJ (zc (zai zaT (pv 5) zj (fun _ _=>rfl)) ze)) (zc (zL zaW rfl B.list zbJ (zc (zai zaT (pv 5) zj (fun _ _=>rfl)) ze)) ze)))) zaY (nomark _)) (zi (zr zaY)) zD)
     (zf (zaq (zbR PySem.F.plainAttrs_list PySem.F.slot_list_append PySem.F.type_list_append zR (zai zaT (pv 5) zj (fun _ _=>rfl)) (zc (zaF ze) ze)))
     (zi (zaq (zbR PySem.F.plainAttrs_list PySem.F.slot_list_append PySem.F.type_list_append zR (zai zaT (pv 5) zj (fun _ _=>rfl)) (zc (zaF ze) ze)))))))))))))
    (zi (zr zaY))),?_⟩
   intro p O os pss H1 hO1 ho1 gd;have hw:=gd.hw;have h200:=gd.few;obtain⟨h20,hpc,h5,_⟩:=zer hw;have hws:webS pss:=⟨hw,by omega⟩;have c0:Cl (canon pss):=Cl.of hw;refine⟨_,rfl,O,_,rfl,.inl (SqL.of hO1),fun HD hHD=>?_⟩;have sH:=Same.new (o:=.lst (os.map V.ref)) hHD;refine⟨_,rfl,by decide,by decide,zco (lo:=0) (n:=2) (fun j σ H5=>∃v4 v5 v6 v7:Option V,σ=[some (.ref a),some (.ref p),some (.ref O),some (.ref HD),v4,v5,v6,v7]/\H5 O=some (.lst (os.map V.ref))/\H5 HD=some (.lst (os.map V.ref))/\Tps H5 os pss) ⟨none,none,none,none,rfl,sH _ _ hO1,zd,sH.tps ho1⟩ ?_ ?_⟩
   ·rintro j σ H5 hj ⟨v4,v5,v6,v7,rfl,hO5,hH5,ho5⟩
    refine⟨_,rfl,HD,os,pss,rfl,SqL.of hH5,ho5,hws,h200,fun T0 RD TD H6 rs zs M bs s6 hR0 hT0 nRT hfr hgM hT6 hR6 hrs6 hrun hzl hTD6 hbs6=>?_⟩;have hO6:=s6 _ _ hO5;have hH6:=s6 _ _ hH5;have ho6:=s6.tps ho5;refine⟨_,rfl,T0,_,rfl,hT6,_,rfl,iteF ⟨_,rfl,T0,_,rfl,.inr (SqT.of hT6),rfl,_,rfl,iteF ⟨_,rfl,_,rfl,.inr ⟨HD,O,os,os,pss,pss,rfl,rfl,SqL.of hH6,ho6,SqL.of hO6,ho6,?_⟩⟩⟩⟩;rw[if_pos rfl,decide_eq_true rfl];refine⟨_,rfl,iteF ?_⟩;refine⟨_,rfl,T0,_,_,_,rfl,rfl,SqT.of hT6,zJ (j:=0) rfl,RD,_,rfl,hR6,_,rfl,iteF ⟨_,rfl,T0,_,_,_,rfl,rfl,SqT.of hT6,zJ (j:=1) rfl,TD,_,rfl,hTD6,_,rfl,iteF ?_⟩⟩;refine⟨_,rfl,O,os,pss,rfl,SqL.of hO6,ho6,h5,h20,by rw[<- zaG]; omega,fun KN H7 q7 t7=>?_⟩;obtain⟨ks,s7,_,hK7,hk7⟩:=zcI t7;have hrl:=hrs6.length;have hR7:=s7 _ _ hR6;have hrs7:=hrs6.same s7;refine⟨_,rfl,T0,_,_,_,rfl,rfl,SqT.of (s7 _ _ hT6),zJ (j:=0) rfl,RD,rfl,⟨_,SqL.of hR7⟩,zK (K:=K) (a:=RD) (xs:=rs.map V.ref) (fun i σ H8=>∃(LA:Addr) (ls:List Addr) (L:List (List Int)) (v7:Option V),σ=[some (.ref a),some (.ref p),some (.ref O),some (.ref HD),some (.int (0+(j:Int))),some (.ref T0),some (.ref LA),v7]/\Same H7 H8/\H8 LA=some (.lst (ls.map V.ref))/\Tps H8 ls L/\run (canon pss) (zs.take i)=some L)
     ⟨KN,ks,canon pss,v7,rfl,Same.refl _,hK7,hk7,rfl⟩ (fun i σ H8 _ ⟨_,_,_,_,_,sm,_⟩=>SqL.of (sm _ _ hR7)) ?_ ?_⟩
    ·rintro i v σ H8 hv ⟨LA,ls,L,v7',rfl,s8,hA,hls,hrL⟩
     obtain⟨t,et,rfl⟩:=zT hv;obtain⟨z,ez,hz'⟩:=hrs7.get et;obtain⟨cL,sub⟩:=zbP c0 hrL;have hlL:=sub.length_le;refine⟨_,rfl,_,rfl,LA,ls,L,rfl,SqL.of hA,hls,cL.five,by omega,fun FA H9 fs s9 _ hF9 hf9=>?_⟩;rw[cL.free_eq] at hf9;refine⟨t,FA,fs,z,fr L,rfl,rfl,(hz'.same s8).same s9,SqL.of hF9,hf9,_,rfl,?_⟩;rw[if_pos rfl];have hrn:run (canon pss) (zs.take (i+1))=if z∈fr L then some (rem L z) else none:=by rw[take_snoc ez,zbv hrL]
     have hm':z∈fr L:=by
      by_cases hm':z∈fr L
      ·exact hm'
      ·obtain⟨N,hN⟩:=zfg (i+1) hrun
       rw[hrn,if_neg hm'] at hN;cases hN
     rw[decide_eq_true hm'];refine iteF ⟨_,rfl,LA,rfl,⟨_,SqL.of (s9 _ _ hA)⟩,fun D hD=>?_⟩;have s89:=s8.trans s9;refine zN (zc0 (p:=fun x=>!decide (x=z.1 \/ x=z.2)) (fun o os' H' R sm ho _ hR=>⟨_,rfl,_,rfl,o,t,os',z,rfl,rfl,ho,(hz'.same s89).same sm,_,rfl,?_⟩) (SqL.of (s9 _ _ hA)) (s9.tps hls) (by omega) hD fun H10 bs' s10 hD10 hb10=>?_)
     ·rw[if_pos rfl]
      exact hR H' (Same.refl _)
     exact⟨D,bs',rem L z,_,rfl,s89.trans s10,hD10,hb10,by rw[hrn,if_pos hm']⟩
    ·rintro σ H8 ⟨LA,ls,L,v7',rfl,s8,hA,hls,hrL⟩
     rw[List.length_map,hrl,take_all] at hrL;obtain rfl:M=L:=Option.some.inj (hrun.symm.trans hrL);obtain⟨cM,sub⟩:=zbP c0 hrun;have hlM:=sub.length_le;have s78:=s7.trans s8;refine⟨_,rfl,LA,ls,M,rfl,SqL.of hA,hls,cM.five,by omega,fun FA H9 fs s9 _ hF9 hf9=>?_⟩;rw[cM.free_eq,hfr] at hf9;refine⟨zh (by simp),fun T hT=>⟨FA,T,fs,[],[],[],rfl,rfl,SqL.of ((Same.new hT) _ _ hF9),hf9.same (Same.new hT),SqL.of zd,.nil,_,rfl,?_⟩⟩;rw[if_pos rfl,decide_eq_true rfl];have s10:=s9.trans (Same.new (o:=.lst []) hT);generalize upd H9 T (.lst [])=H10 at s10;have s710:=s78.trans s10;refine iteF ⟨_,rfl,T0,_,_,_,rfl,rfl,SqT.of (s710 _ _ hT6),zJ (j:=1) rfl,_,rfl,LA,ls,M,rfl,SqL.of (s10 _ _ hA),s10.tps hls,cM.five,by omega,fun GA H11 gs s11 _ hG11 hg11=>?_⟩;rw[cM.tops] at hg11;have s711:=s710.trans s11;refine .inr ⟨TD,GA,bs,gs,tops M,tops M,rfl,rfl,SqL.of (s711 _ _ hTD6),s711.tps hbs6,SqL.of hG11,hg11,?_⟩;rw[if_pos rfl,decide_eq_true rfl];refine⟨_,rfl,iteF ?_⟩;obtain⟨hwt,ect⟩:=gd.left hrun hgM;have hT11:=s711 _ _ hT6;have hR11:=s711 _ _ hR6;have hD11:=s711 _ _ hTD6;have hO11:=s711 _ _ hO6;have hH11:=s711 _ _ hH6;have ho11:=s711.tps ho6;have hrs11:=hrs6.same s711;have hbs11:=s711.tps hbs6;refine⟨_,rfl,_,rfl,T0,_,_,_,rfl,rfl,SqT.of hT11,zJ (j:=0) rfl,RD,_,rfl,.inl (SqL.of hR11),fun LB hLB=>?_⟩;have sB:=Same.new (o:=.lst (rs.map V.ref)) hLB;refine⟨_,rfl,T0,_,_,_,rfl,rfl,SqT.of (sB _ _ hT11),zJ (j:=1) rfl,TD,_,rfl,.inl (SqL.of (sB _ _ hD11)),fun LC hLC=>?_⟩;have sC:=Same.new (o:=.lst (bs.map V.ref)) hLC;have sBC:=sB.trans sC;refine⟨HD,LB,LC,os,pss,rs,zs,bs,tops M,rfl,SqL.of (sBC _ _ hH11),sBC.tps ho11,hws,h200,SqL.of (sC _ _ zd),hrs11.same sBC,by omega,SqL.of zd,sBC.tps hbs11,hwt,fun H12 s12=>⟨_,_,rfl,rfl,?_⟩⟩;rw[ect,hrun,decide_eq_true rfl];refine⟨_,rfl,iteF ?_⟩;have s13:=sBC.trans s12;have hT12:=s13 _ _ hT11;have hR12:=s13 _ _ hR11;have hD12:=s13 _ _ hD11;have hO12:=s13 _ _ hO11;have hH12:=s13 _ _ hH11;have ho12:=s13.tps ho11;clear s13 s12 sBC sC sB;have nO:O≠RD:=ne_of_none hO5 hR0;have nH:HD≠RD:=ne_of_none hH5 hR0;have nO2:O≠TD:=ne_of_none hO5 hT0;have nH2:HD≠TD:=ne_of_none hH5 hT0;refine⟨_,rfl,T0,_,_,_,rfl,rfl,SqT.of hT12,zJ (j:=0) rfl,.inl ⟨rfl,_,SqL.of hR12⟩,zh (by simp),fun U hU=>?_⟩;have sU:=Same.new (o:=.tup []) hU;have hbl:=hbs6.length;have htl:=gd.top _ _ hrun hgM;refine⟨RD,_,_,rfl,rfl,sU _ _ hR12,by rw[List.length_map]; exact zS (by omega),?_⟩;have hTR:T0≠RD:=fun z=>by rw[z,hR12] at hT12; cases hT12
     have lst1:∀xs:List V,HO.lst (rs.map V.ref)≠.tup xs:=by intro xs z; cases z
     have lst2:∀xs:List V,HO.lst (bs.map V.ref)≠.tup xs:=by intro xs z; cases z
     have hT13:upd (upd H12 U (.tup [])) RD (.lst (rs.map V.ref++[.ref U])) T0=some (.tup [.ref RD,.ref TD]):=by rw[upd_ne hTR]; exact sU _ _ hT12
     have hD13:upd (upd H12 U (.tup [])) RD (.lst (rs.map V.ref++[.ref U])) TD=some (.lst (bs.map V.ref)):=by rw[upd_ne (Ne.symm nRT)]; exact sU _ _ hD12
     have hO13:upd (upd H12 U (.tup [])) RD (.lst (rs.map V.ref++[.ref U])) O=some (.lst (os.map V.ref)):=by rw[upd_ne nO]; exact sU _ _ hO12
     have hH13:upd (upd H12 U (.tup [])) RD (.lst (rs.map V.ref++[.ref U])) HD=some (.lst (os.map V.ref)):=by rw[upd_ne nH]; exact sU _ _ hH12
     have ho13:Tps (upd (upd H12 U (.tup [])) RD (.lst (rs.map V.ref++[.ref U]))) os pss:=Tps.upd (sU.tps ho12) (sU _ _ hR12) lst1;generalize upd (upd H12 U (.tup [])) RD (.lst (rs.map V.ref++[.ref U]))=H13 at hT13 hD13 hO13 hH13 ho13;refine⟨_,rfl,T0,_,_,_,rfl,rfl,SqT.of hT13,zJ (j:=1) rfl,.inl ⟨rfl,_,SqL.of hD13⟩,zh (by simp),fun U2 hU2=>?_⟩;have sU2:=Same.new (o:=.tup []) hU2;refine⟨TD,_,_,rfl,rfl,sU2 _ _ hD13,by rw[List.length_map]; exact zS (by omega),?_⟩;exact⟨_,_,_,_,rfl,by rw[upd_ne nO2]; exact sU2 _ _ hO13,by rw[upd_ne nH2]; exact sU2 _ _ hH13,Tps.upd (sU2.tps ho13) (sU2 _ _ hD13) lst2⟩
   ·rintro σ H5 ⟨v4,v5,v6,v7,rfl,hO5,hH5,ho5⟩
    exact k _
  obtain⟨tr3,htr3,rest3⟩:=R3;refine⟨_,zf (zq (i:=1) zcv.nd rfl (Or.inl rfl) (zl Gb hr1 rfl mb Fb.kp bb .nil pass0 (zc (zl Gc hr1 rfl mc Fc.kp bc .nil pass0 (zc (pv 0) (zc zj ze))) ze)))
   (zf (zq (i:=2) zcv.nd rfl (Or.inl rfl) (zl Gw hr3 rfl mw Fw.kp bw .nil pass0 (zc (pv 1) ze)))
   (zf (zav (zx zeB (zl Gt hr1 rfl mt Ft.kp bt .nil pass0 (zc (pv 1) (zc zj ze))) zj (nomark _)) (zi (zq (i:=2) zcv.nd rfl (Or.inl rfl) (zl Gh hr2 rfl mh Fh.kp bh .nil pass0 (zc (pv 1) ze)))) zD)
   htr3)),?_⟩
  refine⟨_,rfl,a,nn,rfl,hS,fun n=>⟨n,rfl,fun p x y hp bo'=>?_⟩⟩;refine⟨_,rfl,p,rfl,⟨x,y,zd,bo'⟩,fun O os pss H1 sb1 hb1 _ hO1 ho1 hdr=>?_⟩;refine⟨_,rfl,p,16,rfl,hb1,by decide,by decide,fun r H2 r0 r1 sb2 hb2=>⟨rfl,_,rfl,?_⟩⟩;have hO2:=sb2 _ _ (hb1.ne hO1) hO1;refine ite2 (fun e=>?_) (fun e=>rest3 p O os pss H2 hO2 (sb2.tps hb1 ho1) (Gd.drawn hdr));exact⟨_,rfl,p,rfl,hb2,fun D bs qss H3 sb3 hb3 _ hD3 hq3 hl=>rest3 p D bs qss H3 hD3 hq3 (Gd.long hl)⟩
end
end K43
end
section
namespace K43
open K1
open PySem L2 STb
theorem ln1 {α:Type}{us:List α}{p:Str} (h:us.length=[p].length):∃a,us=[a]:=by
 rcases us with _ | ⟨a,_ | ⟨b,t⟩⟩
 ·cases h
 ·exact⟨a,rfl⟩
 ·simp at h
theorem ln2 {α:Type}{us:List α}{p q:Str} (h:us.length=[p,q].length):∃a b,us=[a,b]:=by
 rcases us with _ | ⟨a,t⟩
 ·cases h
 ·obtain⟨b,rfl⟩:=ln1 (p:=p) (Nat.succ.inj h)
  exact⟨a,b,rfl⟩
theorem ln3 {α:Type}{us:List α}{p q r:Str} (h:us.length=[p,q,r].length):∃a b c,us=[a,b,c]:=by
 rcases us with _ | ⟨a,t⟩
 ·cases h
 ·obtain⟨b,c,rfl⟩:=ln2 (p:=p) (q:=q) (Nat.succ.inj h)
  exact⟨a,b,c,rfl⟩
theorem zkz {l:PySem.W.OpenLaw}{w:World}{K:PySem.W.Frag}{h:Heap}{mg:Str->Option Value}{fa f1 f2 f3 f4 f5 f6 f7 f8 f9 f10 f11 f12 f13 f14 f15 f16 f17 f18 f19 f20 f21 f22 f23 f24 f25 f26 f27 f28 :Addr} (X:K.In h) (G:h.Ns mainGlobals mg) (hfa:mg "law"=some (.ref fa))
  {od1 an1 od2 an2 od3 an3 od4 an4 od5 an5 od6 an6 od7 an7 od8 an8 od9 an9 od10 an10 od11 an11 od12 an12 od13 an13 od14 an14 od15 an15 od16 an16 od17 an17 od18 an18 od19 an19 od20 an20 od21 an21 od22 an22 od23 an23 od24 an24 od25 an25 od26 an26 od27 an27 od28 an28:Option Addr} {sl1 sl2 sl3 sl4 sl5 sl6 sl7 sl8 sl9 sl10 sl11 sl12 sl13 sl14 sl15 sl16 sl17 sl18 sl19 sl20 sl21 sl22 sl23 sl24 sl25 sl26 sl27 sl28:Array (Option Value)} {oc1 kV1 dc1 pm1 cd1 ct1 oc2 kV2 dc2 pm2 cd2 ct2 oc3 kV3 dc3 pm3 cd3 ct3 oc4 kV4 dc4 pm4 cd4 ct4 oc5 kV5 dc5 pm5 cd5 ct5 oc6 kV6 dc6 pm6 cd6 ct6 oc7 kV7 dc7 pm7 cd7 ct7 oc8 kV8 dc8 pm8 cd8 ct8 oc9 kV9 dc9 pm9 cd9 ct9 oc10 kV10 dc10 pm10 cd10 ct10 oc11 kV11 dc11 pm11 cd11 ct11 oc12 kV12 dc12 pm12 cd12 ct12 oc13 kV13 dc13 pm13 cd13 ct13 oc14 kV14 dc14 pm14 cd14 ct14 oc15 kV15 dc15 pm15 cd15 ct15 oc16 kV16 dc16 pm16 cd16 ct16 oc17 kV17 dc17 pm17 cd17 ct17 oc18 kV18 dc18 pm18 cd18 ct18 oc19 kV19 dc19 pm19 cd19 ct19 oc20 kV20 dc20 pm20 cd20 ct20 oc21 kV21 dc21 pm21 cd21 ct21 oc22 kV22 dc22 pm22 cd22 ct22 oc23 kV23 dc23 pm23 cd23 ct23 oc24 kV24 dc24 pm24 cd24 ct24 oc25 kV25 dc25 pm25 cd25 ct25 oc26 kV26 dc26 pm26 cd26 ct26 oc27 kV27 dc27 pm27 cd27 ct27 oc28 kV28 dc28 pm28 cd28 ct28:Value} {tp tq tr ts:Tok}
  (a1:PySem.W.nsIn K mainGlobals "is_piece"=some (some (.ref f1))) (l1:K.lookup f1=some ⟨oc1,od1,.func (PySem.W.fnOf "is_piece" "is_piece" (zp zcj) (zo zcj) (zg zcj) .none kV1 dc1 pm1 an1 cd1 ct1),sl1⟩) (c1:PySem.W.codeIn K cd1 "is_piece"=true) (k1:PySem.W.keepIn K (.ref f1)=true)
  (a2:PySem.W.nsIn K mainGlobals "parts_of"=some (some (.ref f2))) (l2:K.lookup f2=some ⟨oc2,od2,.func (PySem.W.fnOf "parts_of" "parts_of" (zp zbw) (zo zbw) (zg zbw) .none kV2 dc2 pm2 an2 cd2 ct2),sl2⟩) (c2:PySem.W.codeIn K cd2 "parts_of"=true) (k2:PySem.W.keepIn K (.ref f2)=true)
  (a3:PySem.W.nsIn K mainGlobals "rims_of"=some (some (.ref f3))) (l3:K.lookup f3=some ⟨oc3,od3,.func (PySem.W.fnOf "rims_of" "rims_of" (zp zcW) (zo zcW) (zg zcW) .none kV3 dc3 pm3 an3 cd3 ct3),sl3⟩) (c3:PySem.W.codeIn K cd3 "rims_of"=true) (k3:PySem.W.keepIn K (.ref f3)=true)
  (a4:PySem.W.nsIn K mainGlobals "order_key"=some (some (.ref f4))) (l4:K.lookup f4=some ⟨oc4,od4,.func (PySem.W.fnOf "order_key" "order_key" (zp sKey) (zo sKey) (zg sKey) .none kV4 dc4 pm4 an4 cd4 ct4),sl4⟩) (c4:PySem.W.codeIn K cd4 "order_key"=true) (k4:PySem.W.keepIn K (.ref f4)=true)
  (a5:PySem.W.nsIn K mainGlobals "in_order"=some (some (.ref f5))) (l5:K.lookup f5=some ⟨oc5,od5,.func (PySem.W.fnOf "in_order" "in_order" (zp zbr) (zo zbr) (zg zbr) .none kV5 dc5 pm5 an5 cd5 ct5),sl5⟩) (c5:PySem.W.codeIn K cd5 "in_order"=true) (k5:PySem.W.keepIn K (.ref f5)=true)
  (a6:PySem.W.nsIn K mainGlobals "all_parts"=some (some (.ref f6))) (l6:K.lookup f6=some ⟨oc6,od6,.func (PySem.W.fnOf "all_parts" "all_parts" (zp sAll) (zo sAll) (zg sAll) .none kV6 dc6 pm6 an6 cd6 ct6),sl6⟩) (c6:PySem.W.codeIn K cd6 "all_parts"=true) (k6:PySem.W.keepIn K (.ref f6)=true)
  (a7:PySem.W.nsIn K mainGlobals "greatest_of"=some (some (.ref f7))) (l7:K.lookup f7=some ⟨oc7,od7,.func (PySem.W.fnOf "greatest_of" "greatest_of" (zp zdA) (zo zdA) (zg zdA) .none kV7 dc7 pm7 an7 cd7 ct7),sl7⟩) (c7:PySem.W.codeIn K cd7 "greatest_of"=true) (k7:PySem.W.keepIn K (.ref f7)=true)
  (a8:PySem.W.nsIn K mainGlobals "is_web"=some (some (.ref f8))) (l8:K.lookup f8=some ⟨oc8,od8,.func (PySem.W.fnOf "is_web" "is_web" (zp zb5) (zo zb5) (zg zb5) .none kV8 dc8 pm8 an8 cd8 ct8),sl8⟩) (c8:PySem.W.codeIn K cd8 "is_web"=true) (k8:PySem.W.keepIn K (.ref f8)=true)
  (a9:PySem.W.nsIn K mainGlobals "must_be_web"=some (some (.ref f9))) (l9:K.lookup f9=some ⟨oc9,od9,.func (PySem.W.fnOf "must_be_web" "must_be_web" (zp zes) (zo zes) (zg zes) .none kV9 dc9 pm9 an9 cd9 ct9),sl9⟩) (c9:PySem.W.codeIn K cd9 "must_be_web"=true) (k9:PySem.W.keepIn K (.ref f9)=true)
  (a10:PySem.W.nsIn K mainGlobals "pieces"=some (some (.ref f10))) (l10:K.lookup f10=some ⟨oc10,od10,.func (PySem.W.fnOf "pieces" "pieces" (zp zaX) (zo zaX) (zg zaX) .none kV10 dc10 pm10 an10 cd10 ct10),sl10⟩) (c10:PySem.W.codeIn K cd10 "pieces"=true) (k10:PySem.W.keepIn K (.ref f10)=true)
  (a11:PySem.W.nsIn K mainGlobals "free_among"=some (some (.ref f11))) (l11:K.lookup f11=some ⟨oc11,od11,.func (PySem.W.fnOf "free_among" "free_among" (zp zdn) (zo zdn) (zg zdn) .none kV11 dc11 pm11 an11 cd11 ct11),sl11⟩) (c11:PySem.W.codeIn K cd11 "free_among"=true) (k11:PySem.W.keepIn K (.ref f11)=true)
  (a12:PySem.W.nsIn K mainGlobals "taken_out"=some (some (.ref f12))) (l12:K.lookup f12=some ⟨oc12,od12,.func (PySem.W.fnOf "taken_out" "taken_out" (zp zbx) (zo zbx) (zg zbx) .none kV12 dc12 pm12 an12 cd12 ct12),sl12⟩) (c12:PySem.W.codeIn K cd12 "taken_out"=true) (k12:PySem.W.keepIn K (.ref f12)=true)
  (a13:PySem.W.nsIn K mainGlobals "pushes"=some (some (.ref f13))) (l13:K.lookup f13=some ⟨oc13,od13,.func (PySem.W.fnOf "pushes" "pushes" (zp zbi) (zo zbi) (zg zbi) .none kV13 dc13 pm13 an13 cd13 ct13),sl13⟩) (c13:PySem.W.codeIn K cd13 "pushes"=true) (k13:PySem.W.keepIn K (.ref f13)=true)
  (a14:PySem.W.nsIn K mainGlobals "is_pushed"=some (some (.ref f14))) (l14:K.lookup f14=some ⟨oc14,od14,.func (PySem.W.fnOf "is_pushed" "is_pushed" (zp zeU) (zo zeU) (zg zeU) .none kV14 dc14 pm14 an14 cd14 ct14),sl14⟩) (c14:PySem.W.codeIn K cd14 "is_pushed"=true) (k14:PySem.W.keepIn K (.ref f14)=true)
  (a15:PySem.W.nsIn K mainGlobals "_law_cell_at"=some (some (.ref f15))) (l15:K.lookup f15=some ⟨oc15,od15,.func (PySem.W.fnOf "_law_cell_at" "_law_cell_at" (zp zeu) (zo zeu) (zg zeu) .none kV15 dc15 pm15 an15 cd15 ct15),sl15⟩) (c15:PySem.W.codeIn K cd15 "_law_cell_at"=true) (k15:PySem.W.keepIn K (.ref f15)=true)
  (a16:PySem.W.nsIn K mainGlobals "_law_box"=some (some (.ref f16))) (l16:K.lookup f16=some ⟨oc16,od16,.func (PySem.W.fnOf "_law_box" "_law_box" (zp sBox) (zo sBox) (zg sBox) .none kV16 dc16 pm16 an16 cd16 ct16),sl16⟩) (c16:PySem.W.codeIn K cd16 "_law_box"=true) (k16:PySem.W.keepIn K (.ref f16)=true)
  (a17:PySem.W.nsIn K mainGlobals "_law_take"=some (some (.ref f17))) (l17:K.lookup f17=some ⟨oc17,od17,.func (PySem.W.fnOf "_law_take" "_law_take" (zp zcu) (zo zcu) (zg zcu) .none kV17 dc17 pm17 an17 cd17 ct17),sl17⟩) (c17:PySem.W.codeIn K cd17 "_law_take"=true) (k17:PySem.W.keepIn K (.ref f17)=true)
  (a18:PySem.W.nsIn K mainGlobals "_law_parts"=some (some (.ref f18))) (l18:K.lookup f18=some ⟨oc18,od18,.func (PySem.W.fnOf "_law_parts" "_law_parts" (zp zaU) (zo zaU) (zg zaU) .none kV18 dc18 pm18 an18 cd18 ct18),sl18⟩) (c18:PySem.W.codeIn K cd18 "_law_parts"=true) (k18:PySem.W.keepIn K (.ref f18)=true)
  (a19:PySem.W.nsIn K mainGlobals "_law_pieces"=some (some (.ref f19))) (l19:K.lookup f19=some ⟨oc19,od19,.func (PySem.W.fnOf "_law_pieces" "_law_pieces" (zp zaM) (zo zaM) (zg zaM) .none kV19 dc19 pm19 an19 cd19 ct19),sl19⟩) (c19:PySem.W.codeIn K cd19 "_law_pieces"=true) (k19:PySem.W.keepIn K (.ref f19)=true)
  (a20:PySem.W.nsIn K mainGlobals "_law_known"=some (some (.ref f20))) (l20:K.lookup f20=some ⟨oc20,od20,.func (PySem.W.fnOf "_law_known" "_law_known" (zp zcr) (zo zcr) (zg zcr) .none kV20 dc20 pm20 an20 cd20 ct20),sl20⟩) (c20:PySem.W.codeIn K cd20 "_law_known"=true) (k20:PySem.W.keepIn K (.ref f20)=true)
  (a21:PySem.W.nsIn K mainGlobals "_law_named"=some (some (.ref f21))) (l21:K.lookup f21=some ⟨oc21,od21,.func (PySem.W.fnOf "_law_named" "_law_named" (zp zbM) (zo zbM) (zg zbM) .none kV21 dc21 pm21 an21 cd21 ct21),sl21⟩) (c21:PySem.W.codeIn K cd21 "_law_named"=true) (k21:PySem.W.keepIn K (.ref f21)=true)
  (a22:PySem.W.nsIn K mainGlobals "_law_web"=some (some (.ref f22))) (l22:K.lookup f22=some ⟨oc22,od22,.func (PySem.W.fnOf "_law_web" "_law_web" (zp sWeb) (zo sWeb) (zg sWeb) .none kV22 dc22 pm22 an22 cd22 ct22),sl22⟩) (c22:PySem.W.codeIn K cd22 "_law_web"=true) (k22:PySem.W.keepIn K (.ref f22)=true)
  (a23:PySem.W.nsIn K mainGlobals "_law_rims"=some (some (.ref f23))) (l23:K.lookup f23=some ⟨oc23,od23,.func (PySem.W.fnOf "_law_rims" "_law_rims" (zp zbN) (zo zbN) (zg zbN) .none kV23 dc23 pm23 an23 cd23 ct23),sl23⟩) (c23:PySem.W.codeIn K cd23 "_law_rims"=true) (k23:PySem.W.keepIn K (.ref f23)=true)
  (a24:PySem.W.nsIn K mainGlobals "_law_over"=some (some (.ref f24))) (l24:K.lookup f24=some ⟨oc24,od24,.func (PySem.W.fnOf "_law_over" "_law_over" (zp zdQ) (zo zdQ) (zg zdQ) .none kV24 dc24 pm24 an24 cd24 ct24),sl24⟩) (c24:PySem.W.codeIn K cd24 "_law_over"=true) (k24:PySem.W.keepIn K (.ref f24)=true)
  (a25:PySem.W.nsIn K mainGlobals "_law_greatest"=some (some (.ref f25))) (l25:K.lookup f25=some ⟨oc25,od25,.func (PySem.W.fnOf "_law_greatest" "_law_greatest" (zp zdR) (zo zdR) (zg zdR) .none kV25 dc25 pm25 an25 cd25 ct25),sl25⟩) (c25:PySem.W.codeIn K cd25 "_law_greatest"=true) (k25:PySem.W.keepIn K (.ref f25)=true)
  (a26:PySem.W.nsIn K mainGlobals "_law_free"=some (some (.ref f26))) (l26:K.lookup f26=some ⟨oc26,od26,.func (PySem.W.fnOf "_law_free" "_law_free" (zp zb7) (zo zb7) (zg zb7) .none kV26 dc26 pm26 an26 cd26 ct26),sl26⟩) (c26:PySem.W.codeIn K cd26 "_law_free"=true) (k26:PySem.W.keepIn K (.ref f26)=true)
  (a27:PySem.W.nsIn K mainGlobals "_law_long"=some (some (.ref f27))) (l27:K.lookup f27=some ⟨oc27,od27,.func (PySem.W.fnOf "_law_long" "_law_long" (zp zdJ) (zo zdJ) (zg zdJ) .none kV27 dc27 pm27 an27 cd27 ct27),sl27⟩) (c27:PySem.W.codeIn K cd27 "_law_long"=true) (k27:PySem.W.keepIn K (.ref f27)=true)
  (a28:PySem.W.nsIn K mainGlobals "law"=some (some (.ref f28))) (l28:K.lookup f28=some ⟨oc28,od28,.func (PySem.W.fnOf "law" "law" (zp sLaw) (zo sLaw) (zg sLaw) .none kV28 dc28 pm28 an28 cd28 ct28),sl28⟩) (c28:PySem.W.codeIn K cd28 "law"=true) (k28:PySem.W.keepIn K (.ref f28)=true)
  (gp:PySem.W.nsIn K mainGlobals "MOST_POINTS"=some (some (.int 5 tp)))
  (gq:PySem.W.nsIn K mainGlobals "LAST_POINT"=some (some (.int 99 tq)))
  (gr:PySem.W.nsIn K mainGlobals "MOST_HANDED"=some (some (.int 20 tr)))
  (gs:PySem.W.nsIn K mainGlobals "MOST_PIECES"=some (some (.int 200 ts)))
  (z1:PySem.W.nsIn K mainGlobals "len"=some none)
  (z2:PySem.W.nsIn K mainGlobals "all"=some none)
  (z3:PySem.W.nsIn K mainGlobals "zip"=some none)
  (z4:PySem.W.nsIn K mainGlobals "sorted"=some none)
  (z5:PySem.W.nsIn K mainGlobals "set"=some none)
  (z6:PySem.W.nsIn K mainGlobals "list"=some none)
  (z7:PySem.W.nsIn K mainGlobals "tuple"=some none)
  (z8:PySem.W.nsIn K mainGlobals "range"=some none)
  (z9:PySem.W.nsIn K mainGlobals "enumerate"=some none)
  (z10:PySem.W.nsIn K mainGlobals "int"=some none)
  (z11:PySem.W.nsIn K mainGlobals "isinstance"=some none)
  (z12:PySem.W.nsIn K mainGlobals "reversed"=some none)
  (z13:PySem.W.nsIn K mainGlobals "bool"=some none) :
  ∃fd:FuncData,(∀(s:Shared) (v:Value),BindsTo s fd ⟨[v],[]⟩ [("script",v)])/\∀base:Heap,K.In base->base.Ns mainGlobals mg->FnOk l.prog w K mg base CX0 10 fa fd ["script"] (zij K):=by
 have e:=hfa.symm.trans (PySem.W.mg_of X G a28);cases e;have B:Bt mg:=⟨PySem.W.mg_none_of X G z1,PySem.W.mg_none_of X G z2,PySem.W.mg_none_of X G z3,PySem.W.mg_none_of X G z4,PySem.W.mg_none_of X G z5,PySem.W.mg_none_of X G z6,PySem.W.mg_none_of X G z7,PySem.W.mg_none_of X G z8,PySem.W.mg_none_of X G z9,PySem.W.mg_none_of X G z10,PySem.W.mg_none_of X G z11,PySem.W.mg_none_of X G z12,PySem.W.mg_none_of X G z13⟩;have F1:=zH (st:=zcj) l1 c1 k1;have b1:=F1.binds (ps:=["numbers"]) fun _ _ _ _ _ _ us hl=>by obtain⟨_,rfl⟩:=ln1 hl; rfl
 have m1:=PySem.W.mg_of X G a1;have F2:=zH (st:=zbw) l2 c2 k2;have b2:=F2.binds (ps:=["piece"]) fun _ _ _ _ _ _ us hl=>by obtain⟨_,rfl⟩:=ln1 hl; rfl
 have m2:=PySem.W.mg_of X G a2;have F3:=zH (st:=zcW) l3 c3 k3;have b3:=F3.binds (ps:=["piece"]) fun _ _ _ _ _ _ us hl=>by obtain⟨_,rfl⟩:=ln1 hl; rfl
 have m3:=PySem.W.mg_of X G a3;have F4:=zH (st:=sKey) l4 c4 k4;have b4:=F4.binds (ps:=["piece"]) fun _ _ _ _ _ _ us hl=>by obtain⟨_,rfl⟩:=ln1 hl; rfl
 have m4:=PySem.W.mg_of X G a4;have F5:=zH (st:=zbr) l5 c5 k5;have b5:=F5.binds (ps:=["some"]) fun _ _ _ _ _ _ us hl=>by obtain⟨_,rfl⟩:=ln1 hl; rfl
 have m5:=PySem.W.mg_of X G a5;have F6:=zH (st:=sAll) l6 c6 k6;have b6:=F6.binds (ps:=["some"]) fun _ _ _ _ _ _ us hl=>by obtain⟨_,rfl⟩:=ln1 hl; rfl
 have m6:=PySem.W.mg_of X G a6;have F7:=zH (st:=zdA) l7 c7 k7;have b7:=F7.binds (ps:=["every"]) fun _ _ _ _ _ _ us hl=>by obtain⟨_,rfl⟩:=ln1 hl; rfl
 have m7:=PySem.W.mg_of X G a7;have F8:=zH (st:=zb5) l8 c8 k8;have b8:=F8.binds (ps:=["web"]) fun _ _ _ _ _ _ us hl=>by obtain⟨_,rfl⟩:=ln1 hl; rfl
 have m8:=PySem.W.mg_of X G a8;have F9:=zH (st:=zes) l9 c9 k9;have b9:=F9.binds (ps:=["web"]) fun _ _ _ _ _ _ us hl=>by obtain⟨_,rfl⟩:=ln1 hl; rfl
 have m9:=PySem.W.mg_of X G a9;have F10:=zH (st:=zaX) l10 c10 k10;have b10:=F10.binds (ps:=["web"]) fun _ _ _ _ _ _ us hl=>by obtain⟨_,rfl⟩:=ln1 hl; rfl
 have m10:=PySem.W.mg_of X G a10;have F11:=zH (st:=zdn) l11 c11 k11;have b11:=F11.binds (ps:=["every"]) fun _ _ _ _ _ _ us hl=>by obtain⟨_,rfl⟩:=ln1 hl; rfl
 have m11:=PySem.W.mg_of X G a11;have F12:=zH (st:=zbx) l12 c12 k12;have b12:=F12.binds (ps:=["every","pair"]) fun _ _ _ _ _ _ us hl=>by obtain⟨_,_,rfl⟩:=ln2 hl; rfl
 have m12:=PySem.W.mg_of X G a12;have F13:=zH (st:=zbi) l13 c13 k13;have b13:=F13.binds (ps:=["web"]) fun _ _ _ _ _ _ us hl=>by obtain⟨_,rfl⟩:=ln1 hl; rfl
 have m13:=PySem.W.mg_of X G a13;have F14:=zH (st:=zeU) l14 c14 k14;have b14:=F14.binds (ps:=["web","pairs","other"]) fun _ _ _ _ _ _ us hl=>by obtain⟨_,_,_,rfl⟩:=ln3 hl; rfl
 have m14:=PySem.W.mg_of X G a14;have F15:=zH (st:=zeu) l15 c15 k15;have b15:=F15.binds (ps:=["script","k"]) fun _ _ _ _ _ _ us hl=>by obtain⟨_,_,rfl⟩:=ln2 hl; rfl
 have m15:=PySem.W.mg_of X G a15;have F16:=zH (st:=sBox) l16 c16 k16;have b16:=F16.binds (ps:=["cell"]) fun _ _ _ _ _ _ us hl=>by obtain⟨_,rfl⟩:=ln1 hl; rfl
 have m16:=PySem.W.mg_of X G a16;have F17:=zH (st:=zcu) l17 c17 k17;have b17:=F17.binds (ps:=["box","most"]) fun _ _ _ _ _ _ us hl=>by obtain⟨_,_,rfl⟩:=ln2 hl; rfl
 have m17:=PySem.W.mg_of X G a17;have F18:=zH (st:=zaU) l18 c18 k18;have b18:=F18.binds (ps:=["piece"]) fun _ _ _ _ _ _ us hl=>by obtain⟨_,rfl⟩:=ln1 hl; rfl
 have m18:=PySem.W.mg_of X G a18;have F19:=zH (st:=zaM) l19 c19 k19;have b19:=F19.binds (ps:=["web"]) fun _ _ _ _ _ _ us hl=>by obtain⟨_,rfl⟩:=ln1 hl; rfl
 have m19:=PySem.W.mg_of X G a19;have F20:=zH (st:=zcr) l20 c20 k20;have b20:=F20.binds (ps:=["number"]) fun _ _ _ _ _ _ us hl=>by obtain⟨_,rfl⟩:=ln1 hl; rfl
 have m20:=PySem.W.mg_of X G a20;have F21:=zH (st:=zbM) l21 c21 k21;have b21:=F21.binds (ps:=["box","web"]) fun _ _ _ _ _ _ us hl=>by obtain⟨_,_,rfl⟩:=ln2 hl; rfl
 have m21:=PySem.W.mg_of X G a21;have F22:=zH (st:=sWeb) l22 c22 k22;have b22:=F22.binds (ps:=["box"]) fun _ _ _ _ _ _ us hl=>by obtain⟨_,rfl⟩:=ln1 hl; rfl
 have m22:=PySem.W.mg_of X G a22;have F23:=zH (st:=zbN) l23 c23 k23;have b23:=F23.binds (ps:=["piece"]) fun _ _ _ _ _ _ us hl=>by obtain⟨_,rfl⟩:=ln1 hl; rfl
 have m23:=PySem.W.mg_of X G a23;have F24:=zH (st:=zdQ) l24 c24 k24;have b24:=F24.binds (ps:=["known"]) fun _ _ _ _ _ _ us hl=>by obtain⟨_,rfl⟩:=ln1 hl; rfl
 have m24:=PySem.W.mg_of X G a24;have F25:=zH (st:=zdR) l25 c25 k25;have b25:=F25.binds (ps:=["known"]) fun _ _ _ _ _ _ us hl=>by obtain⟨_,rfl⟩:=ln1 hl; rfl
 have m25:=PySem.W.mg_of X G a25;have F26:=zH (st:=zb7) l26 c26 k26;have b26:=F26.binds (ps:=["known"]) fun _ _ _ _ _ _ us hl=>by obtain⟨_,rfl⟩:=ln1 hl; rfl
 have m26:=PySem.W.mg_of X G a26;have F27:=zH (st:=zdJ) l27 c27 k27;have b27:=F27.binds (ps:=["box"]) fun _ _ _ _ _ _ us hl=>by obtain⟨_,rfl⟩:=ln1 hl; rfl
 have m27:=PySem.W.mg_of X G a27;have F28:=zH (st:=sLaw) l28 c28 k28;have m28:=PySem.W.mg_of X G a28;have np:=PySem.W.mg_of X G gp;have nq:=PySem.W.mg_of X G gq;have nr:=PySem.W.mg_of X G gr;have ns:=PySem.W.mg_of X G gs;refine⟨PySem.W.fnOf "law" "law" (zp sLaw) (zo sLaw) (zg sLaw) .none kV28 dc28 pm28 an28 cd28 ct28,fun s v=>.of_eq rfl,fun base _ _=>?_⟩;have Gall:=ziY (P:=l.prog) (w:=w) (base:=base) F6 B F2 b2 m2 F5 b5 m5 F4 b4 m4;have Gweb:=zhU (P:=l.prog) (w:=w) (base:=base) F8 B np nq nr ns F1 b1 m1 F6 b6 m6 F2 b2 m2 F5 b5 m5 F4 b4 m4;have Gm:=zkr F9 F8 b8 m8 Gweb;have Gp:=zhf F10 F9 b9 m9 Gm F6 b6 m6 Gall;have Gtop:=zj2 (P:=l.prog) (w:=w) (base:=base) F7 B F3 b3 m3 F5 b5 m5 F4 b4 m4;have Gfr:=zj8 (P:=l.prog) (w:=w) (base:=base) F11 B F3 b3 m3;have Gpu:=zhd F13 B F10 b10 m10 Gp F11 b11 m11 Gfr F12 b12 m12 F7 b7 m7 Gtop;have Gip:=zj3 F14 F10 b10 m10 Gp F11 b11 m11 Gfr F12 b12 m12;have Glp:=zfV (P:=l.prog) (w:=w) (base:=base) F19 B F18 b18 m18;have Gov:=zjY (P:=l.prog) (w:=w) (base:=base) F24 B F23 b23 m23;have Glg:=zjA F25 F24 b24 m24 Gov;have Glf:=zig F26 B F24 b24 m24 Gov;have Glo:=zkg (P:=l.prog) (w:=w) (base:=base) F27 B F17 b17 m17;have Gwb:=zlg (P:=l.prog) (w:=w) (base:=base) F22 B F17 b17 m17 F21 b21 m21 F20 b20 m20;exact zlc F28 B F15 b15 m15 F16 b16 m16 F17 b17 m17 F22 b22 m22 Gwb F27 b27 m27 Glo F19 b19 m19 Glp F13 b13 m13 Gpu F26 b26 m26 Glf F25 b25 m25 Glg F14 b14 m14 Gip
theorem walk {l:PySem.W.OpenLaw}{q:Program}{loose:List Str}{XP:(Str->Option Value)->Heap->Prop}{YP:World->Heap->Prop}{d:DefRec}{K:Params->PySem.W.Frag} (hn:l.most=some 63) (hdf:d.params.defaults=[])
  (hY:∀(w:World) (h:Heap),YP w h->(K w.params).In h)
  (F:∀(w:World) (mg:Str->Option Value) (fa:Addr) (h:Heap),(K w.params).In h->h.Ns mainGlobals mg->mg d.name=some (.ref fa)->
   ∃fd:FuncData,(∀(s:Shared) (u:Value),BindsTo s fd ⟨[u],[]⟩ [("script",u)])/\∀base:Heap,(K w.params).In base->base.Ns mainGlobals mg->FnOk l.prog w (K w.params) mg base CX0 10 fa fd ["script"] (zij (K w.params))) :
  PySem.W.WalkO q loose XP YP l.row.toRowW d [] (fun f vs=>PySem.call f vs):=
 L2.zhn (n:=63) (k:=10) (x:="script") (CX:=fun _=>CX0) (sp:=fun w=>zij (K w.params)) hn (by decide) hdf ⟨rfl,by decide,by decide⟩ hY F (fun _ _ a ns hl _ hS=>⟨a,ns,rfl,hS,hl,fun _=>rfl⟩) fun _ _ _ _ _ z=>z
end K43
open PySem PySem.W PyProof.Rows
namespace PySem.W.Fast
theorem tw10029686932909729729:True:=⟨⟩
theorem tw10089480782976192752:True:=⟨⟩
theorem tw10213064924813896341:True:=⟨⟩
theorem tw10230403228892619520:True:=⟨⟩
theorem tw10270504964557605697:True:=⟨⟩
theorem tw10362923962158804608:True:=⟨⟩
theorem tw10444419913668811233:True:=⟨⟩
theorem tw10471907726539731892:True:=⟨⟩
theorem tw10552811636306250720:True:=⟨⟩
theorem tw10810093846389690115:True:=⟨⟩
theorem tw10811208856551118313:True:=⟨⟩
theorem tw1086462794796909677:True:=⟨⟩
theorem tw11193840225456999090:True:=⟨⟩
theorem tw11205086823911721204:True:=⟨⟩
theorem tw11281593515265938422:True:=⟨⟩
theorem tw11327378869317538631:True:=⟨⟩
theorem tw11520817988197794419:True:=⟨⟩
theorem tw1181907068565394475:True:=⟨⟩
theorem tw11823809284125591402:True:=⟨⟩
theorem tw11904556954822115868:True:=⟨⟩
theorem tw12073177952248961787:True:=⟨⟩
theorem tw12243155184427044460:True:=⟨⟩
theorem tw12295890163135965057:True:=⟨⟩
theorem tw12336937451839495200:True:=⟨⟩
theorem tw1236028319421792454:True:=⟨⟩
theorem tw12376413714927409366:True:=⟨⟩
theorem tw1240019458055758809:True:=⟨⟩
theorem tw12526566072718297272:True:=⟨⟩
theorem tw12573572705656705576:True:=⟨⟩
theorem tw12753613164956888637:True:=⟨⟩
theorem tw12791156795503748291:True:=⟨⟩
theorem tw12829639797737000283:True:=⟨⟩
theorem tw12926333583444941259:True:=⟨⟩
theorem tw12949452483737960767:True:=⟨⟩
theorem tw12990798431275389857:True:=⟨⟩
theorem tw13103905659924736972:True:=⟨⟩
theorem tw13242425541258905696:True:=⟨⟩
theorem tw13641439320909680230:True:=⟨⟩
theorem tw1369915468203730872:True:=⟨⟩
theorem tw13786020117038427169:True:=⟨⟩
theorem tw1391669382422382200:True:=⟨⟩
theorem tw13928818696000782362:True:=⟨⟩
theorem tw13929012146606795026:True:=⟨⟩
theorem tw14093333907037591656:True:=⟨⟩
theorem tw14172389403951718925:True:=⟨⟩
theorem tw14378735378374999850:True:=⟨⟩
theorem tw14408955357658604474:True:=⟨⟩
theorem tw14449237264562830764:True:=⟨⟩
theorem tw14461209294023072568:True:=⟨⟩
theorem tw14583088083385512714:True:=⟨⟩
theorem tw14643696965322726295:True:=⟨⟩
theorem tw1469623973628702005:True:=⟨⟩
theorem tw14716503652305195877:True:=⟨⟩
theorem tw14752989799628667161:True:=⟨⟩
theorem tw14943326752089850166:True:=⟨⟩
theorem tw14962519033113932049:True:=⟨⟩
theorem tw15016133020027283206:True:=⟨⟩
theorem tw15136183378231214290:True:=⟨⟩
theorem tw15193314844092765830:True:=⟨⟩
theorem tw15257255683689428445:True:=⟨⟩
theorem tw15393443656495706741:True:=⟨⟩
theorem tw15403915031276571464:True:=⟨⟩
theorem tw1579956810604119294:True:=⟨⟩
theorem tw16020900778429822622:True:=⟨⟩
theorem tw16100353317882505155:True:=⟨⟩
theorem tw16126152718661997027:True:=⟨⟩
theorem tw16167128670067707137:True:=⟨⟩
theorem tw16251726155793164688:True:=⟨⟩
theorem tw16278749397884170235:True:=⟨⟩
theorem tw16448067875578151820:True:=⟨⟩
theorem tw16456989061540001660:True:=⟨⟩
theorem tw16591045868251864056:True:=⟨⟩
theorem tw16645085105801961097:True:=⟨⟩
theorem tw16718619919247937924:True:=⟨⟩
theorem tw16723187397469591704:True:=⟨⟩
theorem tw16840947722771553516:True:=⟨⟩
theorem tw17015416919483275395:True:=⟨⟩
theorem tw17037558250395996829:True:=⟨⟩
theorem tw17052326798791518400:True:=⟨⟩
theorem tw17216620617772775755:True:=⟨⟩
theorem tw1734630694420396707:True:=⟨⟩
theorem tw17386175984457732272:True:=⟨⟩
theorem tw17395184818799375589:True:=⟨⟩
theorem tw17438631440202350381:True:=⟨⟩
theorem tw17450452138867618399:True:=⟨⟩
theorem tw1765826734031323690:True:=⟨⟩
theorem tw17753684437605097518:True:=⟨⟩
theorem tw177718344995076269:True:=⟨⟩
theorem tw17857504690328514551:True:=⟨⟩
theorem tw17948215472411270501:True:=⟨⟩
theorem tw18201935978582994713:True:=⟨⟩
theorem tw18242120699675759287:True:=⟨⟩
theorem tw1915744724880545274:True:=⟨⟩
theorem tw2147806437074956751:True:=⟨⟩
theorem tw2301009974406401518:True:=⟨⟩
theorem tw2320964532957798687:True:=⟨⟩
theorem tw2351212231985159743:True:=⟨⟩
theorem tw2364253640267695789:True:=⟨⟩
theorem tw2556204871075434514:True:=⟨⟩
theorem tw2562781595568097803:True:=⟨⟩
theorem tw2595260503704022160:True:=⟨⟩
theorem tw260402813841611024:True:=⟨⟩
theorem tw2630431478829530370:True:=⟨⟩
theorem tw26610332905873149:True:=⟨⟩
theorem tw2925565057032368689:True:=⟨⟩
theorem tw2935306895062566957:True:=⟨⟩
theorem tw3063638290408413430:True:=⟨⟩
theorem tw3066631755496118214:True:=⟨⟩
theorem tw3071501829427355267:True:=⟨⟩
theorem tw3317791826467005300:True:=⟨⟩
theorem tw3616922441160450980:True:=⟨⟩
theorem tw3661162070545823884:True:=⟨⟩
theorem tw3735756093145073092:True:=⟨⟩
theorem tw3750408244176029904:True:=⟨⟩
theorem tw3775759997914963517:True:=⟨⟩
theorem tw3916972293567356391:True:=⟨⟩
theorem tw3920086921322946794:True:=⟨⟩
theorem tw3943642839647141995:True:=⟨⟩
theorem tw410584081674235321:True:=⟨⟩
theorem tw4107353119467631878:True:=⟨⟩
theorem tw4123657394798717:True:=⟨⟩
theorem tw4152738452463553085:True:=⟨⟩
theorem tw4421380693770480801:True:=⟨⟩
theorem tw4473264502818420720:True:=⟨⟩
theorem tw4480287671387461404:True:=⟨⟩
theorem tw4667757976170853246:True:=⟨⟩
theorem tw474608047613909644:True:=⟨⟩
theorem tw4846035364011000388:True:=⟨⟩
theorem tw505123596059845390:True:=⟨⟩
theorem tw529298696481503521:True:=⟨⟩
theorem tw5528650325910900142:True:=⟨⟩
theorem tw5572269064879604489:True:=⟨⟩
theorem tw5581892405832412986:True:=⟨⟩
theorem tw5589869312126812694:True:=⟨⟩
theorem tw5774378640235437935:True:=⟨⟩
theorem tw5859911852974408569:True:=⟨⟩
theorem tw5875884288222437323:True:=⟨⟩
theorem tw5879622005632198133:True:=⟨⟩
theorem tw5917659729125192143:True:=⟨⟩
theorem tw6053232904972875800:True:=⟨⟩
theorem tw6088382411060874051:True:=⟨⟩
theorem tw6367228757706531901:True:=⟨⟩
theorem tw6388375919647892259:True:=⟨⟩
theorem tw6402153878102935272:True:=⟨⟩
theorem tw644520354284681308:True:=⟨⟩
theorem tw6483041777863698378:True:=⟨⟩
theorem tw6547416886501773360:True:=⟨⟩
theorem tw6556792639697181001:True:=⟨⟩
theorem tw661156172403864854:True:=⟨⟩
theorem tw6634005712272964160:True:=⟨⟩
theorem tw6707528735787064802:True:=⟨⟩
theorem tw6754088724891569704:True:=⟨⟩
theorem tw6831354796055118634:True:=⟨⟩
theorem tw6859906879819713179:True:=⟨⟩
theorem tw6892199717465025585:True:=⟨⟩
theorem tw7064801506211013464:True:=⟨⟩
theorem tw7083852985965231350:True:=⟨⟩
theorem tw7096105051391939819:True:=⟨⟩
theorem tw7124498928463212911:True:=⟨⟩
theorem tw718630059330708651:True:=⟨⟩
theorem tw7204060346659486878:True:=⟨⟩
theorem tw7454216137116709865:True:=⟨⟩
theorem tw7574245219466684521:True:=⟨⟩
theorem tw7585909458119411078:True:=⟨⟩
theorem tw7885896289205005163:True:=⟨⟩
theorem tw8292712615585653641:True:=⟨⟩
theorem tw8369020069605034562:True:=⟨⟩
theorem tw8490024758810700216:True:=⟨⟩
theorem tw8506492609895683013:True:=⟨⟩
theorem tw8537506160901957064:True:=⟨⟩
theorem tw8599670842271245917:True:=⟨⟩
theorem tw8800720104332787760:True:=⟨⟩
theorem tw8804190641131997318:True:=⟨⟩
theorem tw8986053809399009215:True:=⟨⟩
theorem tw9060839212904283376:True:=⟨⟩
theorem tw907192426125861874:True:=⟨⟩
theorem tw9111880340871423513:True:=⟨⟩
theorem tw9118407203611467040:True:=⟨⟩
theorem tw927467435134724843:True:=⟨⟩
theorem tw9319911628702602751:True:=⟨⟩
theorem tw9330200041200712882:True:=⟨⟩
theorem tw9344294998342628711:True:=⟨⟩
theorem tw9475668566413124234:True:=⟨⟩
theorem tw9548362401102288686:True:=⟨⟩
theorem tw9719511147252734087:True:=⟨⟩
end PySem.W.Fast
set_option maxRecDepth 100000 in
set_option maxHeartbeats 0 in
theorem PySem.Challenge.cw_seamwright_k43_whole_rows_of_pushes_holds : PySem.Challenge.rw_seamwright_k43_whole_rows_of_pushes.Holds := by
 w_on; o_law; k_head; (case hw=>w_witness2)
 k_fill
 refine K43.walk (l:=PySem.Challenge.rw_seamwright_k43_whole_rows_of_pushes) rfl rfl (fun w h Y=>PySem.W.kIn_of Y) ?F
 case F=>
  intro w mg fa h KX G hmg;refine' K43.zkz KX G hmg ?a1 ?l1 ?c1 ?k1 ?a2 ?l2 ?c2 ?k2 ?a3 ?l3 ?c3 ?k3 ?a4 ?l4 ?c4 ?k4 ?a5 ?l5 ?c5 ?k5 ?a6 ?l6 ?c6 ?k6 ?a7 ?l7 ?c7 ?k7 ?a8 ?l8 ?c8 ?k8 ?a9 ?l9 ?c9 ?k9 ?a10 ?l10 ?c10 ?k10 ?a11 ?l11 ?c11 ?k11 ?a12 ?l12 ?c12 ?k12 ?a13 ?l13 ?c13 ?k13 ?a14 ?l14 ?c14 ?k14 ?a15 ?l15 ?c15 ?k15 ?a16 ?l16 ?c16 ?k16 ?a17 ?l17 ?c17 ?k17 ?a18 ?l18 ?c18 ?k18 ?a19 ?l19 ?c19 ?k19 ?a20 ?l20 ?c20 ?k20 ?a21 ?l21 ?c21 ?k21 ?a22 ?l22 ?c22 ?k22 ?a23 ?l23 ?c23 ?k23 ?a24 ?l24 ?c24 ?k24 ?a25 ?l25 ?c25 ?k25 ?a26 ?l26 ?c26 ?k26 ?a27 ?l27 ?c27 ?k27 ?a28 ?l28 ?c28 ?k28 ?gp ?gq ?gr ?gs ?z1 ?z2 ?z3 ?z4 ?z5 ?z6 ?z7 ?z8 ?z9 ?z10 ?z11 ?z12 ?z13
  (case a1=>k_is); (case l1=>k_is); (case c1=>k_is); (case k1=>k_is); (case a2=>k_is); (case l2=>k_is)
  (case c2=>k_is); (case k2=>k_is); (case a3=>k_is); (case l3=>k_is); (case c3=>k_is); (case k3=>k_is)
  (case a4=>k_is); (case l4=>k_is); (case c4=>k_is); (case k4=>k_is); (case a5=>k_is); (case l5=>k_is)
  (case c5=>k_is); (case k5=>k_is); (case a6=>k_is); (case l6=>k_is); (case c6=>k_is); (case k6=>k_is)
  (case a7=>k_is); (case l7=>k_is); (case c7=>k_is); (case k7=>k_is); (case a8=>k_is); (case l8=>k_is)
  (case c8=>k_is); (case k8=>k_is); (case a9=>k_is); (case l9=>k_is); (case c9=>k_is); (case k9=>k_is)
  (case a10=>k_is); (case l10=>k_is); (case c10=>k_is); (case k10=>k_is); (case a11=>k_is); (case l11=>k_is)
  (case c11=>k_is); (case k11=>k_is); (case a12=>k_is); (case l12=>k_is); (case c12=>k_is); (case k12=>k_is)
  (case a13=>k_is); (case l13=>k_is); (case c13=>k_is); (case k13=>k_is); (case a14=>k_is); (case l14=>k_is)
  (case c14=>k_is); (case k14=>k_is); (case a15=>k_is); (case l15=>k_is); (case c15=>k_is); (case k15=>k_is)
  (case a16=>k_is); (case l16=>k_is); (case c16=>k_is); (case k16=>k_is); (case a17=>k_is); (case l17=>k_is)
  (case c17=>k_is); (case k17=>k_is); (case a18=>k_is); (case l18=>k_is); (case c18=>k_is); (case k18=>k_is)
  (case a19=>k_is); (case l19=>k_is); (case c19=>k_is); (case k19=>k_is); (case a20=>k_is); (case l20=>k_is)
  (case c20=>k_is); (case k20=>k_is); (case a21=>k_is); (case l21=>k_is); (case c21=>k_is); (case k21=>k_is)
  (case a22=>k_is); (case l22=>k_is); (case c22=>k_is); (case k22=>k_is); (case a23=>k_is); (case l23=>k_is)
  (case c23=>k_is); (case k23=>k_is); (case a24=>k_is); (case l24=>k_is); (case c24=>k_is); (case k24=>k_is)
  (case a25=>k_is); (case l25=>k_is); (case c25=>k_is); (case k25=>k_is); (case a26=>k_is); (case l26=>k_is)
  (case c26=>k_is); (case k26=>k_is); (case a27=>k_is); (case l27=>k_is); (case c27=>k_is); (case k27=>k_is)
  (case a28=>k_is); (case l28=>k_is); (case c28=>k_is); (case k28=>k_is); (case gp=>k_is); (case gq=>k_is)
  (case gr=>k_is); (case gs=>k_is); (case z1=>k_is); (case z2=>k_is); (case z3=>k_is); (case z4=>k_is)
  (case z5=>k_is); (case z6=>k_is); (case z7=>k_is); (case z8=>k_is); (case z9=>k_is); (case z10=>k_is)
  (case z11=>k_is); (case z12=>k_is); (case z13=>k_is)
#print axioms PySem.Challenge.cw_seamwright_k43_whole_rows_of_pushes_holds
end
