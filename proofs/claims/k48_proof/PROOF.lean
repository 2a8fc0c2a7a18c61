import PyProof.Rows.All
import Wide.All
import OpenK.AllK
import Wide.FinOn
import Lean
import PyProof.EqAt
import PyProof.EqKinds
import PyProof.TupleCall
import PyProof.Rows.SortRuns
import KE.KSortKey
import KE.KListMore
import KE.KIntText
import KE.KEqDat
import PyProof.Rows.CallKwBuiltin
import PySem.SetTable
import PyProof.Rows.SetFrom
import PyProof.TupleKey
import PyProof.IsRules
import KE.KRevIter
import PyProof.ListRange
import PyProof.TupleOfGen
import PyProof.CollectIter
import PySem.Challenge.RW_seamwright_k48_thin_seams
import KE.KDictLaws
import PyProof.DictWalks
import PyProof.DictItems
import PyProof.MinMaxWalk
import PyProof.SumAny
import PyProof.SetNew
import PyProof.DictCopy
import PyProof.FactsAll.dict_1
import PyProof.FactsAll.set_2
import PyProof.FactsAll.subtypes_5
import PyProof.AttrMissHeap
import PyProof.DictFindH
import PyProof.NeKinds
open PySem renaming wpAny_bind->Aa,wpAny_pure->Ac,tupleKeyHash->Ax,bootBuiltins->AS,IsTupleKey->AT,wpAny_holding->AW,wpAny_newObj_type->AZ,wpAny_call_entry->A2,wpAny_setField_rec->A5,wpAny_field->A9
open List renaming length_map->Ab,map_append->Ag,length_append->Ah,getElem?_eq_getElem->Ai,size_toArray->Aj,mem_of_getElem?->Ak,getElem?_map->Al,mem_cons_self->Am,take_of_length_le->An,map_map->Ap,mem_cons_of_mem->Ar,map_cons->Av,length_cons->Aw,length_take->AC,mem_append_left->AI,mem_append_right->AJ,nodup_append->AL,length_singleton->AQ,append_assoc->A4,map_congr_left->A6,range->A7,filter_append->A8,lookup_cons->Ba
open PySem.W renaming Frag->Ad,nsIn->At,keepIn->Ay,codeIn->Az,mg_of->AB,fnOf->AD,mg_none_of->AV
open PySem.Heap renaming get?_push_of_some->Ae,get?_push_size->Aq,lt_size->Au,SameBut->AX
open Nat renaming le_refl->Af,ne_of_lt->AE,le_trans->AG,lt_of_lt_of_le->AM,zero_le->AO
open Option.some renaming inj->Ao
open Bool renaming false_eq_true->As,false_ne_true->AA,and_eq_true->AY
open PySem.PassesOwn renaming never->AF
open PyProof.Rows renaming take_snoc->AH
open PySem.Obj renaming mapSeq->AK
open PySem.Paired renaming length->AN
open Array renaming getElem?_toList->AR,length_toList->A0
open PySem.F renaming plainAttrs_list->AU
open PySem.PyData renaming int->A1
open Option renaming map_some->A3
set_option linter.all false
set_option Elab.async false
set_option maxRecDepth 100000
set_option maxHeartbeats 4000000
section
namespace L2
open PySem PySem.Spec PyProof.Rows
abbrev Key:=Sum Int Str
def zgi:Key->Value->Bool
 | .inl k,v=>Value.isInt k v
 | .inr x,v=>Value.isStrOf x v
def keyH (w:World):Key->Int
 | .inl k=>hashInt k
 | .inr x=>hashStr w x
theorem keyIs_shape:∀{k:Key}{v:Value},zgi k v=true->(∃i t,k=Sum.inl i/\v=Value.int i t) \/ (∃x t,k=Sum.inr x/\v=Value.str x t)
 | .inl i,v,h=>by
  obtain⟨t,e⟩:=Value.isInt_shape (k:=i) (v:=v) h;exact .inl ⟨i,t,rfl,e⟩
 | .inr x,v,h=>by
  obtain⟨t,e⟩:=Value.isStrOf_shape (x:=x) (v:=v) h;exact .inr ⟨x,t,rfl,e⟩
theorem zhk (i:Int) (t:Tok):zgi (.inl i) (.int i t)=true:=by simp[zgi,Value.isInt]
theorem zgU (x:Str) (t:Tok):zgi (.inr x) (.str x t)=true:=by simp[zgi,Value.isStrOf]
theorem zmO (a b:Int):decide ((Sum.inl a:Key)=Sum.inl b)=(a == b):=by
 by_cases e:a=b
 ·subst e; simp
 ·have h:¬ (Sum.inl a:Key)=Sum.inl b:=fun q=>e (Sum.inl.inj q)
  rw[decide_eq_false h];exact (beq_eq_false_iff_ne.mpr e).symm
theorem zmK (a b:Str):decide ((Sum.inr a:Key)=Sum.inr b)=decide (a=b):=by
 by_cases e:a=b
 ·subst e; simp
 ·have h:¬ (Sum.inr a:Key)=Sum.inr b:=fun q=>e (Sum.inr.inj q)
  rw[decide_eq_false h,decide_eq_false e]
theorem zmC (a:Int) (b:Str):decide ((Sum.inl a:Key)=Sum.inr b)=false:=decide_eq_false (fun q=>nomatch q)
theorem zmN (a:Str) (b:Int):decide ((Sum.inr a:Key)=Sum.inl b)=false:=decide_eq_false (fun q=>nomatch q)
def zD (prog:Program) (w:World):PySem.KeyKind prog w Key where
 is:=zgi
 hash:=keyH w
 inj:=fun v a b ha hb=>by
  rcases keyIs_shape ha with ⟨i,t,rfl,rfl⟩ | ⟨x,t,rfl,rfl⟩
  ·rcases keyIs_shape hb with ⟨j,u,rfl,e⟩ | ⟨y,u,rfl,e⟩
   ·injection e with e1 _; rw[e1]
   ·exact nomatch e
  ·rcases keyIs_shape hb with ⟨j,u,rfl,e⟩ | ⟨y,u,rfl,e⟩
   ·exact nomatch e
   ·injection e with e1 _; rw[e1]
 byValue:=fun k v h=>by
  rcases keyIs_shape h with ⟨i,t,rfl,rfl⟩ | ⟨x,t,rfl,rfl⟩ <;> rfl
 pyHash:=fun hv h=>by
  rcases keyIs_shape hv with ⟨i,t,rfl,rfl⟩ | ⟨x,t,rfl,rfl⟩
  ·exact wpAny_pyHash_int h
  ·exact wpAny_pyHash_str h
 eqBool:=fun hu hv h=>by
  rcases keyIs_shape hu with ⟨i,t,rfl,rfl⟩ | ⟨x,t,rfl,rfl⟩
  ·rcases keyIs_shape hv with ⟨j,u,rfl,rfl⟩ | ⟨y,u,rfl,rfl⟩
   ·rw[zmO] at h; exact wpAny_eqBool_int h
   ·rw[zmC] at h; exact SeqAt.EqAt.int_str i t y u _ _ _ _ h
  ·rcases keyIs_shape hv with ⟨j,u,rfl,rfl⟩ | ⟨y,u,rfl,rfl⟩
   ·rw[zmN] at h; exact SeqAt.EqAt.str_int x t j u _ _ _ _ h
   ·rw[zmK] at h; exact wpAny_eqBool_str h
 «strs»:=fun k x t v h=>by
  rcases keyIs_shape h with ⟨i,u,rfl,e⟩ | ⟨y,u,rfl,e⟩
  ·exact nomatch e
  ·injection e with e1 _
   subst e1;cases v <;> rfl
theorem zbv (prog:Program) (w:World) (i:Int) (t:Tok):(zD prog w).is (.inl i) (.int i t)=true:=zhk i t
theorem ze3 (prog:Program) (w:World) (x:Str) (t:Tok):(zD prog w).is (.inr x) (.str x t)=true:=zgU x t
end L2
namespace L2
open PySem PySem.Spec PyProof.Rows
inductive V where
 | non | bl (b:Bool) | int (i:Int) | str (x:Str) | byt (b:Array UInt8) | flt (b:UInt64) | ref (a:Addr) | ty (n:String)
 deriving DecidableEq
def RelV:V->Value->Prop
 | .non,u=>u=Value.none
 | .bl b,u=>u=Value.bool b
 | .int i,u=>∃t,u=Value.int i t
 | .str x,u=>∃t,u=Value.str x t
 | .byt b,u=>∃t,u=Value.bytes b t
 | .flt b,u=>∃t,u=Value.float b t
 | .ref a,u=>u=Value.ref a
 | .ty n,u=>u=Value.type n
abbrev Vals:List V->List Value->Prop:=Paired RelV
theorem Vals.length {xs:List V}{us:List Value} (r:Vals xs us):xs.length=us.length:=AN r
theorem Vals.get:∀{xs:List V}{us:List Value}{i:Nat}{x:V},Vals xs us->xs[i]?=some x->∃u,us[i]?=some u/\RelV x u
 | _,_,_,_,.nil,e=>by simp at e
 | _,_,0,_,.cons r _,e=>by simp at e; subst e; exact⟨_,rfl,r⟩
 | _,_,i+1,x,.cons _ t,e=>by
  obtain⟨u,h1,h2⟩:=Vals.get (i:=i) (x:=x) t (by simpa using e);exact⟨u,by simpa using h1,h2⟩
theorem Vals.set {x:V}{u:Value} (r:RelV x u):∀{xs:List V}{us:List Value} (i:Nat),Vals xs us->Vals (xs.set i x) (us.set i u)
 | _,_,_,.nil=>.nil
 | _,_,0,.cons _ t=>.cons r t
 | _,_,i+1,.cons q t=>.cons q (Vals.set r i t)
theorem Vals.append {xs ys:List V}{us ws:List Value} (h:Vals xs us) (g:Vals ys ws):Vals (xs++ys) (us++ws):=by
 induction h with
 | nil=>exact g
 | cons r _ ih=>exact .cons r ih
theorem Vals.take:∀{xs:List V}{us:List Value} (n:Nat),Vals xs us->Vals (xs.take n) (us.take n)
 | _,_,0,_=>.nil
 | _,_,_+1,.nil=>.nil
 | _,_,n+1,.cons r t=>.cons r (Vals.take n t)
theorem Vals.drop:∀{xs:List V}{us:List Value} (n:Nat),Vals xs us->Vals (xs.drop n) (us.drop n)
 | _,_,0,r=>r
 | _,_,_+1,.nil=>.nil
 | _,_,n+1,.cons _ t=>Vals.drop n t
def RelO:Option V->Option Value->Prop
 | some v,some u=>RelV v u
 | none,none=>True
 | _,_=>False
def KV {κ:Type}:List (κ×V)->List (κ×Value)->Prop:=Paired fun (p:κ×V) (q:κ×Value)=>p.1=q.1/\RelV p.2 q.2
def kV:Key->V
 | .inl i=>.int i
 | .inr x=>.str x
inductive HO where
 | lst (xs:List V)
 | tup (xs:List V)
 | dK (kvs:List (Key×V)) | dT (kvs:List (List Key×V))
 | set (S:Int->Bool) (n:Nat)
 | ins (C dx:Addr) (fs:List (Str×V))
 | own (x:Addr)
 | xd (fs:List (Str×V))
 | met (f x:Addr)
 | rng (lo hi:Int)
 | frz (o:Obj) (u:HO)
 | tbl (ps:Array Value)
 | ext (φ:Heap->Prop)
abbrev Hp:=Addr->Option HO
def upd (H:Hp) (a:Addr) (o:HO):Hp:=fun b=>if b=a then some o else H b
theorem upd_same {H:Hp}{a:Addr}{o:HO}:upd H a o a=some o:=by unfold upd; rw[if_pos rfl]
theorem zk {H:Hp}{a b:Addr}{o:HO} (h:b≠a):upd H a o b=H b:=by unfold upd; rw[if_neg h]
theorem zbz {H:Hp}{a b:Addr}{o u:HO} (h:H a=some o) (h':H b=some u) (d:o≠u):a≠b:=by
 intro e; subst e; rw[h] at h'; exact d (Ao h')
theorem zj {H:Hp}{a b:Addr}{o:HO} (h:H a=some o) (h':H b=none):a≠b:=by
 intro e; subst e; rw[h] at h'; cases h'
section
variable (P:Program) (w:World)
def zJ (H:Hp) (h:Heap) (a:Addr):HO->Prop
 | .lst xs=>xs.length<=sizeLine/\∃(its:List Value) (n:Nat),Vals xs its/\h.get? a=some { cls:=.type "list",data:=.seq its.toArray n }
 | .tup xs=>xs.length<=sizeLine/\∃its:List Value,Vals xs its/\IsTup h a its.toArray
 | .dK kvs=>kvs.length<=sizeLine/\(a == sysModules)=false/\∃vs,KV kvs vs/\h.DictOf (zD P w) a vs
 | .dT kvs=>kvs.length<=sizeLine/\(a == sysModules)=false/\∃xs:List (List Key×Addr×Value),
   Paired (fun (p:List Key×V) (q:List Key×Addr×Value)=>p.1=q.1/\H q.2.1=some (.tup (p.1.map kV))/\RelV p.2 q.2.2) kvs xs/\
   ∃o es ep,h.get? a=some o/\o.ExactDict/\o.data=.dict es ep/\es.toList=xs.map (entryOfKey (tupleKind (zD P w)))/\(xs.map (·.1)).Nodup
 | .set S n=>h.SetOf (intKind P w) a S n
 | .ins C dx fs=>H dx=some (.own a)/\fs.length<=1000/\dx≠a/\h.get? a=some (PySem.W.instObj C dx)/\
   ∃mA,h.Ns1 dx mA/\(∀f,RelO (fs.lookup f) (mA f))/\PySem.Within mA (fs.map (·.1))
 | .own _=>∃o,h.get? a=some o
 | .xd fs=>∃mA,h.Ns1 a mA/\∀f,RelO (fs.lookup f) (mA f)
 | .rng lo hi=>∃t u v,h.get? a=some { cls:=.type "range",data:=.fields #[.int lo t,.int hi u,.int 1 v] }
 | .frz o u=>h.get? a=some o/\zJ H h a u
 | .tbl ps=>h.get? a=some { cls:=.none,data:=.fields ps }
 | .met f x=>h.get? a=some (PySem.W.methodObj (.ref f) (.ref x))
 | .ext φ=>φ h/\(∃o,h.get? a=some o)/\∀h1 h2:Heap,φ h1->(∀o,h1.get? a=some o->h2.get? a=some o)->φ h2
def HOk (H:Hp) (h:Heap):Prop:=∀a o,H a=some o->zJ P w H h a o
end
section
variable {P:Program}{w:World}{H H':Hp}{h h':Heap}{a:Addr}{o:HO}
theorem zJ.lt (x:zJ P w H h a o):a<h.objs.size:=by
 cases o with
 | lst xs=>obtain⟨_,_,_,_,e⟩:=x; exact Au e
 | tup xs=>obtain⟨_,_,_,p⟩:=x; exact p.lt
 | dK kvs=>obtain⟨_,_,_,_,o,_,_,e,_⟩:=x; exact Au e
 | dT kvs=>obtain⟨_,_,_,_,o,_,_,e,_⟩:=x; exact Au e
 | set S n=>obtain⟨o,_,_,_,e,_⟩:=x; exact Au e
 | ins C dx fs=>obtain⟨_,_,_,e,_⟩:=x; exact Au e
 | own y=>obtain⟨_,e⟩:=x; exact Au e
 | xd fs=>obtain⟨_,⟨_,_,_,e,_⟩,_⟩:=x; exact Au e
 | rng lo hi=>obtain⟨_,_,_,e⟩:=x; exact Au e
 | frz ob u=>obtain⟨e,_⟩:=x; exact Au e
 | tbl ps=>exact Au (show h.get? a=some _ from x)
 | met f y=>exact Au (show h.get? a=some _ from x)
 | ext φ=>obtain⟨_,⟨_,e⟩,_⟩:=x; exact Au e
theorem Paired.mapP {α β:Type}{F G:α->β->Prop}{l₁:List α}{l₂:List β} (h:Paired F l₁ l₂) (f:∀a b,F a b->G a b):Paired G l₁ l₂:=by
 induction h with
 | nil=>exact .nil
 | cons r _ ih=>exact .cons (f _ _ r) ih
theorem zJ.stay (x:zJ P w H h a o) (k:∀b u,(b=a \/ H b=some (.own a))->h.get? b=some u->h'.get? b=some u)
  (ho:∀b,H b=some (.own a)->H' b=some (.own a)) (ht:∀b xs,H b=some (.tup xs)->H' b=some (.tup xs)):zJ P w H' h' a o:=by
 induction o with
 | lst xs=>obtain⟨z,its,n,r,e⟩:=x; exact⟨z,its,n,r,k _ _ (.inl rfl) e⟩
 | tup xs=>obtain⟨z,its,r,ob,e,c⟩:=x; exact⟨z,its,r,ob,k _ _ (.inl rfl) e,c⟩
 | dK kvs=>obtain⟨z,y,vs,r,ob,es,ep,e,c⟩:=x; exact⟨z,y,vs,r,ob,es,ep,k _ _ (.inl rfl) e,c⟩
 | dT kvs=>
  obtain⟨z,y,xs,r,ob,es,ep,e,c⟩:=x;exact⟨z,y,xs,Paired.mapP r fun p q z=>⟨z.1,ht _ _ z.2.1,z.2.2⟩,ob,es,ep,k _ _ (.inl rfl) e,c⟩
 | set S n=>obtain⟨ob,es,ep,t,e,c⟩:=x; exact⟨ob,es,ep,t,k _ _ (.inl rfl) e,c⟩
 | ins C dx fs=>
  obtain⟨d,z,ne,e,mA,⟨od,es,ep,e2,c⟩,r⟩:=x;exact⟨ho _ d,z,ne,k _ _ (.inl rfl) e,mA,⟨od,es,ep,k _ _ (.inr d) e2,c⟩,r⟩
 | own y=>obtain⟨ob,e⟩:=x; exact⟨ob,k _ _ (.inl rfl) e⟩
 | xd fs=>obtain⟨mA,⟨od,es,ep,e,c⟩,r⟩:=x; exact⟨mA,⟨od,es,ep,k _ _ (.inl rfl) e,c⟩,r⟩
 | rng lo hi=>obtain⟨t,u,v,e⟩:=x; exact⟨t,u,v,k _ _ (.inl rfl) e⟩
 | frz ob u ih=>obtain⟨e,q⟩:=x; exact⟨k _ _ (.inl rfl) e,ih q⟩
 | tbl ps=>
  have e:h.get? a=some { cls:=.none,data:=.fields ps }:=x;show h'.get? a=some { cls:=.none,data:=.fields ps };exact k a _ (.inl rfl) e
 | met f y=>
  have e:h.get? a=some (PySem.W.methodObj (.ref f) (.ref y)):=x;show h'.get? a=some (PySem.W.methodObj (.ref f) (.ref y));exact k a _ (.inl rfl) e
 | ext φ=>obtain⟨p,⟨o,e⟩,st⟩:=x; exact⟨st _ _ p fun o q=>k _ _ (.inl rfl) q,⟨o,k _ _ (.inl rfl) e⟩,st⟩
theorem HOk.lt (x:HOk P w H h) (e:H a=some o):a<h.objs.size:=(x a o e).lt
theorem HOk.fresh (x:HOk P w H h) (e:h.objs.size<=a):H a=none:=by
 cases q:H a with
 | none=>rfl
 | some u=>exact absurd (AM (x.lt q) e) (Nat.lt_irrefl _)
theorem HOk.kept (x:HOk P w H h) (k:∀b u,h.get? b=some u->h'.get? b=some u):HOk P w H h':=fun a o e=>
 (x a o e).stay (fun b u _ q=>k b u q) (fun _ q=>q) fun _ _ q=>q
theorem HOk.laid (x:HOk P w H h) (k:∀b u,h.get? b=some u->h'.get? b=some u) (hp:h.objs.size<=a) (new:zJ P w (upd H a o) h' a o):HOk P w (upd H a o) h':=fun b u e=>by
 have hn:=x.fresh hp
 by_cases hb:b=a
 ·subst hb; rw[upd_same] at e; cases e; exact new
 ·rw[zk hb] at e
  exact (x b u e).stay (fun c v _ q=>k c v q) (fun c q=>by rw[zk (zj q hn)]; exact q) fun c xs q=>by rw[zk (zj q hn)]; exact q
end
def Rd (H:Hp) (a:Addr) (u:HO):Prop:=H a=some u \/ ∃o,H a=some (.frz o u)
theorem Rd.of {H:Hp}{a:Addr}{u:HO} (h:H a=some u):Rd H a u:=.inl h
theorem Rd.ok {P:Program}{w:World}{H:Hp}{h:Heap}{a:Addr}{u:HO} (r:Rd H a u) (x:HOk P w H h):zJ P w H h a u:=by
 rcases r with r | ⟨o,r⟩
 ·exact x a u r
 ·obtain⟨_,q⟩:=x a _ r
  exact q
def Mut:Option HO->Prop
 | some (.lst _)=>True
 | some (.dK _)=>True
 | some (.dT _)=>True
 | some (.set _ _)=>True
 | some (.ins _ _ _)=>True
 | some (.ext _)=>True
 | _=>False
section
variable {P:Program}{w:World}{H:Hp}{h h':Heap}{x e:Addr}{o':HO}
theorem HOk.write (ok:HOk P w H h) (mu:Mut (H x)) (he:e=x \/ H e=some (.own x)) (k:∀b u,b≠e->h.get? b=some u->h'.get? b=some u) (heo:∃u,h'.get? e=some u)
  (new:zJ P w (upd H x o') h' x o'):HOk P w (upd H x o') h':=fun b u q=>by
 have nown:∀c y,H c=some (.own y)->c≠x:=fun c y r z=>by subst z; rw[r] at mu; exact mu
 have ntup:∀c xs,H c=some (.tup xs)->c≠x:=fun c xs r z=>by subst z; rw[r] at mu; exact mu
 by_cases hb:b=x
 ·subst hb; rw[upd_same] at q; cases q; exact new
 ·rw[zk hb] at q
  by_cases hbe:b=e
  ·have q':H b=some (.own x):=by
    rcases he with z | z
    ·exact absurd (hbe.trans z) hb
    ·rw[hbe]; exact z
   rw[q] at q'; cases q';obtain⟨v,hv⟩:=heo;exact⟨v,by rw[hbe]; exact hv⟩
  ·refine (ok b u q).stay (fun c v hc r=>k c v ?_ r) (fun c r=>by rw[zk (nown c b r)]; exact r) fun c xs r=>by rw[zk (ntup c xs r)]; exact r
   rcases hc with rfl | hc
   ·exact hbe
   ·rintro rfl
    rcases he with z | z
    ·exact nown c b hc z
    ·rw[hc] at z; cases z; exact hb rfl
end
structure Un (fs ex:List Addr) (H H':Hp) (h h':Heap):Prop where
 keep:∀b o,h.get? b=some o->H b=none->b∉fs->b∉ex->h'.get? b=some o
 slot:∀b o,h.get? b=some o->H b=none->b∈fs->b∉ex->∃sl,h'.get? b=some { o with slots:=sl }
 free:∀b o,h.get? b=some o->H b=none->b∉ex->H' b=none
 there:∀b o,h.get? b=some o->b∉ex->∃o',h'.get? b=some o'
 tups:∀b xs,H b=some (.tup xs)->H' b=some (.tup xs)
 frzs:∀b o u,H b=some (.frz o u)->H' b=some (.frz o u)
 tbls:∀b ps,H b=some (.tbl ps)->∃more,H' b=some (.tbl (ps++more))
section
variable {fs fs' ex ex':List Addr}{H H1 H2:Hp}{h h1 h2 h':Heap}{a x e:Addr}{o:HO}
theorem Un.any (u:Un fs ex H H1 h h1) {b:Addr}{ob:Obj} (q:h.get? b=some ob) (n:H b=none) (hx:b∉ex):∃sl,h1.get? b=some { ob with slots:=sl }:=by
 by_cases hb:b∈fs
 ·exact u.slot b ob q n hb hx
 ·exact⟨ob.slots,u.keep b ob q n hb hx⟩
theorem Un.kept (k:∀b u,h.get? b=some u->h'.get? b=some u):Un fs ex H H h h':=
 ⟨fun b ob q _ _ _=>k b ob q,fun b ob q _ _ _=>⟨ob.slots,k b ob q⟩,fun _ _ _ n _=>n,fun b ob q _=>⟨ob,k b ob q⟩,fun _ _ q=>q,fun _ _ _ q=>q,fun _ ps q=>⟨#[],by rw[q]; simp⟩⟩
theorem Un.refl:Un fs ex H H h h:=Un.kept fun _ _ q=>q
theorem Un.laid (k:∀b u,h.get? b=some u->h'.get? b=some u) (hp:h.objs.size<=a) (hn:H a=none):Un fs ex H (upd H a o) h h' where
 keep:=fun b u q _ _ _=>k b u q
 slot:=fun b u q _ _ _=>⟨u.slots,k b u q⟩
 free:=fun b u q n _=>by rw[zk (AE (AM (Au q) hp))]; exact n
 there:=fun b u q _=>⟨u,k b u q⟩
 tups:=fun b xs q=>by rw[zk (zj q hn)]; exact q
 frzs:=fun b u xs q=>by rw[zk (zj q hn)]; exact q
 tbls:=fun b ps q=>⟨#[],by rw[zk (zj q hn),q]; simp⟩
theorem Un.write (mu:Mut (H x)) (he:e=x \/ H e=some (.own x)) (k:∀b u,b≠e->h.get? b=some u->h'.get? b=some u) (heo:∃u,h'.get? e=some u):Un fs ex H (upd H x o) h h':=by
 have hx:∀b,H b=none->b≠x:=fun b n z=>by subst z; rw[n] at mu; exact mu
 have hb:∀b,H b=none->b≠e:=fun b n z=>by
  subst z;rcases he with r | r
  ·exact hx b n r
  ·rw[n] at r; cases r
 have hm:∀b u,H b=some u->¬ Mut (some u)->b≠x:=fun b u q nm z=>by subst z; rw[q] at mu; exact nm mu
 refine⟨fun b u q n _ _=>k b u (hb b n) q,fun b u q n _ _=>⟨u.slots,k b u (hb b n) q⟩,fun b u q n _=>by rw[zk (hx b n)]; exact n,fun b u q _=>?_,
  fun b xs q=>by rw[zk (hm b _ q fun z=>z)]; exact q,fun b u xs q=>by rw[zk (hm b _ q fun z=>z)]; exact q,fun b ps q=>⟨#[],by rw[zk (hm b _ q fun z=>z),q]; simp⟩⟩
 by_cases hbe:b=e
 ·subst hbe; exact heo
 ·exact⟨u,k b u hbe q⟩
end
def trk (h:Heap) (H:Hp):List Addr:=(A7 h.objs.size).filter fun a=>(H a).isSome
def hidT (h:Heap) (H:Hp):Heap:=PySem.W.hideAll h (trk h H)
theorem zih (h:Heap) (H:Hp):(hidT h H).objs.size=h.objs.size:=PySem.W.hideAll_size _ _
theorem ziO {h:Heap}{H:Hp}{b:Addr}{o:Obj} (e:h.get? b=some o) (n:H b=none):(hidT h H).get? b=some o:=
 PySem.W.hideAll_get _ e fun hm=>by
  have q:(H b).isSome=true:=(List.mem_filter.mp hm).2;rw[n] at q; simp at q
theorem zlj {h:Heap}{H:Hp}{b:Addr}{o:Obj} (e:(hidT h H).get? b=some o):h.get? b=some o/\H b=none:=by
 have e':h.get? b=some o:=PySem.W.of_hideAll (trk h H) e;refine⟨e',?_⟩;cases q:H b with
 | none=>rfl
 | some x=>
  have hm:b∈trk h H:=List.mem_filter.mpr ⟨List.mem_range.mpr (Au e'),by simp[q]⟩;have z:(hidT h H).get? b=none:=PySem.W.hideAll_none (trk h H) hm;rw[z] at e; cases e
def zk0 (g h:Heap) (L:Addr):List (Addr×Obj):=(A7 h.objs.size).filterMap fun a=>if a=L \/ (g.get? a).isSome=true then none else (h.get? a).map fun o=>(a,o)
def rest (g h:Heap) (L d:Addr):List (Addr×Obj):=(zk0 g h L).filter fun p=>decide (p.1≠d)
end L2
namespace L2
open PySem PySem.Spec PyProof.Rows
structure Mod (K:Ad) (mg:Str->Option Value) (base:Heap):Prop where
 kin:K.In base
 glob:base.Ns mainGlobals mg
 blt:∃mb,base.Ns builtinsNs mb/\∀x:Str,x≠"__name__"->mb x=AS x
 nolimit:base.NoLimit
structure Cx where
 prog:Program
 w:World
 K:Ad
 mg:Str->Option Value
 base:Heap
 A:Around
 N:List Str
 s₀:Shared
 H₀:Hp
 env:Env
 outer:List Env
 stack:List Env
 ex:List Addr
 fn:Str->Bool
 calm:Bool
 pn:List (Addr×Obj)
 xe:Value->Shared->Prop
def frs (l:List Env):List Addr:=l.filterMap (·.frame)
abbrev Cx.fs (X:Cx):List Addr:=frs X.outer
def Vis (sc:Scope) (x:Str):Prop:=sc.names.lookup x=some .local \/ sc.names.lookup x=some .cell \/ sc.names.lookup x=some .free
def Loc (sc:Scope) (x:Str):Prop:=sc.names.lookup x=some .local \/ sc.names.lookup x=some .cell
def Look (env:Env) (h:Heap) (m:Str->Option Value) (x:Str) (u:Value):Prop:=
 (env.kindOf x=some .local/\m x=some u) \/ ((env.kindOf x=some .cell \/ env.kindOf x=some .free)/\∃c,env.cells.lookup x=some c/\h.IsCell c (some u))
structure Cx.Ok (X:Cx):Prop where
 mod:Mod X.K X.mg X.base
 kind:X.env.scope.kind=.function
 glob:X.env.globals=mainGlobals
 blt:X.env.builtins=builtinsNs
 above:X.s₀.heap.objs.size<=X.env.locals
 inj:∀x y c,X.env.cells.lookup x=some c->X.env.cells.lookup y=some c->x=y
 has:∀x,(X.env.kindOf x=some .cell \/ X.env.kindOf x=some .free)->∃c,X.env.cells.lookup x=some c
 cab:∀x c,X.fn x=true->X.env.cells.lookup x=some c->X.s₀.heap.objs.size<=c
 hd:X.calm=true->X.A.handled=none
 frames:X.A.frames=some X.stack
 stk:X.stack=X.outer \/ (X.stack=X.env::X.outer/\X.env.frame=some X.env.locals)
 exf:∀b∈X.ex,b≠X.env.locals/\∀x c,X.env.cells.lookup x=some c->c≠b
 bs:∀b o,X.base.get? b=some o->X.s₀.heap.get? b=some o/\X.H₀ b=none
 bsz:X.base.objs.size<=X.s₀.heap.objs.size
 noex:∀b o,X.base.get? b=some o->b∉X.ex
 exfs:∀b∈X.ex,b∉X.fs
 funs:X.s₀.heap.FunFrames X.base X.outer
 frf:∀b∈X.fs,X.H₀ b=none
structure Inv (X:Cx) (pins:List (Addr×Obj)) (σ:List (Option V)) (H:Hp) (s:Shared):Prop where
 ok:X.Ok
 os:s.os=X.s₀.os
 bare:AllBare s.gens
 base:Un X.fs X.ex X.H₀ H X.s₀.heap s.heap
 loc:∃m,s.heap.Ns X.env.locals m/\∀(i:Nat) (x:Str) (v:V),X.N[i]?=some x->σ[i]?=some (some v)->Vis X.env.scope x->∃u,RelV v u/\Look X.env s.heap m x u
 cell:∀x c,X.env.cells.lookup x=some c->∃v,s.heap.IsCell c v
 free:H X.env.locals=none
 freeC:∀x c,X.env.cells.lookup x=some c->H c=none
 pin:∀p∈X.pn++pins,s.heap.get? p.1=some p.2/\H p.1=none/\p.1≠X.env.locals/\p.1∉X.fs/\∀v,p.2.data≠.cell v
 hok:HOk X.prog X.w H s.heap
 len:σ.length=X.N.length
section
variable {X:Cx}{pins:List (Addr×Obj)}{σ:List (Option V)}{H H':Hp}{s:Shared}{h':Heap}
theorem Cx.Ok.nofr (ok:X.Ok) {b:Addr}{o:Obj} (e:X.base.get? b=some o):b∉X.fs:=fun hb=>by
 have:=(ok.funs.mem hb).1;rw[e] at this; cases this
theorem Inv.bs (I:Inv X pins σ H s):∀b o,X.base.get? b=some o->s.heap.get? b=some o/\H b=none:=fun b o e=>
 ⟨I.base.keep b o (I.ok.bs b o e).1 (I.ok.bs b o e).2 (I.ok.nofr e) (I.ok.noex b o e),I.base.free b o (I.ok.bs b o e).1 (I.ok.bs b o e).2 (I.ok.noex b o e)⟩
theorem Inv.bk (I:Inv X pins σ H s):∀b o,X.base.get? b=some o->s.heap.get? b=some o:=fun b o e=>(I.bs b o e).1
theorem Inv.mod (I:Inv X pins σ H s):Mod X.K X.mg X.base:=I.ok.mod
theorem Inv.kIn (I:Inv X pins σ H s):X.K.In s.heap:=I.ok.mod.kin.keeps I.bk
theorem Inv.nolimit (I:Inv X pins σ H s):s.heap.NoLimit:=I.ok.mod.nolimit.keeps I.bk
theorem Inv.fr (I:Inv X pins σ H s):∃m,Fr X.base X.env.locals s.heap m:=
 let ⟨m,hn,_⟩:=I.loc
 ⟨m,hn,I.bk,AG I.ok.bsz I.ok.above⟩
theorem Inv.lt (I:Inv X pins σ H s):X.env.locals<s.heap.objs.size:=let ⟨_,hn,_⟩:=I.loc; hn.lt
theorem Inv.sz (I:Inv X pins σ H s):X.s₀.heap.objs.size<=s.heap.objs.size:=AG I.ok.above (Nat.le_of_lt I.lt)
theorem Inv.nofs (I:Inv X pins σ H s) {a:Addr} (h:s.heap.objs.size<=a):a∉X.fs:=fun hb=>by
 obtain⟨_,o,ho,_⟩:=I.ok.funs.mem hb;exact absurd (AM (Au ho) (AG I.sz h)) (Nat.lt_irrefl _)
theorem Inv.cne (I:Inv X pins σ H s):∀x c,X.env.cells.lookup x=some c->c≠X.env.locals:=fun x c e z=>by
 obtain⟨v,o,ho,hd⟩:=I.cell x c e;obtain⟨m,⟨o',es,ep,ho',hd',_⟩,_⟩:=I.loc;rw[z,ho'] at ho; cases ho; rw[hd'] at hd; cases hd
theorem Inv.funs (I:Inv X pins σ H s):s.heap.FunFrames X.base X.outer:=by
 have all:∀(l:List Env),(∀b∈frs l,b∈X.fs)->X.s₀.heap.FunFrames X.base l->s.heap.FunFrames X.base l:=by
  intro l
  induction l with
  | nil=>intro _ _; trivial
  | cons env r ih=>
   intro hs hl;obtain⟨hk,⟨L,o,hf,hn,ho,hd⟩,hr⟩:=hl;have hL:L∈X.fs:=hs L (by unfold frs; rw[List.filterMap_cons,hf]; exact Am);obtain⟨sl,e⟩:=I.base.slot L o ho (I.ok.frf L hL) hL fun z=>I.ok.exfs L z hL;exact⟨hk,⟨L,_,hf,hn,e,hd⟩,ih (fun b hb=>hs b (by unfold frs; rw[List.filterMap_cons,hf]; exact Ar _ hb)) hr⟩
 exact all X.outer (fun _ hb=>hb) I.ok.funs
theorem Inv.stack (I:Inv X pins σ H s):s.heap.FunFrames X.base X.stack:=by
 rcases I.ok.stk with e | ⟨e,hf⟩
 ·rw[e]; exact I.funs
 ·rw[e]
  obtain⟨m,hn,_⟩:=I.loc;refine .cons (by rw[I.ok.kind]; decide) hf hn ?_ I.funs;exact Heap.get?_none_of_le (AG I.ok.bsz I.ok.above)
theorem Inv.stkSub (I:Inv X pins σ H s):∀b∈frs X.stack,b∈X.env.locals::X.fs:=fun b hb=>by
 rcases I.ok.stk with e | ⟨e,hf⟩
 ·rw[e] at hb; exact Ar _ hb
 ·rw[e] at hb
  unfold frs at hb;rw[List.filterMap_cons,hf] at hb;exact hb
theorem Inv.stkFree (I:Inv X pins σ H s):∀b∈frs X.stack,H b=none:=fun b hb=>by
 rcases List.mem_cons.mp (I.stkSub b hb) with e | hb
 ·rw[e]; exact I.free
 ·obtain⟨_,o,ho,_⟩:=I.ok.funs.mem hb
  exact I.base.free b o ho (I.ok.frf b hb) fun z=>I.ok.exfs b z hb
theorem Inv.step {g':Array GenState}{t':Nat}{d':Drawn}{ch:List Addr} (I:Inv X pins σ H s)
  (hch:∀b∈ch,(b∈X.ex \/ X.s₀.heap.objs.size<=b)/\b≠X.env.locals/\(∀x c,X.env.cells.lookup x=some c->c≠b)/\∀p∈X.pn++pins,p.1≠b)
  (keep:∀b o,b≠X.env.locals->b∉X.fs->b∉ch->s.heap.get? b=some o->H b=none->h'.get? b=some o)
  (slot:∀b o,b≠X.env.locals->b∈X.fs->b∉ch->s.heap.get? b=some o->H b=none->∃sl,h'.get? b=some { o with slots:=sl }) (free:∀b o,b∉ch->s.heap.get? b=some o->H b=none->H' b=none)
  (there:∀b o,b∉ch->s.heap.get? b=some o->∃o',h'.get? b=some o')
  (tups:∀b xs,H b=some (.tup xs)->H' b=some (.tup xs)) (frzs:∀b o u,H b=some (.frz o u)->H' b=some (.frz o u)) (tbls:∀b ps,H b=some (.tbl ps)->∃more,H' b=some (.tbl (ps++more)))
  (ns:∀m,s.heap.Ns X.env.locals m->h'.Ns X.env.locals m) (hok:HOk X.prog X.w H' h') (hg:AllBare g') :
  Inv X pins σ H' { s with heap:=h',gens:=g',drawn:=d',toks:=t' }:=by
 have neL:∀b o,X.s₀.heap.get? b=some o->b≠X.env.locals:=fun b o e=>AE (AM (Au e) I.ok.above);have neC:∀b o,X.s₀.heap.get? b=some o->b∉X.ex->b∉ch:=fun b o e hx hb=>by
  rcases (hch b hb).1 with z | z
  ·exact hx z
  ·exact absurd (AM (Au e) z) (Nat.lt_irrefl _)
 have cellK:∀x c,X.env.cells.lookup x=some c->∀v,s.heap.IsCell c v->h'.IsCell c v:=fun x c e v ⟨o,ho,hd⟩=>by
  have nch:c∉ch:=fun z=>(hch c z).2.2.1 x c e rfl
  by_cases hc:c∈X.fs
  ·obtain⟨sl,q⟩:=slot c o (I.cne x c e) hc nch ho (I.freeC x c e)
   exact⟨_,q,hd⟩
  ·exact⟨o,keep c o (I.cne x c e) hc nch ho (I.freeC x c e),hd⟩
 refine⟨I.ok,I.os,hg,⟨fun b o e n hb hx=>?_,fun b o e n hb hx=>?_,fun b o e n hx=>?_,fun b o e hx=>?_,fun b xs e=>tups b xs (I.base.tups b xs e),fun b o xs e=>frzs b o xs (I.base.frzs b o xs e),fun b ps e=>?_⟩,?_,fun x c e=>?_,?_,fun x c e=>?_,fun p hp=>?_,hok,I.len⟩
 ·exact keep b o (neL b o e) hb (neC b o e hx) (I.base.keep b o e n hb hx) (I.base.free b o e n hx)
 ·obtain⟨sl,e1⟩:=I.base.slot b o e n hb hx
  obtain⟨sl',e2⟩:=slot b _ (neL b o e) hb (neC b o e hx) e1 (I.base.free b o e n hx);exact⟨sl',e2⟩
 ·obtain⟨o',e1⟩:=I.base.there b o e hx
  exact free b o' (neC b o e hx) e1 (I.base.free b o e n hx)
 ·obtain⟨o',e1⟩:=I.base.there b o e hx
  exact there b o' (neC b o e hx) e1
 ·obtain⟨m1,e1⟩:=I.base.tbls b ps e
  obtain⟨m2,e2⟩:=tbls b _ e1;exact⟨m1++m2,by rw[e2,Array.append_assoc]⟩
 ·obtain⟨m,hn,hl⟩:=I.loc
  refine⟨m,ns m hn,fun i x v e1 e2 e3=>?_⟩;obtain⟨u,r,l⟩:=hl i x v e1 e2 e3;refine⟨u,r,?_⟩;rcases l with l | ⟨k,c,e,z⟩
  ·exact .inl l
  ·exact .inr ⟨k,c,e,cellK x c e _ z⟩
 ·obtain⟨v,z⟩:=I.cell x c e
  exact⟨v,cellK x c e v z⟩
 ·obtain⟨m,⟨o,_,_,ho,_⟩,_⟩:=I.loc
  exact free _ o (fun z=>(hch _ z).2.1 rfl) ho I.free
 ·obtain⟨v,o,ho,hd⟩:=I.cell x c e
  exact free c o (fun z=>(hch c z).2.2.1 x c e rfl) ho (I.freeC x c e)
 ·obtain⟨e,n,ne,nf,d⟩:=I.pin p hp
  have nch:p.1∉ch:=fun z=>(hch p.1 z).2.2.2 p hp rfl;exact⟨keep p.1 p.2 ne nf nch e n,free p.1 p.2 nch e n,ne,nf,d⟩
theorem Inv.un {t':Nat} (I:Inv X pins σ H s) (u:Un X.fs [] H H' s.heap h') (hok:HOk X.prog X.w H' h'):Inv X pins σ H' { s with heap:=h',toks:=t' }:=by
 obtain⟨m,⟨o,es,ep,ho,r⟩,_⟩:=id I.loc;obtain⟨sl,hL⟩:=u.any ho I.free (by simp);exact I.step (g':=s.gens) (d':=s.drawn) (ch:=[]) (fun _ z=>nomatch z) (fun b o _ hb _ e n=>u.keep b o e n hb (by simp)) (fun b o _ hb _ e n=>u.slot b o e n hb (by simp)) (fun b o _ e n=>u.free b o e n (by simp)) (fun b o _ e=>u.there b o e (by simp)) u.tups u.frzs u.tbls (fun m' hm=>by
  obtain⟨o',es',ep',ho',r'⟩:=hm;rw[ho] at ho'; cases ho';exact⟨_,es',ep',hL,r'⟩) hok I.bare
theorem Inv.call {g':Array GenState}{t':Nat}{d':Drawn}{ch:List Addr} (I:Inv X pins σ H s) (u:Un (frs X.stack) ch H H' s.heap h') (hok:HOk X.prog X.w H' h') (hg:AllBare g')
  (hch:∀b∈ch,(b∈X.ex \/ X.s₀.heap.objs.size<=b)/\b≠X.env.locals/\(∀x c,X.env.cells.lookup x=some c->c≠b)/\∀p∈X.pn++pins,p.1≠b) :
  Inv X pins σ H' { s with heap:=h',gens:=g',drawn:=d',toks:=t' }:=by
 obtain⟨m,⟨o,es,ep,ho,r⟩,_⟩:=id I.loc;obtain⟨sl,hL⟩:=u.any ho I.free fun z=>(hch _ z).2.1 rfl;exact I.step (ch:=ch) hch (fun b o hL hb hc e n=>u.keep b o e n (fun z=>(List.mem_cons.mp (I.stkSub b z)).elim hL hb) hc) (fun b o _ _ hc e n=>u.any e n hc) (fun b o hc e n=>u.free b o e n hc) (fun b o hc e=>u.there b o e hc) u.tups u.frzs u.tbls (fun m' hm=>by
  obtain⟨o',es',ep',ho',r'⟩:=hm;rw[ho] at ho'; cases ho';exact⟨_,es',ep',hL,r'⟩) hok hg
theorem Inv.turned {t':Nat}{it:Addr} (I:Inv X pins σ H s) (k:∀b o,b≠it->s.heap.get? b=some o->h'.get? b=some o) (hn:H it=none) (hL:it≠X.env.locals)
  (h1:it∈X.ex \/ X.s₀.heap.objs.size<=it) (h2:∀x c,X.env.cells.lookup x=some c->c≠it) (h3:∀p∈X.pn++pins,p.1≠it):Inv X pins σ H { s with heap:=h',toks:=t' }:=by
 have nit:∀b u,H b=some u->b≠it:=fun b u e z=>by rw[z,hn] at e; cases e
 refine I.step (g':=s.gens) (d':=s.drawn) (ch:=[it]) (fun b hb=>?_) (fun b o _ _ hc e _=>k b o (fun z=>hc (by simp[z])) e) (fun b o _ _ hc e _=>⟨o.slots,k b o (fun z=>hc (by simp[z])) e⟩) (fun _ _ _ _ n=>n)
  (fun b o hc e=>⟨o,k b o (fun z=>hc (by simp[z])) e⟩) (fun _ _ e=>e) (fun _ _ _ e=>e) (fun b ps e=>⟨#[],by rw[e]; simp⟩) (fun m hm=>?_) (fun b u e=>?_) I.bare
 ·have e:b=it:=by simpa using hb
  subst e;exact⟨h1,hL,h2,h3⟩
 ·obtain⟨o,es,ep,ho,r⟩:=hm
  exact⟨o,es,ep,k _ o (Ne.symm hL) ho,r⟩
 ·refine (I.hok b u e).stay (fun c v hc q=>k c v ?_ q) (fun _ q=>q) fun _ _ q=>q
  rcases hc with z | z
  ·rw[z]; exact nit b u e
  ·exact nit c _ z
theorem Inv.tok (I:Inv X pins σ H s) (t:Nat):Inv X pins σ H { s with toks:=t }:=I.un (h':=s.heap) (t':=t) Un.refl I.hok
theorem Inv.kept {t':Nat} (I:Inv X pins σ H s) (k:∀b u,s.heap.get? b=some u->h'.get? b=some u):Inv X pins σ H { s with heap:=h',toks:=t' }:=I.un (Un.kept k) (I.hok.kept k)
theorem Inv.laid {a:Addr}{o:HO}{t':Nat} (I:Inv X pins σ H s) (k:∀b u,s.heap.get? b=some u->h'.get? b=some u) (hp:s.heap.objs.size<=a) (new:zJ X.prog X.w (upd H a o) h' a o) :
  Inv X pins σ (upd H a o) { s with heap:=h',toks:=t' }:=I.un (Un.laid k hp (I.hok.fresh hp)) (I.hok.laid k hp new)
theorem Inv.write {x e:Addr}{o:HO}{t':Nat} (I:Inv X pins σ H s) (mu:Mut (H x)) (he:e=x \/ H e=some (.own x)) (k:∀b u,b≠e->s.heap.get? b=some u->h'.get? b=some u) (heo:∃u,h'.get? e=some u)
  (new:zJ X.prog X.w (upd H x o) h' x o):Inv X pins σ (upd H x o) { s with heap:=h',toks:=t' }:=I.un (Un.write mu he k heo) (I.hok.write mu he k heo new)
theorem Inv.pins_of {pins':List (Addr×Obj)} (I:Inv X pins σ H s) (h:∀p∈pins',s.heap.get? p.1=some p.2/\H p.1=none/\p.1≠X.env.locals/\p.1∉X.fs/\∀v,p.2.data≠.cell v):Inv X pins' σ H s:=
 ⟨I.ok,I.os,I.bare,I.base,I.loc,I.cell,I.free,I.freeC,fun p hp=>(List.mem_append.mp hp).elim (fun z=>I.pin p (AI _ z)) (h p),I.hok,I.len⟩
theorem zgf {N:List Str} (hN:N.Nodup) {i j:Nat}{x:Str} (a:N[i]?=some x) (b:N[j]?=some x):i=j:=by
 obtain⟨h1,e1⟩:=List.getElem?_eq_some_iff.mp a;obtain⟨h2,e2⟩:=List.getElem?_eq_some_iff.mp b;exact (List.getElem_inj hN).mp (e1.trans e2.symm)
theorem zeu {M:Model}{A:Around}{E:Value->Shared->Prop}{i:Nat}{x:Str}{v:V}{u:Value}{Q:Unit->Shared->Prop} (I:Inv X pins σ H s) (hN:X.N.Nodup) (hi:X.N[i]?=some x) (hx:Loc X.env.scope x) (r:RelV v u)
  (h:∀s',Inv X pins (σ.set i (some v)) H s'->(∃a,AX a s.heap s'.heap/\(a=X.env.locals \/ X.env.cells.lookup x=some a))->Q () s') (hf:X.fn x=true \/ X.env.scope.names.lookup x=some .local:=by first | exact .inl rfl | exact .inr rfl | assumption):wpAny M A (storeName X.env x u) Q E s:=by
 obtain⟨m,hn,hl⟩:=id I.loc;have hcls:(X.env.scope.kind == .class || (X.env.scope.kind == .module && X.env.locals != X.env.globals))=false:=by rw[I.ok.kind]; rfl
 have hiσ:i<σ.length:=by rw[I.len]; exact (List.getElem?_eq_some_iff.mp hi).1
 have cne:=I.cne;have tracked:∀{a:Addr} {h':Heap},(∃o,s.heap.get? a=some o/\H a=none)->AX a s.heap h'->HOk X.prog X.w H h':=fun {a h'} ha hs b ob e=>by
  obtain⟨_,_,hfree⟩:=ha;refine (I.hok b ob e).stay (fun c w' hc q=>(hs.2 c ?_).trans q) (fun _ q=>q) fun _ _ q=>q;rintro rfl;rcases hc with rfl | hc
  ·rw[hfree] at e; cases e
  ·rw[hfree] at hc; cases hc
 rcases hx with hk | hk
 ·refine wpAny_storeName_local hk hn (fun h' hn' hs=>?_) hcls
  obtain⟨oL,_,_,hoL,_⟩:=id hn;refine h _ ⟨I.ok,I.os,I.bare,⟨fun b o e n hb hx=>?_,fun b o e n hb hx=>?_,I.base.free,fun b o e hx=>?_,I.base.tups,I.base.frzs,I.base.tbls⟩,⟨_,hn',fun j y v' e1 e2 e3=>?_⟩,fun y c e=>?_,I.free,I.freeC,fun p hp=>?_,tracked ⟨oL,hoL,I.free⟩ hs,by simpa using I.len⟩ ⟨_,hs,.inl rfl⟩
  ·exact (hs.2 b (AE (AM (Au e) I.ok.above))).trans (I.base.keep b o e n hb hx)
  ·obtain⟨sl,e1⟩:=I.base.slot b o e n hb hx
   exact⟨sl,(hs.2 b (AE (AM (Au e) I.ok.above))).trans e1⟩
  ·obtain⟨o',e1⟩:=I.base.there b o e hx
   exact⟨o',(hs.2 b (AE (AM (Au e) I.ok.above))).trans e1⟩
  ·by_cases hj:j=i
   ·subst hj
    rw[hi] at e1; cases e1;rw[List.getElem?_set_self hiσ] at e2;cases e2;exact⟨u,r,.inl ⟨hk,by simp⟩⟩
   ·rw[List.getElem?_set_ne (Ne.symm hj)] at e2
    obtain⟨u',r',q⟩:=hl j y v' e1 e2 e3;refine⟨u',r',?_⟩;rcases q with ⟨k,e⟩ | ⟨k,c,e,z⟩
    ·refine .inl ⟨k,?_⟩
     have:y≠x:=fun e=>hj (zgf hN e1 (e ▸ hi));simp[this,e]
    ·exact .inr ⟨k,c,e,z.sameBut hs (cne y c e)⟩
  ·obtain⟨w',z⟩:=I.cell y c e
   exact⟨w',z.sameBut hs (cne y c e)⟩
  ·obtain⟨e,n,ne,nf,d⟩:=I.pin p hp
   exact⟨(hs.2 p.1 ne).trans e,n,ne,nf,d⟩
 ·have hfn:X.fn x=true:=by
   rcases hf with z | z
   ·exact z
   ·rw[z] at hk; cases hk
  obtain⟨c,hc⟩:=I.ok.has x (.inl hk);obtain⟨w',z⟩:=I.cell x c hc;refine wpAny_storeName_cell I.ok.kind hk hc z (fun h' hc' hs=>?_);obtain⟨oc,hoc,hocd⟩:=id z;refine h { s with heap:=h' } ⟨I.ok,I.os,I.bare,⟨fun b o e n hb hx=>?_,fun b o e n hb hx=>?_,I.base.free,fun b o e hx=>?_,I.base.tups,I.base.frzs,I.base.tbls⟩,⟨m,hn.sameBut hs (Ne.symm (cne x c hc)),fun j y v' e1 e2 e3=>?_⟩,fun y c' e=>?_,I.free,I.freeC,fun p hp=>?_,tracked ⟨oc,hoc,I.freeC x c hc⟩ hs,by simpa using I.len⟩ ⟨c,hs,.inr hc⟩
  ·exact (hs.2 b (AE (AM (Au e) (I.ok.cab x c hfn hc)))).trans (I.base.keep b o e n hb hx)
  ·obtain⟨sl,e1⟩:=I.base.slot b o e n hb hx
   exact⟨sl,(hs.2 b (AE (AM (Au e) (I.ok.cab x c hfn hc)))).trans e1⟩
  ·obtain⟨o',e1⟩:=I.base.there b o e hx
   exact⟨o',(hs.2 b (AE (AM (Au e) (I.ok.cab x c hfn hc)))).trans e1⟩
  ·by_cases hj:j=i
   ·subst hj
    rw[hi] at e1; cases e1;rw[List.getElem?_set_self hiσ] at e2;cases e2;exact⟨u,r,.inr ⟨.inl hk,c,hc,hc'⟩⟩
   ·rw[List.getElem?_set_ne (Ne.symm hj)] at e2
    obtain⟨u',r',q⟩:=hl j y v' e1 e2 e3;refine⟨u',r',?_⟩;rcases q with q | ⟨k,c',e,z'⟩
    ·exact .inl q
    ·refine .inr ⟨k,c',e,z'.sameBut hs ?_⟩
     rintro rfl;exact hj (zgf hN e1 (I.ok.inj _ _ _ e hc ▸ hi))
  ·by_cases hcc:c'=c
   ·subst hcc; exact⟨_,hc'⟩
   ·obtain⟨w2,z2⟩:=I.cell y c' e
    exact⟨w2,z2.sameBut hs hcc⟩
  ·obtain⟨e,n,ne,nf,d⟩:=I.pin p hp
   refine⟨(hs.2 p.1 ?_).trans e,n,ne,nf,d⟩;intro q;rw[q,hoc] at e;have q':oc=p.2:=Ao e;exact d w' (by rw[<- q']; exact hocd)
theorem zfA {M:Model}{A:Around}{E:Value->Shared->Prop}{i:Nat}{x:Str}{v:V}{u:Value}{Q:Unit->Shared->Prop} (I:Inv X pins σ H s) (hN:X.N.Nodup) (hi:X.N[i]?=some x) (hx:Loc X.env.scope x) (r:RelV v u)
  (h:∀s',Inv X pins (σ.set i (some v)) H s'->Q () s') (hf:X.fn x=true \/ X.env.scope.names.lookup x=some .local:=by first | exact .inl rfl | exact .inr rfl | assumption):wpAny M A (storeName X.env x u) Q E s:=
 zeu I hN hi hx r (fun s' I' _=>h s' I') hf
theorem Inv.call' {s':Shared}{ch:List Addr} (I:Inv X pins σ H s) (ho:s'.os=s.os) (u:Un (frs X.stack) ch H H' s.heap s'.heap) (hok:HOk X.prog X.w H' s'.heap) (hg:AllBare s'.gens)
  (hch:∀b∈ch,(b∈X.ex \/ X.s₀.heap.objs.size<=b)/\b≠X.env.locals/\(∀x c,X.env.cells.lookup x=some c->c≠b)/\∀p∈X.pn++pins,p.1≠b):Inv X pins σ H' s':=by
 obtain⟨h',g',d',t',o'⟩:=s';have e:o'=s.os:=ho;subst e;exact I.call (g':=g') (t':=t') (d':=d') u hok hg hch
end
abbrev XK:=Value->Option Addr->Hp->Prop
abbrev St:=List (Option V)
abbrev VK:=V->Hp->Prop
abbrev TE:=St->Hp->VK->Prop
abbrev TT:=St->Hp->(Bool->Hp->Prop)->Prop
abbrev TA:=St->Hp->(List V->Hp->Prop)->Prop
structure Ends where
 nx:St->Hp->Prop
 rt:VK
 bk:St->Hp->Prop:=fun _ _=>False
 ct:St->Hp->Prop:=fun _ _=>False
abbrev TS:=Ends->St->Hp->Prop
def EP (X:Cx) (pins:List (Addr×Obj)) (σ:St) (Q:VK) (u:Value) (s':Shared):Prop:=∃v H',Inv X pins σ H' s'/\RelV v u/\Q v H'
def TP (X:Cx) (pins:List (Addr×Obj)) (σ:St) (Q:Bool->Hp->Prop) (b:Bool) (s':Shared):Prop:=∃H',Inv X pins σ H' s'/\Q b H'
def AP (X:Cx) (pins:List (Addr×Obj)) (σ:St) (Q:List V->Hp->Prop) (us:List Value) (s':Shared):Prop:=∃vs H',Inv X pins σ H' s'/\Vals vs us/\Q vs H'
def SP (X:Cx) (pins:List (Addr×Obj)) (D:Ends) (f:Flow) (s':Shared):Prop:=
 match f with
 | .next=>∃σ' H',Inv X pins σ' H' s'/\D.nx σ' H'
 | .brk=>∃σ' H',Inv X pins σ' H' s'/\D.bk σ' H'
 | .cont=>∃σ' H',Inv X pins σ' H' s'/\D.ct σ' H'
 | .ret u=>∃v σ' H',Inv X pins σ' H' s'/\RelV v u/\D.rt v H'
def PE (X:Cx) (e:Expr) (t:TE):Prop:=
 ∀(pins:List (Addr×Obj)) (s:Shared) (σ:St) (H:Hp) (Q:VK),Inv X pins σ H s->t σ H Q->wpAny (model X.prog X.w) X.A (eval e X.env) (EP X pins σ Q) X.xe s
def PT (X:Cx) (e:Expr) (t:TT):Prop:=
 ∀(pins:List (Addr×Obj)) (s:Shared) (σ:St) (H:Hp) (Q:Bool->Hp->Prop),Inv X pins σ H s->t σ H Q->wpAny (model X.prog X.w) X.A (isTrue e X.env (eval e X.env)) (TP X pins σ Q) X.xe s
def PW (X:Cx) (e:Expr) (t:TT):Prop:=
 ∀(whole:Sem Value) (pins:List (Addr×Obj)) (s:Shared) (σ:St) (H:Hp) (Q:Bool->Hp->Prop),Inv X pins σ H s->t σ H Q->wpAny (model X.prog X.w) X.A (isTrue e X.env whole) (TP X pins σ Q) X.xe s
theorem PW.pt {X:Cx}{e:Expr}{t:TT} (h:PW X e t):PT X e t:=h _
def PA (X:Cx) (es:List Expr) (t:TA):Prop:=
 ∀(pos:Pos) (pins:List (Addr×Obj)) (s:Shared) (σ:St) (H:Hp) (Q:List V->Hp->Prop),Inv X pins σ H s->t σ H Q->wpAny (model X.prog X.w) X.A (spliced (backTo pos (starEach es X.env))) (AP X pins σ Q) X.xe s
def PS (X:Cx) (st:Stmt) (t:TS):Prop:=
 ∀(pins:List (Addr×Obj)) (s:Shared) (σ:St) (H:Hp) (D:Ends),Inv X pins σ H s->t D σ H->wpAny (model X.prog X.w) X.A (exec st X.env) (SP X pins D) X.xe s
def PSs (X:Cx) (st:List Stmt) (t:TS):Prop:=
 ∀(pins:List (Addr×Obj)) (s:Shared) (σ:St) (H:Hp) (D:Ends),Inv X pins σ H s->t D σ H->wpAny (model X.prog X.w) X.A (execs st X.env) (SP X pins D) X.xe s
theorem thn {α:Type}{t:Sem α}{Q Q':α->Shared->Prop}{M:Model}{A:Around}{E:Value->Shared->Prop}{s:Shared} (h:wpAny M A t Q E s) (hQ:∀a s,Q a s->Q' a s):wpAny M A t Q' E s:=wpAny_mono h hQ fun _ _ x=>x
end L2
namespace L2
open PySem PySem.Spec PyProof.Rows
section
variable {X:Cx}
def tVar (i:Nat):TE:=fun σ H Q=>∃v,σ[i]?=some (some v)/\Q v H
def tC (v:V):TE:=fun _ H Q=>Q v H
theorem zmA {i:Nat}{x:Str}{pos:Pos} (hN:X.N[i]?=some x) (hv:Vis X.env.scope x) (hd:(x == ("__debug__":Str))=false:=by decide) (hcd:(x == ("__classdict__":Str))=false:=by decide):PE X (.Name x pos) (tVar i):=by
 intro pins s σ H Q I h;obtain⟨v,e,h⟩:=h;obtain⟨m,hn,hl⟩:=I.loc;obtain⟨u,r,l⟩:=hl i x v hN e hv;have fin:EP X pins σ Q u s:=⟨v,H,I,r,h⟩;rcases l with ⟨hk,hm⟩ | ⟨hk,c,hc,hcell⟩
 ·exact wpAny_Name (wpAny_loadName_local I.ok.kind hk hn hm fin) hd
 ·rcases hk with hk | hk
  ·exact wpAny_Name (wpAny_loadName_cell I.ok.kind hk hc hcell fin) hd
  ·exact wpAny_Name (wpAny_loadName_free I.ok.kind hk hc hcell fin hcd) hd
theorem zl {i j pos}:PE X (.Constant (.int i) j pos) (tC (.int i)):=fun _ _ _ H _ I h=>wpAny_Constant_int ⟨.int i,H,I.tok _,⟨_,rfl⟩,h⟩
theorem zbf {b j pos}:PE X (.Constant (.bool b) j pos) (tC (.bl b)):=fun _ _ _ H _ I h=>Constant_bool ⟨.bl b,H,I,rfl,h⟩
theorem zj3 {j pos}:PE X (.Constant .none j pos) (tC .non):=fun _ _ _ H _ I h=>Constant_none ⟨.non,H,I,rfl,h⟩
theorem zV {x j pos}:PE X (.Constant (.str x) j pos) (tC (.str x)):=fun _ _ _ H _ I h=>Calls.Constant_str ⟨.str x,H,I.tok _,⟨_,rfl⟩,h⟩
def Gl (X:Cx) (x:Str):Prop:=X.env.kindOf x=some .globalImplicit
theorem zeQ {E:Value->Shared->Prop}{pins:List (Addr×Obj)}{s:Shared}{σ:St}{H:Hp}{x:Str}{u:Value}{pos:Pos}{Q:Value->Shared->Prop} (I:Inv X pins σ H s) (hg:Gl X x) (hm:X.mg x=some u) (h:Q u s)
  (hd:(x == ("__debug__":Str))=false:=by decide):wpAny (model X.prog X.w) X.A (eval (.Name x pos) X.env) Q E s:=
 Calls.Name_function_global I.ok.kind hg (Calls.loadGlobal_global (by rw[I.ok.glob]; exact I.mod.glob.keeps I.bk) hm h) hd
theorem zb9 {E:Value->Shared->Prop}{pins:List (Addr×Obj)}{s:Shared}{σ:St}{H:Hp}{x:Str}{u:Value}{pos:Pos}{Q:Value->Shared->Prop} (I:Inv X pins σ H s) (hg:Gl X x) (hm:X.mg x=none) (hv:AS x=some u) (h:Q u s)
  (hn:x≠"__name__":=by decide) (hd:(x == ("__debug__":Str))=false:=by decide):wpAny (model X.prog X.w) X.A (eval (.Name x pos) X.env) Q E s:=by
 obtain⟨mb,h1,h2⟩:=I.mod.blt;exact Calls.Name_function_global I.ok.kind hg (Calls.loadGlobal_builtin (by rw[I.ok.glob]; exact I.mod.glob.keeps I.bk) hm (by rw[I.ok.blt]; exact h1.keeps I.bk) ((h2 x hn).trans hv) h) hd
theorem zdu {x:Str}{v:V}{u:Value}{pos:Pos} (hg:Gl X x) (hm:X.mg x=some u) (r:RelV v u) (hd:(x == ("__debug__":Str))=false:=by decide):PE X (.Name x pos) (tC v):=
 fun _ _ _ H _ I h=>zeQ I hg hm ⟨v,H,I,r,h⟩ hd
theorem zfd {x:Str}{v:V}{u:Value}{pos:Pos} (hg:Gl X x) (hm:X.mg x=none) (hv:AS x=some u) (r:RelV v u) (hn:x≠"__name__":=by decide) (hd:(x == ("__debug__":Str))=false:=by decide):PE X (.Name x pos) (tC v):=
 fun _ _ _ H _ I h=>zb9 I hg hm hv ⟨v,H,I,r,h⟩ hn hd
variable {a b:Expr}{ta tb:TE}{pos:Pos}
def PC (X:Cx) (op:CmpOp) (a b:Expr) (t:TE):Prop:=
 ∀(pins:List (Addr×Obj)) (s:Shared) (σ:St) (H:Hp) (Q:VK),Inv X pins σ H s->t σ H Q->
  wpAny (model X.prog X.w) X.A (eval a X.env) (fun v s₁=>wpAny (model X.prog X.w) X.A (eval b X.env) (fun u s₂=>wpAny (model X.prog X.w) X.A (compareOp op v u) (EP X pins σ Q) X.xe s₂) X.xe s₁) X.xe s
theorem nobehind (b:Expr) {op:CmpOp} (h:op≠.In) (h2:op≠.NotIn):behindInMarks op b=false:=by
 have e1:(op == CmpOp.In)=false:=by cases op <;> first | rfl | exact absurd rfl h
 have e2:(op == CmpOp.NotIn)=false:=by cases op <;> first | rfl | exact absurd rfl h2
 cases b <;> simp[behindInMarks,e1,e2]
def tB (t:TE):TT:=fun σ H Q=>t σ H fun x H1=>∃c,x=.bl c/\Q c H1
theorem zh1 {op:CmpOp}{t:TE} (h:PC X op a b t) (h1:behindInMarks op b=false:=by first | exact nobehind _ (by decide) (by decide) | rfl):PE X (.Compare a [op] [b] pos) t:=fun pins s σ H Q I hw=>wpAny_Compare1 (h pins s σ H Q I hw) h1
theorem zet {op:CmpOp}{t:TE} (h:PC X op a b t) (h1:behindInMarks op b=false:=by first | exact nobehind _ (by decide) (by decide) | rfl):PT X (.Compare a [op] [b] pos) (tB t):=by
 intro pins s σ H Q I hw;refine wpAny_isTrue_Compare1 (thn (h pins s σ H _ I hw) fun v s1 h1=>thn h1 fun u s2 h2=>thn h2 fun c s3 ⟨x,H1,I1,r1,q1⟩=>?_) h1;obtain⟨d,rfl,q⟩:=q1;cases r1;exact wpAny_truthy_bool ⟨H1,I1,q⟩
theorem zbS {e:Expr}{t:TE} (h:PE X e t) (he:∀whole,isTrue e X.env whole=(do let v <- whole; standAt e.pos; holding [v] (truthy v)):=by intro _; rfl):PT X e (tB t):=by
 intro pins s σ H Q I hw;refine isTrue_plain (thn (h pins s σ H _ I hw) fun v s1 ⟨x,H1,I1,r1,q1⟩=>?_) (he _);obtain⟨d,rfl,q⟩:=q1;cases r1;exact wpAny_truthy_bool ⟨H1,I1,q⟩
variable {tA tB':TT}{rest:List Expr}
def tAnd (t u:TT):TT:=fun σ H Q=>t σ H fun c H1=>if c=true then u σ H1 Q else Q false H1
def tOr (t u:TT):TT:=fun σ H Q=>t σ H fun c H1=>if c=true then Q true H1 else u σ H1 Q
def tNot (t:TT):TT:=fun σ H Q=>t σ H fun c H1=>Q (!c) H1
theorem zlG (ha:PT X a tA):PW X (.BoolOp .And [a] pos) tA:=by
 intro wh pins s σ H Q I h;refine isTrue_and (thn (ha pins s σ H Q I h) fun c s1 e=>?_);cases c with
 | true=>exact isTrue_and_nil e
 | false=>exact e
theorem zfF (ha:PT X a tA):PW X (.BoolOp .Or [a] pos) tA:=by
 intro wh pins s σ H Q I h;refine isTrue_or (thn (ha pins s σ H Q I h) fun c s1 e=>?_);cases c with
 | false=>exact isTrue_or_nil e
 | true=>exact e
theorem zl4 (ha:PT X a tA) (hb:PW X (.BoolOp .And (b::rest) pos) tB'):PW X (.BoolOp .And (a::b::rest) pos) (tAnd tA tB'):=by
 intro wh pins s σ H Q I h;refine isTrue_and (thn (ha pins s σ H _ I h) fun c s1 ⟨H1,I1,q1⟩=>?_);cases c with
 | true=>exact hb wh pins s1 σ H1 Q I1 q1
 | false=>exact⟨H1,I1,q1⟩
theorem zhC (ha:PT X a tA) (hb:PW X (.BoolOp .Or (b::rest) pos) tB'):PW X (.BoolOp .Or (a::b::rest) pos) (tOr tA tB'):=by
 intro wh pins s σ H Q I h;refine isTrue_or (thn (ha pins s σ H _ I h) fun c s1 ⟨H1,I1,q1⟩=>?_);cases c with
 | true=>exact⟨H1,I1,q1⟩
 | false=>exact hb wh pins s1 σ H1 Q I1 q1
theorem zc5 (ha:PT X a tA):PT X (.UnaryOp .Not a pos) (tNot tA):=by
 intro pins s σ H Q I h;exact isTrue_not (ha pins s σ H (fun c H1=>Q (!c) H1) I h)
def zm2 (ta tb:TE):TE:=fun σ H Q=>ta σ H fun x H1=>∃c,x=.bl c/\if c=true then tb σ H1 Q else Q (.bl false) H1
theorem zmq {op}{t:TE} (h:PE X a t):PE X (.BoolOp op [a] pos) t:=fun pins s σ H Q I hw=>BoolOp_one (h pins s σ H Q I hw)
theorem zlQ (ha:PE X a ta) (hb:PE X (.BoolOp .And (b::rest) pos) tb):PE X (.BoolOp .And (a::b::rest) pos) (zm2 ta tb):=by
 intro pins s σ H Q I h;refine BoolOp_and (thn (ha pins s σ H _ I h) fun v s1 ⟨x,H1,I1,r1,q1⟩=>?_);obtain⟨c,rfl,q1⟩:=q1;cases r1;refine wpAny_truthy_bool ?_;cases c with
 | true=>exact hb pins s1 σ H1 Q I1 q1
 | false=>exact⟨.bl false,H1,I1,rfl,q1⟩
def tIf (t:TT) (ta tb:TE):TE:=fun σ H Q=>t σ H fun c H1=>if c=true then ta σ H1 Q else tb σ H1 Q
theorem zjH {c:Expr} (hc:PT X c tA) (ha:PE X a ta) (hb:PE X b tb):PE X (.IfExp c a b pos) (tIf tA ta tb):=by
 intro pins s σ H Q I h;refine wpAny_IfExp (thn (hc pins s σ H _ I h) fun d s1 ⟨H1,I1,q1⟩=>?_);cases d with
 | true=>exact ha pins s1 σ H1 Q I1 q1
 | false=>exact hb pins s1 σ H1 Q I1 q1
end
end L2
namespace L2
open PySem PySem.Spec PyProof.Rows
def SqL (K:Ad) (H:Hp) (a:Addr) (xs:List V):Prop:=
 Rd H a (.lst xs) \/
  ∃(o:Obj) (its:Array Value) (n:Nat),K.lookup a=some o/\o.cls=.type "list"/\o.dict=none/\o.data=.seq its n/\its.size<=sizeLine/\Vals xs its.toList
def SqT (K:Ad) (H:Hp) (a:Addr) (xs:List V):Prop:=
 Rd H a (.tup xs) \/
  ∃(o:Obj) (its:Array Value) (n:Nat),K.lookup a=some o/\o.cls=.type "tuple"/\o.data=.seq its n/\its.size<=sizeLine/\Vals xs its.toList
def absV:Value->Option V
 | .none=>some .non
 | .bool b=>some (.bl b)
 | .int i _=>some (.int i)
 | .str x _=>some (.str x)
 | .bytes b _=>some (.byt b)
 | .float b _=>some (.flt b)
 | .ref a=>some (.ref a)
 | .type n=>some (.ty n)
 | _=>none
theorem RelV.abs {x:V}{u:Value} (r:RelV x u):absV u=some x:=by
 cases x with
 | non=>cases r; rfl
 | bl _=>cases r; rfl
 | int _=>obtain⟨t,rfl⟩:=r; rfl
 | str _=>obtain⟨t,rfl⟩:=r; rfl
 | byt _=>obtain⟨t,rfl⟩:=r; rfl
 | flt _=>obtain⟨t,rfl⟩:=r; rfl
 | ref _=>cases r; rfl
 | ty _=>cases r; rfl
theorem RelV.inj {x y:V}{u:Value} (r:RelV x u) (q:RelV y u):x=y:=Ao (r.abs.symm.trans q.abs)
theorem Vals.inj {xs ys:List V}{us:List Value} (h:Vals xs us) (g:Vals ys us):xs=ys:=by
 induction h generalizing ys with
 | nil=>cases g; rfl
 | cons r t ih=>cases g with | cons r' t'=>rw[r.inj r',ih t']
section
variable {X:Cx}{pins:List (Addr×Obj)}{σ:St}{H:Hp}{s:Shared}{a:Addr}{xs ys:List V}
theorem SqL.of {K:Ad} (h:H a=some (.lst xs)):SqL K H a xs:=.inl (.inl h)
theorem SqT.of {K:Ad} (h:H a=some (.tup xs)):SqT K H a xs:=.inl (.inl h)
theorem Inv.list (I:Inv X pins σ H s) (h:SqL X.K H a xs):∃its:List Value,Vals xs its/\PlainL s.heap a its.toArray/\xs.length<=sizeLine:=by
 rcases h with h | ⟨o,its,n,hk,hc,hd,hs,hz,r⟩
 ·obtain⟨z,its,n,r,e⟩:=h.ok I.hok
  exact⟨its,r,⟨_,n,e,rfl,rfl,rfl⟩,z⟩
 ·refine⟨its.toList,r,⟨o,n,I.kIn a o hk,hc,hd,by simpa using hs⟩,?_⟩
  have e:=r.length;simp only[A0] at e;omega
theorem Inv.tuple (I:Inv X pins σ H s) (h:SqT X.K H a xs):∃its:List Value,Vals xs its/\IsTup s.heap a its.toArray/\xs.length<=sizeLine:=by
 rcases h with h | ⟨o,its,n,hk,hc,hs,hz,r⟩
 ·obtain⟨z,its,r,p⟩:=h.ok I.hok
  exact⟨its,r,p,z⟩
 ·refine⟨its.toList,r,⟨o,I.kIn a o hk,hc,n,by simpa using hs⟩,?_⟩
  have e:=r.length;simp only[A0] at e;omega
theorem Inv.list_inj (I:Inv X pins σ H s) (h:SqL X.K H a xs) (h':SqL X.K H a ys):xs=ys:=by
 obtain⟨its,r,⟨o,n,e,_,_,d⟩,_⟩:=I.list h;obtain⟨its',r',⟨o',n',e',_,_,d'⟩,_⟩:=I.list h';rw[e] at e'; cases e';rw[d] at d';injection d' with d1 _
 have:its=its':=by simpa using congrArg Array.toList d1
 subst this;exact r.inj r'
theorem Inv.tuple_inj (I:Inv X pins σ H s) (h:SqT X.K H a xs) (h':SqT X.K H a ys):xs=ys:=by
 obtain⟨its,r,⟨o,e,_,n,d⟩,_⟩:=I.tuple h;obtain⟨its',r',⟨o',e',_,n',d'⟩,_⟩:=I.tuple h';rw[e] at e'; cases e';rw[d] at d';injection d' with d1 _
 have:its=its':=by simpa using congrArg Array.toList d1
 subst this;exact r.inj r'
end
abbrev Cx.wish (X:Cx) (E:Value->Shared->Prop):Cx:={ X with xe:=E }
abbrev Cx.nox (X:Cx):Cx:=X.wish fun _ _=>False
theorem Cx.Ok.wish {X:Cx} (ok:X.Ok) (E:Value->Shared->Prop):(X.wish E).Ok:=
 ⟨ok.mod,ok.kind,ok.glob,ok.blt,ok.above,ok.inj,ok.has,ok.cab,ok.hd,ok.frames,ok.stk,ok.exf,ok.bs,ok.bsz,ok.noex,ok.exfs,ok.funs,ok.frf⟩
theorem Cx.Ok.unwish {X:Cx}{E:Value->Shared->Prop} (ok:(X.wish E).Ok):X.Ok:=
 ⟨ok.mod,ok.kind,ok.glob,ok.blt,ok.above,ok.inj,ok.has,ok.cab,ok.hd,ok.frames,ok.stk,ok.exf,ok.bs,ok.bsz,ok.noex,ok.exfs,ok.funs,ok.frf⟩
section
variable {X:Cx}{pins:List (Addr×Obj)}{σ:St}{H:Hp}{s:Shared}{E:Value->Shared->Prop}
theorem Inv.wish (I:Inv X pins σ H s) (E:Value->Shared->Prop):Inv (X.wish E) pins σ H s:=⟨I.ok.wish E,I.os,I.bare,I.base,I.loc,I.cell,I.free,I.freeC,I.pin,I.hok,I.len⟩
theorem Inv.unwish (I:Inv (X.wish E) pins σ H s):Inv X pins σ H s:=⟨I.ok.unwish,I.os,I.bare,I.base,I.loc,I.cell,I.free,I.freeC,I.pin,I.hok,I.len⟩
theorem SP.unwish {D:Ends}{f:Flow}{s':Shared} (h:SP (X.wish E) pins D f s'):SP X pins D f s':=by
 cases f with
 | next=>obtain⟨σ',H',I,q⟩:=h; exact⟨σ',H',I.unwish,q⟩
 | brk=>obtain⟨σ',H',I,q⟩:=h; exact⟨σ',H',I.unwish,q⟩
 | cont=>obtain⟨σ',H',I,q⟩:=h; exact⟨σ',H',I.unwish,q⟩
 | ret u=>obtain⟨v,σ',H',I,r,q⟩:=h; exact⟨v,σ',H',I.unwish,r,q⟩
theorem PSs.nox {st:List Stmt}{t:TS} (h:PSs X.nox st t):PSs X st t:=fun pins s σ H D I hw=>
 wpAny_mono (h pins s σ H D (I.wish _) hw) (fun _ _ q=>q.unwish) fun _ _ z=>False.elim z
end
section
variable {X:Cx}{st:Stmt}{rest:List Stmt}{t u:TS}{e:Expr}{te:TE}{pos:Pos}
def zmY:TS:=fun D σ H=>D.nx σ H
def tSeq (t u:TS):TS:=fun D σ H=>t { D with nx:=u D } σ H
theorem zA:PSs X [] zmY:=fun _ _ σ H _ I h=>wpAny_execs_nil ⟨σ,H,I,h⟩
theorem zf (h1:PS X st t) (h2:PSs X rest u):PSs X (st::rest) (tSeq t u):=by
 intro pins s σ H D I h;refine wpAny_execs_cons (thn (h1 pins s σ H { D with nx:=u D } I h) fun f s1 q=>?_);cases f with
 | next=>
  obtain⟨σ',H',I',q⟩:=q;exact h2 pins s1 σ' H' D I' q
 | ret v=>exact q
 | brk=>exact q
 | cont=>exact q
theorem zi (h1:PS X st t):PSs X [st] t:=by
 intro pins s σ H D I h;refine wpAny_execs_cons (thn (h1 pins s σ H D I h) fun f s1 q=>?_);cases f with
 | next=>exact wpAny_execs_nil q
 | ret v=>exact q
 | brk=>exact q
 | cont=>exact q
def znj:TS:=fun D σ H=>D.ct σ H
theorem ze9:PS X (.Continue pos) znj:=fun _ _ σ H _ I h=>wpAny_Continue ⟨σ,H,I,h⟩
theorem Inv.quiet {pins:List (Addr×Obj)}{σ:St}{H:Hp}{s:Shared} (I:Inv X pins σ H s):interactive X.env=false:=by simp[interactive,I.ok.kind]
def zm3 (te:TE):TS:=fun D σ H=>te σ H fun _ H1=>D.nx σ H1
theorem zaz (he:PE X e te) (hs:swapsWith e none pos.line X.env=pure false:=by rfl):PS X (.Expr e pos) (zm3 te):=by
 intro pins s σ H D I h;exact wpAny_Expr_any (thn (he pins s σ H _ I h) fun v s1 ⟨x,H1,I1,r1,q1⟩=>⟨σ,H1,I1,q1⟩) I.quiet hs
def tRet (te:TE):TS:=fun D σ H=>te σ H D.rt
theorem zt (he:PE X e te):PS X (.Return (some e) pos) (tRet te):=by
 intro pins s σ H D I h;exact wpAny_Return_some (thn (he pins s σ H _ I h) fun v s1 ⟨x,H1,I1,r1,q1⟩=>⟨x,σ,H1,I1,r1,q1⟩)
def tIfS (c:TT) (t u:TS):TS:=fun D σ H=>c σ H fun b H1=>if b=true then t D σ H1 else u D σ H1
theorem zaf {c:Expr}{a b:List Stmt}{tc:TT} (hc:PT X c tc) (ha:PSs X a t) (hb:PSs X b u):PS X (.If c a b pos) (tIfS tc t u):=by
 intro pins s σ H D I h;refine wpAny_If (thn (hc pins s σ H _ I h) fun d s1 ⟨H1,I1,q1⟩=>?_);cases d with
 | true=>exact ha pins s1 σ H1 D I1 q1
 | false=>exact hb pins s1 σ H1 D I1 q1
def zmc:TS:=fun _ _ _=>False
theorem zbb {sts:List Stmt}:PSs X sts zmc:=fun _ _ _ _ _ _ h=>h.elim
end
abbrev TG:=V->St->Hp->(St->Hp->Prop)->Prop
abbrev TGs:=List V->St->Hp->(St->Hp->Prop)->Prop
def PG (X:Cx) (target:Expr) (t:TG):Prop:=
 ∀(pins:List (Addr×Obj)) (s:Shared) (σ:St) (H:Hp) (v:V) (u:Value) (Q:St->Hp->Prop),Inv X pins σ H s->RelV v u->t v σ H Q->
  wpAny (model X.prog X.w) X.A (assign target X.env u) (fun _ s'=>∃σ' H',Inv X pins σ' H' s'/\Q σ' H') X.xe s
def PGs (X:Cx) (ts:List Expr) (t:TGs):Prop:=
 ∀(pins:List (Addr×Obj)) (s:Shared) (σ:St) (H:Hp) (vs:List V) (us:List Value) (Q:St->Hp->Prop),Inv X pins σ H s->Vals vs us->t vs σ H Q->
  wpAny (model X.prog X.w) X.A (assignInOrder ((assignEach ts X.env).map (·.2)) us) (fun _ s'=>∃σ' H',Inv X pins σ' H' s'/\Q σ' H') X.xe s
abbrev TSet:=V->V->V->Hp->(Hp->Prop)->Prop
def PSet (X:Cx) (t:TSet):Prop:=
 ∀(pins:List (Addr×Obj)) (s:Shared) (σ:St) (H:Hp) (o i v:V) (ov iv u:Value) (Q:Hp->Prop),Inv X pins σ H s->RelV o ov->RelV i iv->RelV v u->t o i v H Q->
  wpAny (model X.prog X.w) X.A (setItem ov iv u) (fun _ s'=>∃H',Inv X pins σ H' s'/\Q H') X.xe s
section
variable {X:Cx}{pos:Pos}
def zX (i:Nat):TG:=fun v σ H Q=>Q (σ.set i (some v)) H
theorem zm {i:Nat}{x:Str} (hN:X.N.Nodup) (hi:X.N[i]?=some x) (hx:Loc X.env.scope x) (hf:X.fn x=true \/ X.env.scope.names.lookup x=some .local:=by first | exact .inl rfl | exact .inr rfl | assumption):PG X (.Name x pos) (zX i):=by
 intro pins s σ H v u Q I r h;exact wpAny_assign_Name (zfA I hN hi hx r (fun s' I'=>⟨_,H,I',h⟩) hf)
def gNil:TGs:=fun vs σ H Q=>vs=[]/\Q σ H
def zcP (t:TG) (u:TGs):TGs:=fun vs σ H Q=>∃v r,vs=v::r/\t v σ H fun σ' H'=>u r σ' H' Q
theorem zbY:PGs X [] gNil:=by
 intro pins s σ H vs us Q I r h;obtain⟨e,h⟩:=h;subst e;cases r;exact assignInOrder_nil ⟨σ,H,I,h⟩
theorem zah {e:Expr}{es:List Expr}{t:TG}{u:TGs} (h1:PG X e t) (h2:PGs X es u)
  (hs:(assignEach (e::es) X.env).map (·.2)=assign e X.env::(assignEach es X.env).map (·.2):=by rfl):PGs X (e::es) (zcP t u):=by
 intro pins s σ H vs us Q I r h;obtain⟨v,vr,e1,h⟩:=h;subst e1;cases r with
 | cons r rr=>
  rw[hs];refine assignInOrder_cons (thn (h1 pins s σ H _ _ _ I r h) fun _ s1 ⟨σ1,H1,I1,q1⟩=>?_);exact h2 pins s1 σ1 H1 _ _ Q I1 rr q1
def gTup (K:Ad) (n:Nat) (t:TGs):TG:=fun v σ H Q=>∃a xs,v=.ref a/\SqT K H a xs/\xs.length=n/\t xs σ H Q
theorem zdc {es:List Expr}{k:Nat}{t:TGs}{n:Nat} (hc:X.calm=true) (h:PGs X es t)
  (hn:(assignEach es X.env).length=n:=by rfl) (hst:(assignEach es X.env).findIdx? (·.1)=none:=by rfl):PG X (.Tuple es k pos) (gTup X.K n t):=by
 intro pins s σ H v u Q I r hw;obtain⟨a,xs,e1,hq,hl,hw⟩:=hw;subst e1;cases r;obtain⟨its,rv,ht,hz⟩:=I.tuple hq;refine assign_Tuple_tuple (I.ok.hd hc) ht (by simp[hn,<- hl,rv.length]) hst fun h' hx=>?_;have I1:Inv X pins σ H { s with heap:=h' }:=I.kept (t':=s.toks) fun b o e=>hx b o (AE (Au e)) e;exact h pins _ σ H xs _ Q I1 (by simpa using rv) hw
def gSub (to ti:TE) (t:TSet):TG:=fun v σ H Q=>to σ H fun o H1=>ti σ H1 fun i H2=>t o i v H2 fun H3=>Q σ H3
theorem zkp {o i:Expr}{to ti:TE}{t:TSet} (ho:PE X o to) (hi:PE X i ti) (hs:PSet X t)
  (ha:∀v,assign (.Subscript o i pos) X.env v=(do
   let ov <- holding [v] (eval o X.env)
   let iv <- holding [v,ov] (eval i X.env)
   standAt pos
   holding [v,ov,iv] (setItem ov iv v)
   release [v,ov,iv] []):=by intro _; rfl):PG X (.Subscript o i pos) (gSub to ti t):=by
 intro pins s σ H v u Q I r h;rw[ha];refine Aa (AW (thn (ho pins s σ H _ I h) fun ov s1 ⟨x,H1,I1,r1,q1⟩=>?_));refine Aa (AW (thn (hi pins s1 σ H1 _ I1 q1) fun iv s2 ⟨y,H2,I2,r2,q2⟩=>?_));refine Aa (wpAny_standAt (Aa (AW (thn (hs pins s2 σ H2 x y v ov iv u _ I2 r1 r2 r q2) fun _ s3 ⟨H3,I3,q3⟩=>?_))));exact wpAny_release ⟨σ,H3,I3,q3⟩
def tAsg (te:TE) (g:TG):TS:=fun D σ H=>te σ H fun x H1=>g x σ H1 D.nx
theorem zj0 {tg e:Expr}{te:TE}{g:TG} (he:PE X e te) (hg:PG X tg g) (hs:swapsWithSole [tg] e pos.line X.env=pure false:=by rfl) (hw:swappedStores [tg] e X.env=pure none:=by rfl)
  (h1:(assignEach [tg] X.env).map (·.2)=[assign tg X.env]:=by rfl):PS X (.Assign [tg] e pos) (tAsg te g):=by
 intro pins s σ H D I h;refine wpAny_Assign_stores (thn (he pins s σ H _ I h) fun v s1 ⟨x,H1,I1,r1,q1⟩=>?_) hs hw;rw[h1];exact thn (hg pins s1 σ H1 x v _ I1 r1 q1) fun _ s2 q=>q
theorem zq {i:Nat}{x:Str}{e:Expr}{te:TE}{pos':Pos} (hN:X.N.Nodup) (hi:X.N[i]?=some x) (hx:Loc X.env.scope x) (he:PE X e te) (hs:swapsWith e (some (.Name x pos')) pos.line X.env=pure false:=by rfl) (hf:X.fn x=true \/ X.env.scope.names.lookup x=some .local:=by first | exact .inl rfl | exact .inr rfl | assumption) :
  PS X (.Assign [.Name x pos'] e pos) (tAsg te (zX i)):=by
 intro pins s σ H D I h;refine wpAny_Assign_Name (thn (he pins s σ H _ I h) fun v s1 ⟨y,H1,I1,r1,q1⟩=>?_) hs;exact zfA I1 hN hi hx r1 (fun s2 I2=>⟨_,H1,I2,q1⟩) hf
end
section
variable {X:Cx}{pos:Pos}
def zl6 (c:TT) (tb:TS):TS:=fun D σ H=>∃W:Nat->St->Hp->Prop,(∃m,W m σ H)/\∀m σ H,W m σ H->
 c σ H fun b H1=>if b=true then ∃N:St->Hp->Prop,(∀σ' H',N σ' H'->∃m',m'<m/\W m' σ' H')/\tb { D with nx:=N,ct:=N,bk:=D.nx } σ H1 else D.nx σ H1
theorem zge {c:Expr}{body:List Stmt}{tc:TT}{tb:TS} (hp:PassesOwn (model X.prog X.w) X.A X.env X.xe) (hc:PT X c tc) (hb:PSs X body tb):PS X (.While c body [] pos) (zl6 tc tb):=by
 intro pins s σ H D I h;obtain⟨W,⟨m0,w0⟩,turn⟩:=h;refine wpAny_While (codeAny_whileLoop (fun n s'=>∃σ' H',Inv X pins σ' H' s'/\W n σ' H') ?_ m0 ⟨σ,H,I,w0⟩);rintro n s1 ⟨σ1,H1,I1,w1⟩;refine wpAny_passesOwn hp (thn (hc pins s1 σ1 H1 _ I1 (turn n σ1 H1 w1)) fun b s2 ⟨H2,I2,q2⟩=>?_);cases b with
 | true=>
  obtain⟨N,hN,q2⟩:=q2;rw[if_pos rfl];refine wpAny_passesOwn hp (thn (hb pins s2 σ1 H2 _ I2 q2) fun f s3 q3=>?_);cases f with
  | next=>
   obtain⟨σ3,H3,I3,n3⟩:=q3;obtain⟨m',hm,w3⟩:=hN σ3 H3 n3;exact⟨m',hm,σ3,H3,I3,w3⟩
  | cont=>
   obtain⟨σ3,H3,I3,n3⟩:=q3;obtain⟨m',hm,w3⟩:=hN σ3 H3 n3;exact⟨m',hm,σ3,H3,I3,w3⟩
  | brk=>exact q3
  | ret v=>exact q3
 | false=>
  rw[if_neg AA];exact wpAny_execs_nil ⟨σ1,H2,I2,q2⟩
end
structure It where
 go:Nat->Hp->Prop
 yld:Nat->Hp->V->Hp->Prop
 stop:Nat->Hp->Prop
def FpOk (X:Cx) (pins:List (Addr×Obj)) (H:Hp) (b:Addr):Prop:=
 H b=none/\b≠X.env.locals/\b∉X.fs/\(b∈X.ex \/ X.s₀.heap.objs.size<=b)/\(∀x c,X.env.cells.lookup x=some c->c≠b)/\∀p∈X.pn++pins,p.1≠b
theorem Inv.fpOk {X:Cx}{pins:List (Addr×Obj)}{σ:St}{H H':Hp}{s:Shared}{b:Addr} (I:Inv X pins σ H s) (hb:s.heap.objs.size<=b) (hn:H' b=none):FpOk X pins H' b:=by
 refine⟨hn,Nat.ne_of_gt (AM I.lt hb),I.nofs hb,.inr (AG I.sz hb),fun x c e z=>?_,fun p hp z=>?_⟩
 ·obtain⟨v,q⟩:=I.cell x c e
  exact absurd (AM q.lt (by rw[z]; exact hb)) (Nat.lt_irrefl _)
 ·exact absurd (AM (Au (I.pin p hp).1) (by rw[z]; exact hb)) (Nat.lt_irrefl _)
structure Turn (P:Program) (w:World) (K:Ad) (tg:Expr) (J:It) (fp:List Addr) (it:Addr) (tn:Nat->Heap->Prop):Prop where
 mem:it∈fp
 obj:∀i h,tn i h->∀b∈fp,∃o,h.get? b=some o/\∀v,o.data≠.cell v
 keep:∀i h h',tn i h->(∀b∈fp,∀o,h.get? b=some o->h'.get? b=some o)->tn i h'
 item:∀(X:Cx),X.prog=P->X.w=w->X.K=K->X.calm=true->∀(i:Nat) (pins:List (Addr×Obj)) (s:Shared) (σ:St) (H:Hp) (E:Value->Shared->Prop),Inv X pins σ H s->(∀b∈fp,FpOk X pins H b)->tn i s.heap->J.go i H->
  wpAny (model P w) X.A (pyNext (.ref it)) (fun r s1=>∃u,r=some u/\
   wpAny (model P w) X.A (letOwnedTupleGo tg (.ref it) u) (fun _ s2=>∃x H',Inv X pins σ H' s2/\RelV x u/\J.yld i H x H'/\tn (i+1) s2.heap/\∀b∈fp,H' b=none) E s1) E s
 done:∀(X:Cx),X.prog=P->X.w=w->X.K=K->X.calm=true->∀(i:Nat) (pins:List (Addr×Obj)) (s:Shared) (σ:St) (H:Hp) (E:Value->Shared->Prop),Inv X pins σ H s->(∀b∈fp,FpOk X pins H b)->tn i s.heap->J.stop i H->
  wpAny (model P w) X.A (pyNext (.ref it)) (fun r s1=>r=none/\Inv X pins σ H s1) E s
 self:∀(A:Around) (i:Nat) (s:Shared) (Q:Value->Shared->Prop) (E:Value->Shared->Prop),tn i s.heap->Q (.ref it) s->wpAny (model P w) A (pyIter (.ref it)) Q E s
abbrev TI:=St->Hp->(It->Hp->Prop)->Prop
def PIE (X:Cx) (pins:List (Addr×Obj)) (σ:St) (tg:Expr) (R:It->Hp->Prop) (itv:Value) (s2:Shared):Prop:=
 ∃(it:Addr) (fp:List Addr) (tn:Nat->Heap->Prop) (J:It) (H':Hp),itv=.ref it/\Inv X pins σ H' s2/\Turn X.prog X.w X.K tg J fp it tn/\tn 0 s2.heap/\(∀b∈fp,FpOk X pins H' b)/\R J H'
def PI (X:Cx) (tg iter:Expr) (wi:TI):Prop:=
 ∀(pins:List (Addr×Obj)) (s:Shared) (σ:St) (H:Hp) (R:It->Hp->Prop),Inv X pins σ H s->wi σ H R->
  wpAny (model X.prog X.w) X.A (eval iter X.env) (fun v s1=>wpAny (model X.prog X.w) X.A (pyIter v) (PIE X pins σ tg R) X.xe s1) X.xe s
theorem zgs {M:Model}{A:Around}{E:Value->Shared->Prop}{s:Shared}{tg:Expr}{it:Addr}{u:Value}{o:Obj}{n:String}{vs:Array Value}{Q:Unit->Shared->Prop} (ho:s.heap.get? it=some o) (hc:o.cls=.type n) (hd:o.data=.fields vs)
  (hn:["enumerate","zip","dict_itemiterator","dict_reverseitemiterator","odict_iterator","itertools.zip_longest","itertools.pairwise"].contains n=false) (hQ:Q () s):wpAny M A (letOwnedTupleGo tg (.ref it) u) Q E s:=by
 unfold letOwnedTupleGo;cases tg <;> first
  | exact Ac hQ
  | (cases u <;> first
    | exact Ac hQ
    | (refine Aa (wpAny_load ho ?_); rw[hc,hd]; show wpAny M A (if (["enumerate","zip","dict_itemiterator","dict_reverseitemiterator","odict_iterator","itertools.zip_longest","itertools.pairwise"].contains n && vs[0]? == some (rawInt _))=true then _ else _) Q E s; rw[if_neg (by intro h; rw[hn,Bool.false_and] at h; cases h)]; exact Ac hQ))
def Itl (K:Ad) (a:Addr):It:=
 ⟨fun i H=>∃xs x,SqL K H a xs/\xs[i]?=some x,fun i H x H'=>H'=H/\∀xs,SqL K H a xs->xs[i]?=some x,fun i H=>∃xs,SqL K H a xs/\xs.length<=i⟩
def Itt (K:Ad) (a:Addr):It:=
 ⟨fun i H=>∃xs x,SqT K H a xs/\xs[i]?=some x,fun i H x H'=>H'=H/\∀xs,SqT K H a xs->xs[i]?=some x,fun i H=>∃xs,SqT K H a xs/\xs.length<=i⟩
def Itr (lo:Int) (n:Nat):It:=⟨fun i _=>i<n,fun i H x H'=>H'=H/\x=.int (lo+i),fun i _=>n<=i⟩
theorem zgX {P:Program}{w:World}{K:Ad}{tg:Expr} (a it:Addr):Turn P w K tg (Itl K a) [it] it (fun i h=>h.IsListIter it a i) where
 mem:=by simp
 obj:=fun i h st b hb=>by
  have e:b=it:=by simpa using hb
  subst e;obtain⟨o,e,c,d⟩:=st;exact⟨o,e,fun v z=>by rw[d] at z; cases z⟩
 keep:=fun i h h' st k=>st.at fun o e=>k it (by simp) o e
 item:=by
  intro X hP hw hK hc i pins s σ H E I hf st hg;subst hP hw hK;obtain⟨xs,x,hq,hx⟩:=hg;obtain⟨its,rv,p,hz⟩:=I.list hq;obtain⟨u,hu,ru⟩:=rv.get hx;obtain⟨f0,f1,f2,f3,f4,f5⟩:=hf it (by simp);refine wpAny_pyNext_list_item st p.isList (x:=u) (by simpa using hu) fun h' st' sb=>?_;have I1:Inv X pins σ H { s with heap:=h' }:=I.turned (t':=s.toks) (fun b o hb e=>(sb.2 b hb).trans e) f0 f1 f3 f4 f5;obtain⟨o,e,c,d⟩:=id st';exact⟨u,rfl,zgs (s:={ s with heap:=h' }) e c d (by decide) ⟨x,H,I1,ru,⟨rfl,fun ys hy=>by rw[I.list_inj hy hq]; exact hx⟩,st',fun b hb=>(hf b hb).1⟩⟩
 done:=by
  intro X hP hw hK hc i pins s σ H E I hf st hg;subst hP hw hK;obtain⟨xs,hq,hx⟩:=hg;obtain⟨its,rv,p,hz⟩:=I.list hq;obtain⟨f0,f1,f2,f3,f4,f5⟩:=hf it (by simp);have hl:=rv.length;exact wpAny_pyNext_list_end (I.ok.hd hc) st p.isList (by simp; omega) fun h' eb=>⟨rfl,I.turned (t':=s.toks) (fun b o hb e=>eb b o hb e) f0 f1 f3 f4 f5⟩
 self:=fun _ _ _ _ _ st h=>wpAny_pyIter_listiter st h
theorem zgJ {P:Program}{w:World}{K:Ad}{tg:Expr} (a it:Addr):Turn P w K tg (Itt K a) [it] it (fun i h=>h.IsTupleIter it a i) where
 mem:=by simp
 obj:=fun i h st b hb=>by
  have e:b=it:=by simpa using hb
  subst e;obtain⟨o,e,c,d⟩:=st;exact⟨o,e,fun v z=>by rw[d] at z; cases z⟩
 keep:=fun i h h' st k=>st.at fun o e=>k it (by simp) o e
 item:=by
  intro X hP hw hK hc i pins s σ H E I hf st hg;subst hP hw hK;obtain⟨xs,x,hq,hx⟩:=hg;obtain⟨its,rv,p,hz⟩:=I.tuple hq;obtain⟨u,hu,ru⟩:=rv.get hx;obtain⟨f0,f1,f2,f3,f4,f5⟩:=hf it (by simp);refine wpAny_pyNext_tuple_item st (show s.heap.IsTuple a its.toArray from p) (x:=u) (by simpa using hu) fun h' st' sb=>?_;have I1:Inv X pins σ H { s with heap:=h' }:=I.turned (t':=s.toks) (fun b o hb e=>(sb.2 b hb).trans e) f0 f1 f3 f4 f5;obtain⟨o,e,c,d⟩:=id st';exact⟨u,rfl,zgs (s:={ s with heap:=h' }) e c d (by decide) ⟨x,H,I1,ru,⟨rfl,fun ys hy=>by rw[I.tuple_inj hy hq]; exact hx⟩,st',fun b hb=>(hf b hb).1⟩⟩
 done:=by
  intro X hP hw hK hc i pins s σ H E I hf st hg;subst hP hw hK;obtain⟨xs,hq,hx⟩:=hg;obtain⟨its,rv,p,hz⟩:=I.tuple hq;obtain⟨f0,f1,f2,f3,f4,f5⟩:=hf it (by simp);have hl:=rv.length;exact wpAny_pyNext_tuple_end (I.ok.hd hc) st (show s.heap.IsTuple a its.toArray from p) (by simp; omega) fun h' eb=>⟨rfl,I.turned (t':=s.toks) (fun b o hb e=>eb b o hb e) f0 f1 f3 f4 f5⟩
 self:=fun _ _ _ _ _ st h=>wpAny_pyIter_tupleiter st h
theorem zgj {P:Program}{w:World}{K:Ad}{tg:Expr} (it:Addr) (lo:Int) (n:Nat):Turn P w K tg (Itr lo n) [it] it (fun i h=>IsRangeIter h it (lo+(i:Nat)*1) ((n:Int) - (i:Nat)) 1) where
 mem:=by simp
 obj:=fun i h st b hb=>by
  have e:b=it:=by simpa using hb
  subst e;exact⟨_,st,fun v z=>by
   have z':Data.fields _=Data.cell v:=z;cases z'⟩
 keep:=fun i h h' st k=>k it (by simp) _ st
 item:=by
  intro X hP hw hK hc i pins s σ H E I hf st hg;subst hP hw hK;obtain⟨f0,f1,f2,f3,f4,f5⟩:=hf it (by simp);have W:=Walks.range (prog:=X.prog) (w:=X.w) (I.ok.hd hc) it lo 1 n;refine W.item i s _ _ hg st fun v h' tk hv st' kk=>?_;obtain⟨t,rfl⟩:=hv;have I1:Inv X pins σ H { s with heap:=h',toks:=tk }:=I.turned (fun b o hb e=>kk b o (by simpa using hb) e) f0 f1 f3 f4 f5;refine⟨_,rfl,zgs (s:={ s with heap:=h',toks:=tk }) (n:="range_iterator") st' rfl rfl (by decide) ⟨.int (lo+i),H,I1,⟨t,?_⟩,⟨rfl,rfl⟩,st',fun b hb=>(hf b hb).1⟩⟩;rw[Int.mul_one]
 done:=by
  intro X hP hw hK hc i pins s σ H E I hf st hg;subst hP hw hK;obtain⟨f0,f1,f2,f3,f4,f5⟩:=hf it (by simp);exact wpAny_pyNext_range_end (I.ok.hd hc) st (by have:n<=i:=hg; omega) fun h' eb=>⟨rfl,I.turned (t':=s.toks) (fun b o hb e=>eb b o hb e) f0 f1 f3 f4 f5⟩
 self:=fun _ _ _ _ _ st h=>wpAny_pyIter_rangeiter st h
end L2
namespace L2
open PySem PySem.Spec PyProof.Rows
section
variable {X:Cx}{tg:Expr}
def zmZ (K:Ad) (tl:TE):TI:=fun σ H R=>tl σ H fun x H1=>∃a,x=.ref a/\(∃xs,SqL K H1 a xs)/\R (Itl K a) H1
def iTup (K:Ad) (tl:TE):TI:=fun σ H R=>tl σ H fun x H1=>∃a,x=.ref a/\(∃xs,SqT K H1 a xs)/\R (Itt K a) H1
theorem zw {l:Expr}{tl:TE} (hl:PE X l tl):PI X tg l (zmZ X.K tl):=by
 intro pins s σ H R I h;refine thn (hl pins s σ H _ I h) fun v s1 ⟨x,H1,I1,r1,q1⟩=>?_;obtain⟨a,e,⟨xs,hq⟩,q⟩:=q1;subst e;cases r1;obtain⟨its,rv,p,hz⟩:=I1.list hq;refine wpAny_pyIter_list p.isList ?_;refine⟨s1.heap.objs.size,[s1.heap.objs.size],_,_,H1,rfl,I1.kept (t':=s1.toks) fun b o e=>Ae _ e,zgX a _,⟨_,Aq _ rfl,rfl,rfl⟩,fun b hb=>?_,q⟩;have e:b=s1.heap.objs.size:=by simpa using hb
 subst e;exact I1.fpOk (Af _) (I1.hok.fresh (Af _))
theorem zcb {l:Expr}{tl:TE} (hl:PE X l tl):PI X tg l (iTup X.K tl):=by
 intro pins s σ H R I h;refine thn (hl pins s σ H _ I h) fun v s1 ⟨x,H1,I1,r1,q1⟩=>?_;obtain⟨a,e,⟨xs,hq⟩,q⟩:=q1;subst e;cases r1;obtain⟨its,rv,p,hz⟩:=I1.tuple hq;refine wpAny_pyIter_tuple (show s1.heap.IsTuple a its.toArray from p) ?_;refine⟨s1.heap.objs.size,[s1.heap.objs.size],_,_,H1,rfl,I1.kept (t':=s1.toks) fun b o e=>Ae _ e,zgJ a _,⟨_,Aq _ rfl,rfl,rfl⟩,fun b hb=>?_,q⟩;have e:b=s1.heap.objs.size:=by simpa using hb
 subst e;exact I1.fpOk (Af _) (I1.hok.fresh (Af _))
theorem zjG {pins:List (Addr×Obj)}{σ:St}{H:Hp}{s:Shared}{R:It->Hp->Prop}{E:Value->Shared->Prop}{lo hi:Int}{t u v:Tok}{tk:Nat} (I:Inv X pins σ H s) (h1:-(2 ^ 62)<=lo) (h2:lo<2 ^ 62) (h3:-(2 ^ 62)<=hi) (h4:hi<2 ^ 62)
  (q:R (Itr lo (hi - lo).toNat) H):wpAny (model X.prog X.w) X.A (pyIter (.ref s.heap.objs.size)) (PIE X pins σ tg R) E { s with heap:=s.heap.push { cls:=.type "range",data:=.fields #[.int lo t,.int hi u,.int 1 v] },toks:=tk }:=by
 refine wpAny_pyIter_range (IsRange.new ..) (small_one h1 h2 h3 h4) ?_;have I1:Inv X pins σ H { s with heap:=s.heap.push { cls:=.type "range",data:=.fields #[.int lo t,.int hi u,.int 1 v] },toks:=tk }:=I.kept fun b o e=>Ae _ e;refine⟨(s.heap.push { cls:=.type "range",data:=.fields #[.int lo t,.int hi u,.int 1 v] }).objs.size,[(s.heap.push { cls:=.type "range",data:=.fields #[.int lo t,.int hi u,.int 1 v] }).objs.size],_,_,H,rfl,
  I1.kept (t':=tk) fun b o e=>Ae _ e,zgj _ lo (hi - lo).toNat,?_,fun b hb=>?_,q⟩
 ·have e1:lo+((0:Nat):Int)*1=lo:=by simp
  have e2:(((hi - lo).toNat:Nat):Int) - ((0:Nat):Int)=Builtin.Range.rangeSize lo hi 1:=by rw[rangeSize_one]; split <;> omega
  show IsRangeIter _ _ (lo+((0:Nat):Int)*1) ((((hi - lo).toNat:Nat):Int) - ((0:Nat):Int)) 1;rw[e1,e2];exact Aq _ rfl
 ·have e:b=(s.heap.push { cls:=.type "range",data:=.fields #[.int lo t,.int hi u,.int 1 v] }).objs.size:=by simpa using hb
  subst e;exact I1.fpOk (Af _) (I1.hok.fresh (Af _))
def zm0 (ta:TA):TI:=fun σ H R=>ta σ H fun vs H1=>∃j:Int,vs=[.int j]/\-(2 ^ 62)<=j/\j<2 ^ 62/\R (Itr 0 j.toNat) H1
theorem zaN {a:Expr}{ta:TA}{p pos:Pos} (hg:Gl X "range") (hm:X.mg "range"=none) (ha:PA X [a] ta) (hs:starEach [a] X.env=[(false,eval a X.env)]:=by rfl):PI X tg (.Call (.Name "range" p) [a] [] pos) (zm0 ta):=by
 intro pins s σ H R I h;refine Call_ (zb9 I hg hm boot_range (PyProof.Rows.callWith_type1 (thn (ha pos pins s σ H _ I h) fun us s1 ⟨vs,H1,I1,r1,q1⟩=>?_) hs rfl));obtain⟨j,e,q1,q2,q⟩:=q1;subst e;cases r1 with
 | cons r rr=>
  cases rr;obtain⟨t,rfl⟩:=r;exact call_range_1 (zjG I1 (by omega) (by omega) q1 q2 (by simpa using q))
def tFor (wi:TI) (g:TG) (tb:TS):TS:=fun D σ H=>wi σ H fun J H1=>∃W:Nat->Nat->St->Hp->Prop,(∃m,W 0 m σ H1)/\∀i m σ H,W i m σ H->
 (J.stop i H/\D.nx σ H) \/ (J.go i H/\∃N:St->Hp->Prop,(∀σ' H',N σ' H'->∃m',m'<m/\W (i+1) m' σ' H')/\∀x H',J.yld i H x H'->g x σ H' fun σ2 H2=>tb { D with nx:=N,ct:=N,bk:=D.nx } σ2 H2)
def zeL (fp:List Addr) (h:Heap):List (Addr×Obj):=fp.filterMap fun b=>(h.get? b).map fun o=>(b,o)
theorem zbn {fp:List Addr}{h:Heap}{b:Addr}{o:Obj} (hb:b∈fp) (e:h.get? b=some o):(b,o)∈zeL fp h:=List.mem_filterMap.mpr ⟨b,hb,by rw[e]; rfl⟩
theorem zij {fp:List Addr}{h:Heap}{p:Addr×Obj} (hp:p∈zeL fp h):p.1∈fp/\h.get? p.1=some p.2:=by
 obtain⟨b,hb,e⟩:=List.mem_filterMap.mp hp;cases q:h.get? b with
 | none=>rw[q] at e; cases e
 | some o=>
  rw[q] at e;have e':(b,o)=p:=Ao e;subst e';exact⟨hb,q⟩
theorem Inv.pinned {pins:List (Addr×Obj)}{σ:St}{H:Hp}{s:Shared}{fp:List Addr} (I:Inv X pins σ H s) (hf:∀b∈fp,FpOk X pins H b) (ho:∀b∈fp,∃o,s.heap.get? b=some o/\∀v,o.data≠.cell v):Inv X (pins++zeL fp s.heap) σ H s:=
 I.pins_of fun p hp=>(List.mem_append.mp hp).elim (fun z=>I.pin p (AJ _ z)) fun z=>by
  obtain⟨hb,e⟩:=zij z;obtain⟨f0,f1,f2,_⟩:=hf p.1 hb;obtain⟨o,e',d⟩:=ho p.1 hb;rw[e] at e'; cases e';exact⟨e,f0,f1,f2,d⟩
theorem Inv.unpinned {pins pl:List (Addr×Obj)}{σ:St}{H:Hp}{s:Shared} (I:Inv X (pins++pl) σ H s):Inv X pins σ H s:=I.pins_of fun p hp=>I.pin p (AJ _ (AI _ hp))
theorem zM {iter:Expr}{body:List Stmt}{wi:TI}{g:TG}{tb:TS}{pos:Pos} (hp:PassesOwn (model X.prog X.w) X.A X.env X.xe) (hc:X.calm=true) (hi:PI X tg iter wi) (hg:PG X tg g) (hb:PSs X body tb)
  (hs:∀x,foldedSetIterable iter X.env x=pure x:=by intro _; rfl):PS X (.For tg iter body [] pos) (tFor wi g tb):=by
 intro pins s σ H D I h;refine wpAny_For (thn (hi pins s σ H _ I h) fun v s1 h1=>thn h1 fun itv s2 h2=>?_) hs;obtain⟨it,fp,tn,J,H2,e,I2,T,st2,f2,W,⟨m0,w0⟩,turn⟩:=h2;subst e;have stat:∀{H':Hp},(∀b∈fp,H' b=none)->∀b∈fp,FpOk X pins H' b:=fun hn b hb=>⟨hn b hb,(f2 b hb).2⟩;refine codeAny_forLoop_any (fun n s'=>∃i σ' H',Inv X pins σ' H' s'/\tn i s'.heap/\(∀b∈fp,H' b=none)/\W i n σ' H') ?_ m0 ⟨0,σ,H2,I2,st2,fun b hb=>(f2 b hb).1,w0⟩;rintro n s3 ⟨i,σ3,H3,I3,st3,fr3,w3⟩;rcases turn i n σ3 H3 w3 with ⟨stop,qn⟩ | ⟨go,N,hN,step⟩
 ·refine wpAny_passesOwn hp (thn (T.done X rfl rfl rfl hc i pins s3 σ3 H3 X.xe I3 (stat fr3) st3 stop) fun r s4 ⟨hr,I4⟩=>?_)
  subst hr;exact wpAny_execs_nil ⟨σ3,H3,I4,qn⟩
 ·refine wpAny_passesOwn hp (thn (T.item X rfl rfl rfl hc i pins s3 σ3 H3 X.xe I3 (stat fr3) st3 go) fun r s4 ⟨u,hr,h4⟩=>?_)
  subst hr;refine wpAny_passesOwn hp (thn h4 fun _ s5 ⟨x,H5,I5,r5,y5,st5,fr5⟩=>?_);have I5':=I5.pinned (stat fr5) (T.obj _ _ st5);refine wpAny_passesOwn hp (thn (hg _ s5 σ3 H5 x u _ I5' r5 (step x H5 y5)) fun _ s6 ⟨σ6,H6,I6,q6⟩=>?_);refine wpAny_passesOwn hp (thn (hb _ s6 σ6 H6 _ I6 q6) fun f s7 q7=>?_);have again:∀{σ7:St} {H7:Hp},Inv X (pins++zeL fp s5.heap) σ7 H7 s7->N σ7 H7->∃m,m<n/\∃i σ' H',Inv X pins σ' H' s7/\tn i s7.heap/\(∀b∈fp,H' b=none)/\W i m σ' H':=fun {σ7 H7} I7 n7=>by
   obtain⟨m',hm,w7⟩:=hN σ7 H7 n7;refine⟨m',hm,i+1,σ7,H7,I7.unpinned,T.keep _ _ _ st5 fun b hb o e=>(I7.pin (b,o) (AJ _ (AJ _ (zbn hb e)))).1,fun b hb=>?_,w7⟩;obtain⟨o,e,d⟩:=T.obj _ _ st5 b hb;exact (I7.pin (b,o) (AJ _ (AJ _ (zbn hb e)))).2.1
  cases f with
  | next=>obtain⟨σ7,H7,I7,n7⟩:=q7; exact again I7 n7
  | cont=>obtain⟨σ7,H7,I7,n7⟩:=q7; exact again I7 n7
  | brk=>obtain⟨σ7,H7,I7,q7⟩:=q7; exact⟨σ7,H7,I7.unpinned,q7⟩
  | ret v=>obtain⟨x7,σ7,H7,I7,r7,q7⟩:=q7; exact⟨x7,σ7,H7,I7.unpinned,r7,q7⟩
end
theorem zK {K:Ad}{a:Addr}{xs:List V}{g:TG}{tb:TS}{D:Ends}{σ:St}{H:Hp} (Pv:Nat->St->Hp->Prop) (h0:Pv 0 σ H) (hl:∀i σ H,i<=xs.length->Pv i σ H->SqL K H a xs)
  (hs:∀i x σ H,xs[i]?=some x->Pv i σ H->g x σ H fun σ2 H2=>tb { D with nx:=Pv (i+1),ct:=Pv (i+1),bk:=D.nx } σ2 H2) (hd:∀σ H,Pv xs.length σ H->D.nx σ H) :
  ∃W:Nat->Nat->St->Hp->Prop,(∃m,W 0 m σ H)/\∀i m σ H,W i m σ H->
   ((Itl K a).stop i H/\D.nx σ H) \/ ((Itl K a).go i H/\∃N:St->Hp->Prop,(∀σ' H',N σ' H'->∃m',m'<m/\W (i+1) m' σ' H')/\∀x H',(Itl K a).yld i H x H'->g x σ H' fun σ2 H2=>tb { D with nx:=N,ct:=N,bk:=D.nx } σ2 H2):=by
 refine⟨fun i m σ H=>m=xs.length - i/\i<=xs.length/\Pv i σ H,⟨xs.length,by simp,AO _,h0⟩,?_⟩;rintro i m σ H ⟨rfl,hi,p⟩;have q:=hl i σ H hi p
 by_cases hlt:i<xs.length
 ·refine .inr ⟨⟨xs,xs[i],q,by simp[hlt]⟩,Pv (i+1),fun σ' H' p'=>⟨xs.length - (i+1),by omega,rfl,hlt,p'⟩,fun x H' y=>?_⟩
  obtain⟨e,y⟩:=y;subst e;exact hs i x σ _ (y xs q) p
 ·have e:i=xs.length:=by omega
  subst e;exact .inl ⟨⟨xs,q,Af _⟩,hd σ H p⟩
theorem zcH {K:Ad}{a:Addr}{xs:List V}{g:TG}{tb:TS}{D:Ends}{σ:St}{H:Hp} (Pv:Nat->St->Hp->Prop) (h0:Pv 0 σ H) (hl:∀i σ H,i<=xs.length->Pv i σ H->SqT K H a xs)
  (hs:∀i x σ H,xs[i]?=some x->Pv i σ H->g x σ H fun σ2 H2=>tb { D with nx:=Pv (i+1),ct:=Pv (i+1),bk:=D.nx } σ2 H2) (hd:∀σ H,Pv xs.length σ H->D.nx σ H) :
  ∃W:Nat->Nat->St->Hp->Prop,(∃m,W 0 m σ H)/\∀i m σ H,W i m σ H->
   ((Itt K a).stop i H/\D.nx σ H) \/ ((Itt K a).go i H/\∃N:St->Hp->Prop,(∀σ' H',N σ' H'->∃m',m'<m/\W (i+1) m' σ' H')/\∀x H',(Itt K a).yld i H x H'->g x σ H' fun σ2 H2=>tb { D with nx:=N,ct:=N,bk:=D.nx } σ2 H2):=by
 refine⟨fun i m σ H=>m=xs.length - i/\i<=xs.length/\Pv i σ H,⟨xs.length,by simp,AO _,h0⟩,?_⟩;rintro i m σ H ⟨rfl,hi,p⟩;have q:=hl i σ H hi p
 by_cases hlt:i<xs.length
 ·refine .inr ⟨⟨xs,xs[i],q,by simp[hlt]⟩,Pv (i+1),fun σ' H' p'=>⟨xs.length - (i+1),by omega,rfl,hlt,p'⟩,fun x H' y=>?_⟩
  obtain⟨e,y⟩:=y;subst e;exact hs i x σ _ (y xs q) p
 ·have e:i=xs.length:=by omega
  subst e;exact .inl ⟨⟨xs,q,Af _⟩,hd σ H p⟩
theorem zbI {lo:Int}{n:Nat}{g:TG}{tb:TS}{D:Ends}{σ:St}{H:Hp} (Pv:Nat->St->Hp->Prop) (h0:Pv 0 σ H)
  (hs:∀i σ H,i<n->Pv i σ H->g (.int (lo+i)) σ H fun σ2 H2=>tb { D with nx:=Pv (i+1),ct:=Pv (i+1),bk:=D.nx } σ2 H2) (hd:∀σ H,Pv n σ H->D.nx σ H) :
  ∃W:Nat->Nat->St->Hp->Prop,(∃m,W 0 m σ H)/\∀i m σ H,W i m σ H->
   ((Itr lo n).stop i H/\D.nx σ H) \/ ((Itr lo n).go i H/\∃N:St->Hp->Prop,(∀σ' H',N σ' H'->∃m',m'<m/\W (i+1) m' σ' H')/\∀x H',(Itr lo n).yld i H x H'->g x σ H' fun σ2 H2=>tb { D with nx:=N,ct:=N,bk:=D.nx } σ2 H2):=by
 refine⟨fun i m σ H=>m=n - i/\i<=n/\Pv i σ H,⟨n,by simp,AO _,h0⟩,?_⟩;rintro i m σ H ⟨rfl,hi,p⟩
 by_cases hlt:i<n
 ·refine .inr ⟨hlt,Pv (i+1),fun σ' H' p'=>⟨n - (i+1),by omega,rfl,hlt,p'⟩,fun x H' y=>?_⟩
  obtain⟨e,y⟩:=y;subst e y;exact hs i σ _ hlt p
 ·have e:i=n:=by omega
  subst e;exact .inl ⟨Af _,hd σ H p⟩
end L2
namespace L2
open PySem PySem.Spec PyProof.Rows
abbrev R2:=V->V->Hp->VK->Prop
def OpR (X:Cx) (f:Value->Value->Sem Value) (r:R2):Prop:=
 ∀(pins:List (Addr×Obj)) (s:Shared) (σ:St) (H:Hp) (x y:V) (v u:Value) (Q:VK),Inv X pins σ H s->RelV x v->RelV y u->r x y H Q->
  wpAny (model X.prog X.w) X.A (f v u) (EP X pins σ Q) X.xe s
def UnR (X:Cx) (f:Value->Sem Value) (r:V->Hp->VK->Prop):Prop:=
 ∀(pins:List (Addr×Obj)) (s:Shared) (σ:St) (H:Hp) (x:V) (v:Value) (Q:VK),Inv X pins σ H s->RelV x v->r x H Q->
  wpAny (model X.prog X.w) X.A (f v) (EP X pins σ Q) X.xe s
def zaS (X:Cx) (f:Value) (r:List V->Hp->VK->Prop):Prop:=
 ∀(pins:List (Addr×Obj)) (s:Shared) (σ:St) (H:Hp) (xs:List V) (us:List Value) (Q:VK),Inv X pins σ H s->Vals xs us->r xs H Q->
  wpAny (model X.prog X.w) X.A (call f us) (EP X pins σ Q) X.xe s
def tOp (r:R2) (ta tb:TE):TE:=fun σ H Q=>ta σ H fun x H1=>tb σ H1 fun y H2=>r x y H2 Q
def tUn (r:V->Hp->VK->Prop) (ta:TE):TE:=fun σ H Q=>ta σ H fun x H1=>r x H1 Q
def rI (C:Int->Int->Prop) (g:Int->Int->V):R2:=fun x y H Q=>∃i j,x=.int i/\y=.int j/\C i j/\Q (g i j) H
def rI0 (g:Int->Int->V):R2:=fun x y H Q=>∃i j,x=.int i/\y=.int j/\Q (g i j) H
def rU (g:Int->V):V->Hp->VK->Prop:=fun x H Q=>∃i,x=.int i/\Q (g i) H
section
variable {X:Cx}{a b c:Expr}{ta tb tc:TE}{pos:Pos}
theorem binT (ha:PE X a ta) (hb:PE X b tb) {pins:List (Addr×Obj)}{s:Shared}{σ:St}{H:Hp}{R:V->V->Hp->Prop} (I:Inv X pins σ H s)
  (h:ta σ H fun x H1=>tb σ H1 fun y H2=>R x y H2) {Q:Value->Shared->Prop} {f:Value->Value->Sem Value}
  (hf:∀v u s2 x y H2,Inv X pins σ H2 s2->RelV x v->RelV y u->R x y H2->wpAny (model X.prog X.w) X.A (f v u) Q X.xe s2) :
  wpAny (model X.prog X.w) X.A (eval a X.env) (fun v s₁=>wpAny (model X.prog X.w) X.A (eval b X.env) (fun u s₂=>wpAny (model X.prog X.w) X.A (f v u) Q X.xe s₂) X.xe s₁) X.xe s:=by
 refine thn (ha pins s σ H _ I h) fun v s1 ⟨x,H1,I1,r1,q1⟩=>?_;refine thn (hb pins s1 σ H1 _ I1 q1) fun u s2 ⟨y,H2,I2,r2,q2⟩=>?_;exact hf v u s2 x y H2 I2 r1 r2 q2
theorem zH {op:Operator}{r:R2} (ho:OpR X (binaryOp op) r) (ha:PE X a ta) (hb:PE X b tb):PE X (.BinOp a op b pos) (tOp r ta tb):=by
 intro pins s σ H Q I h;exact wpAny_BinOp (binT ha hb I h fun v u s2 x y H2 I2 rx ry q=>ho pins s2 σ H2 x y v u Q I2 rx ry q)
theorem zgN {op:UnaryOp}{r:V->Hp->VK->Prop} (ho:UnR X (unaryOp op) r) (ha:PE X a ta):PE X (.UnaryOp op a pos) (tUn r ta):=by
 intro pins s σ H Q I h;exact UnaryOp_ (thn (ha pins s σ H _ I h) fun v s1 ⟨x,H1,I1,r1,q1⟩=>ho pins s1 σ H1 x v Q I1 r1 q1)
theorem opI {f:Value->Value->Sem Value}{C:Int->Int->Prop}{g:Int->Int->Int}
  (rule:∀(i j:Int) (t u:Tok) (s:Shared) (Q:Value->Shared->Prop) (E:Value->Shared->Prop),C i j->Q (.int (g i j) s.toks) { s with toks:=s.toks+1 }->wpAny (model X.prog X.w) X.A (f (.int i t) (.int j u)) Q E s) :
  OpR X f (rI C fun i j=>.int (g i j)):=by
 intro pins s σ H x y v u Q I rx ry h;obtain⟨i,j,rfl,rfl,hc,q⟩:=h;obtain⟨t,rfl⟩:=rx;obtain⟨t',rfl⟩:=ry;exact rule i j t t' s _ _ hc ⟨.int (g i j),H,I.tok _,⟨_,rfl⟩,q⟩
theorem opI0 {f:Value->Value->Sem Value}{g:Int->Int->Int}
  (rule:∀(i j:Int) (t u:Tok) (s:Shared) (Q:Value->Shared->Prop) (E:Value->Shared->Prop),Q (.int (g i j) s.toks) { s with toks:=s.toks+1 }->wpAny (model X.prog X.w) X.A (f (.int i t) (.int j u)) Q E s) :
  OpR X f (rI0 fun i j=>.int (g i j)):=by
 intro pins s σ H x y v u Q I rx ry h;obtain⟨i,j,rfl,rfl,q⟩:=h;obtain⟨t,rfl⟩:=rx;obtain⟨t',rfl⟩:=ry;exact rule i j t t' s _ _ ⟨.int (g i j),H,I.tok _,⟨_,rfl⟩,q⟩
theorem opB0 {f:Value->Value->Sem Value}{g:Int->Int->Bool}
  (rule:∀(i j:Int) (t u:Tok) (s:Shared) (Q:Value->Shared->Prop) (E:Value->Shared->Prop),Q (.bool (g i j)) s->wpAny (model X.prog X.w) X.A (f (.int i t) (.int j u)) Q E s) :
  OpR X f (rI0 fun i j=>.bl (g i j)):=by
 intro pins s σ H x y v u Q I rx ry h;obtain⟨i,j,rfl,rfl,q⟩:=h;obtain⟨t,rfl⟩:=rx;obtain⟨t',rfl⟩:=ry;exact rule i j t t' s _ _ ⟨.bl (g i j),H,I,rfl,q⟩
def CDiv (i j:Int):Prop:=0<j/\j<1073741824
def CPow (i j:Int):Prop:=0<=j/\j<=1000000/\i.natAbs<2 ^ 64
def CMul (i j:Int):Prop:=(-(2 ^ 64)<i/\i<2 ^ 64) \/ (-(2 ^ 64)<j/\j<2 ^ 64)
theorem CMul.ok {i j:Int} (h:CMul i j):IntMulOk i j:=by
 rcases h with ⟨h1,h2⟩ | ⟨h1,h2⟩
 ·exact .of_left (intBits_le_64 h1 h2)
 ·exact .of_right (intBits_le_64 h1 h2)
theorem zat:OpR X (binaryOp .Add) (rI0 fun i j=>.int (i+j)):=opI0 fun _ _ _ _ _ _ _ q=>add_int q
theorem zj4:OpR X (binaryOp .Sub) (rI0 fun i j=>.int (i - j)):=opI0 fun _ _ _ _ _ _ _ q=>sub_int q
theorem za1:OpR X (binaryOp .Mult) (rI CMul fun i j=>.int (i*j)):=opI fun _ _ _ _ _ _ _ hc q=>mul_int q hc.ok
theorem zig:OpR X (binaryOp .FloorDiv) (rI CDiv fun i j=>.int (i / j)):=opI fun i j _ _ _ _ _ hc q=>by
 have h1:(0:Int)<j:=hc.1;have h2:j<1073741824:=hc.2;exact floordiv_int (by omega) (by rw[Int.fdiv_eq_ediv_of_nonneg i (by omega)]; exact q) (.inl (PyProof.noPylong_small (by omega)))
theorem zbW:OpR X (binaryOp .Mod) (rI (fun _ j=>0<j) fun i j=>.int (i % j)):=opI fun i j _ _ _ _ _ hc q=>by
 have h1:(0:Int)<j:=hc;exact mod_int' (by omega) (by rw[Int.fmod_eq_emod_of_nonneg i (by omega)]; exact q)
theorem zik:OpR X (binaryOp .Pow) (rI CPow fun i j=>.int (i ^ j.toNat)):=opI fun _ _ _ _ _ _ _ hc q=>pow_int_small hc.1 hc.2.1 hc.2.2 q
theorem unI {f:Value->Sem Value}{g:Int->Int}
  (rule:∀(i:Int) (t:Tok) (s:Shared) (Q:Value->Shared->Prop) (E:Value->Shared->Prop),Q (.int (g i) s.toks) { s with toks:=s.toks+1 }->wpAny (model X.prog X.w) X.A (f (.int i t)) Q E s) :
  UnR X f (rU fun i=>.int (g i)):=by
 intro pins s σ H x v Q I rx h;obtain⟨i,rfl,q⟩:=h;obtain⟨t,rfl⟩:=rx;exact rule i t s _ _ ⟨.int (g i),H,I.tok _,⟨_,rfl⟩,q⟩
theorem zeC:UnR X (unaryOp .USub) (rU fun i=>.int (-i)):=unI fun _ _ _ _ _ q=>neg_int q
end
def scal:V->V->Bool
 | .non,.non=>true | .non,.int _=>true | .int _,.non=>true | .non,.bl _=>true | .bl _,.non=>true | .non,.str _=>true | .str _,.non=>true
 | .int _,.int _=>true | .bl _,.bl _=>true | .str _,.str _=>true | .byt _,.byt _=>true
 | .int _,.str _=>true | .str _,.int _=>true | .bl _,.str _=>true | .str _,.bl _=>true
 | _,_=>false
def rEq:R2:=fun x y H Q=>scal x y=true/\Q (.bl (decide (x=y))) H
def rNe:R2:=fun x y H Q=>scal x y=true/\Q (.bl (!decide (x=y))) H
theorem zhY {i j:Int}:decide (V.int i=V.int j)=(i == j):=by
 rw[Bool.eq_iff_iff];simp
theorem dec_bl {i j:Bool}:decide (V.bl i=V.bl j)=(i == j):=by
 rw[Bool.eq_iff_iff];simp
theorem zg8 {i j:Str}:decide (V.str i=V.str j)=(i == j):=by
 rw[Bool.eq_iff_iff];simp
theorem zh4 {i j:Array UInt8}:decide (V.byt i=V.byt j)=(i.toList == j.toList):=by
 rw[Bool.eq_iff_iff];cases i;cases j;simp
section
variable {X:Cx}{a b c:Expr}{ta tb tc:TE}{pos:Pos}
theorem fin_bl {pins:List (Addr×Obj)}{σ:St}{H:Hp}{s:Shared}{Q:VK}{k k':Bool} (I:Inv X pins σ H s) (q:Q (.bl k) H) (e:k=k'):EP X pins σ Q (.bool k') s:=by
 subst e;exact⟨.bl k,H,I,rfl,q⟩
theorem ziA:OpR X (compareOp .Eq) rEq:=by
 intro pins s σ H x y v u Q I rx ry h;obtain⟨hs,q⟩:=h;cases x with
 | non=>
  cases rx;cases y with
  | non=>cases ry; exact PySem.EqNone.eq_none_none (fin_bl I q (by simp))
  | bl j=>cases ry; exact PySem.EqNone.eq_none_bool (fin_bl I q (by simp))
  | int j=>obtain⟨t',rfl⟩:=ry; exact PySem.EqNone.eq_none_int (fin_bl I q (by simp))
  | str j=>obtain⟨t',rfl⟩:=ry; exact PySem.EqNone.eq_none_str (fin_bl I q (by simp))
  | _=>exact absurd (show false=true from hs) AA
 | bl i=>
  cases rx;cases y with
  | non=>cases ry; exact PySem.EqNone.eq_bool_none (fin_bl I q (by simp))
  | bl j=>cases ry; exact eq_bool (fin_bl I q dec_bl)
  | str j=>obtain⟨t',rfl⟩:=ry; exact PySem.EqMixed.eq_bool_str (fin_bl I q (by simp))
  | _=>exact absurd (show false=true from hs) AA
 | int i=>
  obtain⟨t,rfl⟩:=rx;cases y with
  | non=>cases ry; exact PySem.EqNone.eq_int_none (fin_bl I q (by simp))
  | int j=>obtain⟨t',rfl⟩:=ry; exact eq_int (fin_bl I q zhY)
  | str j=>obtain⟨t',rfl⟩:=ry; exact PySem.EqMixed.eq_int_str (fin_bl I q (by simp))
  | _=>exact absurd (show false=true from hs) AA
 | str i=>
  obtain⟨t,rfl⟩:=rx;cases y with
  | non=>cases ry; exact PySem.EqNone.eq_str_none (fin_bl I q (by simp))
  | bl j=>cases ry; exact PySem.EqMixed.eq_str_bool (fin_bl I q (by simp))
  | int j=>obtain⟨t',rfl⟩:=ry; exact PySem.EqMixed.eq_str_int (fin_bl I q (by simp))
  | str j=>obtain⟨t',rfl⟩:=ry; exact eq_str (fin_bl I q zg8)
  | _=>exact absurd (show false=true from hs) AA
 | byt i=>
  obtain⟨t,rfl⟩:=rx;cases y with
  | byt j=>obtain⟨t',rfl⟩:=ry; exact PySem.W.eq_bytes (fin_bl I q zh4)
  | _=>exact absurd (show false=true from hs) AA
 | _=>cases y <;> exact absurd (show false=true from hs) AA
theorem zlb:OpR X (compareOp .NotEq) rNe:=by
 intro pins s σ H x y v u Q I rx ry h;obtain⟨hs,q⟩:=h;cases x with
 | non=>
  cases rx;cases y with
  | non=>cases ry; exact PySem.EqNone.ne_none_none (fin_bl I q (by simp))
  | bl j=>cases ry; exact PySem.EqNone.ne_none_bool (fin_bl I q (by simp))
  | int j=>obtain⟨t',rfl⟩:=ry; exact PySem.EqNone.ne_none_int (fin_bl I q (by simp))
  | str j=>obtain⟨t',rfl⟩:=ry; exact PySem.EqNone.ne_none_str (fin_bl I q (by simp))
  | _=>exact absurd (show false=true from hs) AA
 | bl i=>
  cases rx;cases y with
  | non=>cases ry; exact PySem.EqNone.ne_bool_none (fin_bl I q (by simp))
  | bl j=>cases ry; exact ne_bool (fin_bl I q (congrArg not dec_bl))
  | str j=>obtain⟨t',rfl⟩:=ry; exact PySem.EqMixed.ne_bool_str (fin_bl I q (by simp))
  | _=>exact absurd (show false=true from hs) AA
 | int i=>
  obtain⟨t,rfl⟩:=rx;cases y with
  | non=>cases ry; exact PySem.EqNone.ne_int_none (fin_bl I q (by simp))
  | int j=>obtain⟨t',rfl⟩:=ry; exact ne_int (fin_bl I q (congrArg not zhY))
  | str j=>obtain⟨t',rfl⟩:=ry; exact PySem.EqMixed.ne_int_str (fin_bl I q (by simp))
  | _=>exact absurd (show false=true from hs) AA
 | str i=>
  obtain⟨t,rfl⟩:=rx;cases y with
  | non=>cases ry; exact PySem.EqNone.ne_str_none (fin_bl I q (by simp))
  | bl j=>cases ry; exact PySem.EqMixed.ne_str_bool (fin_bl I q (by simp))
  | int j=>obtain⟨t',rfl⟩:=ry; exact PySem.EqMixed.ne_str_int (fin_bl I q (by simp))
  | str j=>obtain⟨t',rfl⟩:=ry; exact ne_str (fin_bl I q (congrArg not zg8))
  | _=>exact absurd (show false=true from hs) AA
 | byt i=>
  obtain⟨t,rfl⟩:=rx;cases y with
  | byt j=>obtain⟨t',rfl⟩:=ry; exact PySem.W.ne_bytes (fin_bl I q (congrArg not zh4))
  | _=>exact absurd (show false=true from hs) AA
 | _=>cases y <;> exact absurd (show false=true from hs) AA
theorem zjg:OpR X (compareOp .Lt) (rI0 fun i j=>.bl (decide (i<j))):=opB0 fun _ _ _ _ _ _ _ q=>lt_int q
theorem zk5:OpR X (compareOp .LtE) (rI0 fun i j=>.bl (decide (i<=j))):=opB0 fun _ _ _ _ _ _ _ q=>le_int q
theorem zc1:OpR X (compareOp .Gt) (rI0 fun i j=>.bl (decide (j<i))):=opB0 fun _ _ _ _ _ _ _ q=>gt_int q
theorem znh:OpR X (compareOp .GtE) (rI0 fun i j=>.bl (decide (j<=i))):=opB0 fun _ _ _ _ _ _ _ q=>ge_int q
theorem zkS:OpR X (compareOp .IsNot) (fun x y H Q=>y=.non/\Q (.bl (!decide (x=.non))) H):=by
 intro pins s σ H x y v u Q I rx ry h;obtain⟨rfl,q⟩:=h;cases ry;refine isnot_none_gen (fin_bl I q ?_);cases x <;> first
  | (cases rx; rfl)
  | (obtain⟨t,rfl⟩:=rx; rfl)
theorem nomark (b:Expr) {op:CmpOp} (h:op≠.In:=by decide) (h2:op≠.NotIn:=by decide):behindInMarks op b=false:=by
 have e1:(op == CmpOp.In)=false:=by cases op <;> first | rfl | exact absurd rfl h
 have e2:(op == CmpOp.NotIn)=false:=by cases op <;> first | rfl | exact absurd rfl h2
 cases b <;> simp[behindInMarks,e1,e2]
theorem zdE {op:CmpOp}{r:R2} (ho:OpR X (compareOp op) r) (ha:PE X a ta) (hb:PE X b tb) (hm:behindInMarks op b=false):PE X (.Compare a [op] [b] pos) (tOp r ta tb):=by
 intro pins s σ H Q I h;exact wpAny_Compare1 (binT ha hb I h fun v u s2 x y H2 I2 rx ry q=>ho pins s2 σ H2 x y v u Q I2 rx ry q) hm
def zdg (t:TE):TT:=fun σ H Q=>t σ H fun x H'=>∃k,x=.bl k/\Q k H'
theorem zy {op:CmpOp}{r:R2} (ho:OpR X (compareOp op) r) (ha:PE X a ta) (hb:PE X b tb) (hm:behindInMarks op b=false):PT X (.Compare a [op] [b] pos) (zdg (tOp r ta tb)):=by
 intro pins s σ H Q I h;refine wpAny_isTrue_Compare1 (thn (ha pins s σ H _ I h) fun v s1 ⟨x,H1,I1,r1,q1⟩=>thn (hb pins s1 σ H1 _ I1 q1) fun u s2 ⟨y,H2,I2,r2,q2⟩=>
  thn (ho pins s2 σ H2 x y v u _ I2 r1 r2 q2) fun c s3 ⟨z,H3,I3,r3,k,e,q3⟩=>?_) hm
 subst e;cases r3;exact wpAny_truthy_bool ⟨H3,I3,q3⟩
def zl0 (r r':R2) (ta tb tc:TE):TE:=fun σ H Q=>ta σ H fun x H1=>tb σ H1 fun y H2=>r x y H2 fun z H3=>∃k,z=.bl k/\
 (if k=true then tc σ H3 fun w' H4=>r' y w' H4 Q else Q (.bl false) H3)
theorem zi0 {op op':CmpOp}{r r':R2} (ho:OpR X (compareOp op) r) (ho':OpR X (compareOp op') r') (ha:PE X a ta) (hb:PE X b tb) (hc:PE X c tc)
  (hm:lastMarks [op,op'] [b,c]=false:=by with_unfolding_all rfl):PT X (.Compare a [op,op'] [b,c] pos) (zdg (zl0 r r' ta tb tc)):=by
 intro pins s σ H Q I h;refine isTrue_chain (thn (ha pins s σ H _ I h) fun v s1 ⟨x,H1,I1,r1,q1⟩=>test_link (thn (hb pins s1 σ H1 _ I1 q1) fun u s2 ⟨y,H2,I2,r2,q2⟩=>
  thn (ho pins s2 σ H2 x y v u _ I2 r1 r2 q2) fun d s3 ⟨z,H3,I3,r3,k,e,q3⟩=>?_)) hm
 subst e;cases r3;refine wpAny_truthy_bool ?_;cases k with
 | false=>
  obtain⟨k',e',q'⟩:=q3;cases e';exact ite_ff ⟨H3,I3,q'⟩
 | true=>
  refine ite_tt (test_last (thn (hc pins s3 σ H3 _ I3 q3) fun w' s4 ⟨z',H4,I4,r4,q4⟩=>thn (ho' pins s4 σ H4 y z' u w' _ I4 r2 r4 q4) fun d' s5 ⟨z2,H5,I5,r5,k2,e2,q5⟩=>?_));subst e2;cases r5;exact wpAny_truthy_bool ⟨H5,I5,q5⟩
theorem line63:(sizeLine:Nat)<2 ^ 63:=by rw[sizeLine_eq]; decide
theorem vals1 {x:V}{us:List Value} (r:Vals [x] us):∃u,us=[u]/\RelV x u:=by
 cases r with
 | cons r1 r2=>cases r2; exact⟨_,rfl,r1⟩
theorem vals2 {x y:V}{us:List Value} (r:Vals [x,y] us):∃u w',us=[u,w']/\RelV x u/\RelV y w':=by
 cases r with
 | cons r1 r2=>
  cases r2 with
  | cons r3 r4=>cases r4; exact⟨_,_,rfl,r1,r3⟩
end
end L2
namespace L2
open PySem PySem.Spec PyProof.Rows
structure ObjM (h:Heap) (x dx C:Addr) (mA:Str->Option Value):Prop where
 obj:h.get? x=some (PySem.W.instObj C dx)
 ns:h.Ns1 dx mA
 ne:dx≠x
theorem zgQ {h:Heap}{dx:Addr}{mA:Str->Option Value} (n:h.Ns1 dx mA):∃od,h.get? dx=some od/\∀name,PySem.W.lookIn name od=some (mA name):=by
 obtain⟨o,es,ep,ho,hd,hk,_,hm⟩:=n;refine⟨o,ho,fun name=>?_⟩;have e:=hm name;unfold nsFind findBy at e;rw[<- Array.find?_toList] at e;unfold PySem.W.lookIn;rw[hd];dsimp only;split
 ·rename_i y q
  rw[q] at e;exact congrArg some e
 ·rename_i q
  rw[q] at e;have a:es.toList.any (·.refKey)=false:=by
   rw[List.any_eq_false];intro y hy;obtain⟨z,t,hkey⟩:=hk y (Array.mem_toList_iff.mp hy);simp[DictEntry.refKey,hkey]
  have a':¬ es.toList.any (·.refKey)=true:=by rw[a]; exact AA
  rw[if_neg a'];exact congrArg some e
theorem ObjM.look {h:Heap}{x dx C:Addr}{mA:Str->Option Value} (I:ObjM h x dx C mA):∃od,PySem.W.InstAt h x (PySem.W.instObj C dx) C (some od)/\∀name,PySem.W.lookIn name od=some (mA name):=
 let ⟨od,ho,hl⟩:=zgQ I.ns
 ⟨od,⟨I.obj,rfl,rfl,ho⟩,hl⟩
section
variable {prog:Program}{w:World}{A:Around}{E:Value->Shared->Prop}{s:Shared}{K:Ad}{x dx C f:Addr}{mA:Str->Option Value}{name:Str}{v:Value}
theorem zeO {expr:Bool}{Q:Value->Shared->Prop} (X:K.In s.heap) (I:ObjM s.heap x dx C mA) (hg:PySem.W.plainGet K C name=true) (hh:PySem.W.hasDictIn K C=true)
  (ha:PySem.W.findIn K (.ref C) name=some none) (hv:mA name=some v) (hv':PySem.W.handedIn v=true) (h:Q v { s with toks:=s.toks+1 }) :
  wpAny (model prog w) A (getAttr (.ref x) name expr) Q E s:=by
 obtain⟨od,J,hl⟩:=I.look;exact PySem.W.get_value X J (PySem.W.plainGet_of hg).1 (PySem.W.findObj_own hh ha rfl (by rw[hl,hv])) hv' h
end
theorem RelO.some_of {v:V}{o:Option Value} (r:RelO (some v) o):∃u,o=some u/\RelV v u:=by
 cases o with
 | none=>exact (show False from r).elim
 | some u=>exact⟨u,rfl,r⟩
section
variable {P:Program}{w:World}{H H':Hp}{h h':Heap}{a C dx:Addr}{fs fs':List (Str×V)}
theorem zap (hok:HOk P w H h) (e:H a=some (.ins C dx fs)):∃mA,ObjM h a dx C mA/\(∀f,RelO (fs.lookup f) (mA f))/\PySem.Within mA (fs.map (·.1))/\fs.length<=1000/\H dx=some (.own a):=by
 obtain⟨d,z,ne,ob,mA,n,r,q⟩:=(show zJ P w H h a (.ins C dx fs) from hok a _ e);exact⟨mA,⟨ob,n,ne⟩,r,q,z,d⟩
end
structure Cls (K:Ad) (C:Addr):Prop where
 pg:PySem.W.plainGet K C Str.empty=true
 hd:PySem.W.hasDictIn K C=true
 po:PySem.W.plainOver K C=true
 sa:PySem.W.findIn K (.ref C) "__setattr__"=some (some (.builtin "object.__setattr__"))
theorem Cls.get {K:Ad}{C:Addr} (c:Cls K C) (f:Str):PySem.W.plainGet K C f=true:=c.pg
section
variable {X:Cx}{pins:List (Addr×Obj)}{σ:St}{H:Hp}{s:Shared}{a C dx:Addr}{fs:List (Str×V)}{f:Str}{v:V}{A:Around}{E:Value->Shared->Prop}
end
section
variable {X:Cx}{o e value:Expr}{f:Str}{pos pos' tpos:Pos}{ta tv:TE}
end
section
variable {X:Cx}{pins:List (Addr×Obj)}{σ:St}{H:Hp}{s:Shared}{A:Around}{E:Value->Shared->Prop}{Q:Value->Shared->Prop}{c:Value}{b:Bool}
inductive TyOf (K:Ad) (H:Hp):V->Value->Prop where
 | non:TyOf K H .non (.type "NoneType")
 | bl (x:Bool):TyOf K H (.bl x) (.type "bool")
 | int (i:Int):TyOf K H (.int i) (.type "int")
 | str (x:Str):TyOf K H (.str x) (.type "str")
 | flt (x:UInt64):TyOf K H (.flt x) (.type "float")
 | lst {a:Addr} {xs:List V} (e:H a=some (.lst xs)):TyOf K H (.ref a) (.type "list")
 | frz {a:Addr} {o:Obj} {xs:List V} (e:H a=some (.frz o (.lst xs))):TyOf K H (.ref a) (.type "list")
 | tup {a:Addr} {xs:List V} (e:H a=some (.tup xs)):TyOf K H (.ref a) (.type "tuple")
 | dK {a:Addr} {kvs:List (Key×V)} (e:H a=some (.dK kvs)):TyOf K H (.ref a) (.type "dict")
 | dT {a:Addr} {kvs:List (List Key×V)} (e:H a=some (.dT kvs)):TyOf K H (.ref a) (.type "dict")
 | ins {a C dx:Addr} {fs:List (Str×V)} (e:H a=some (.ins C dx fs)) (cl:Cls K C) (ha:PySem.W.findIn K (.ref C) "__class__"=some (some (.builtin "object.__class__")))
   (hn:PySem.W.specialIn K (.builtin "object.__class__") "__get__"=some (some (.builtin "getset_descriptor.__get__"))) (htk:PySem.W.takesIn K (.builtin "object.__class__")=some true)
   (hm:PySem.W.mroIn K C (.type "object")=some true):TyOf K H (.ref a) (.ref C)
theorem zcG {x:V}{u t:Value} (I:Inv X pins σ H s) (rx:RelV x u) (ty:TyOf X.K H x t) (e:PySem.W.kitOne X.K t c=some b) (h:∀tk,Q (.bool b) { s with toks:=tk }) :
  wpAny (model X.prog X.w) A (call (.builtin "isinstance") [u,c]) Q E s:=by
 cases ty with
 | non=>cases (show u=Value.none from rx); exact PySem.W.kia_one PySem.W.kitx_none I.kIn True.intro e (fun z=>nomatch z) h
 | bl y=>cases (show u=Value.bool y from rx); exact PySem.W.kia_one PySem.W.kitx_bool I.kIn True.intro e (fun z=>nomatch z) h
 | int i=>obtain⟨t,q⟩:=(show ∃t,u=Value.int i t from rx); cases q; exact PySem.W.kia_one PySem.W.kitx_int I.kIn True.intro e (fun z=>nomatch z) h
 | str y=>obtain⟨t,q⟩:=(show ∃t,u=Value.str y t from rx); cases q; exact PySem.W.kia_one PySem.W.kitx_str I.kIn True.intro e (fun z=>nomatch z) h
 | flt y=>obtain⟨t,q⟩:=(show ∃t,u=Value.float y t from rx); cases q; exact PySem.W.kia_one PySem.W.kitx_float I.kIn True.intro e (fun z=>nomatch z) h
 | @lst a xs ea=>
  cases (show u=Value.ref a from rx);obtain⟨_,_,n,_,h1⟩:=(show zJ X.prog X.w H s.heap a (.lst xs) from I.hok a _ ea);exact PySem.W.kia_one PySem.W.kitx_list I.kIn ⟨_,h1,rfl⟩ e (fun z=>nomatch z) h
 | @frz a ob xs ea=>
  cases (show u=Value.ref a from rx);obtain⟨_,_,_,n,_,h1⟩:=(show zJ X.prog X.w H s.heap a (.frz ob (.lst xs)) from I.hok a _ ea);exact PySem.W.kia_one PySem.W.kitx_list I.kIn ⟨_,h1,rfl⟩ e (fun z=>nomatch z) h
 | @tup a xs ea=>
  cases (show u=Value.ref a from rx);obtain⟨_,_,_,p⟩:=(show zJ X.prog X.w H s.heap a (.tup xs) from I.hok a _ ea);obtain⟨o,h1,h2,_⟩:=p;exact PySem.W.kia_one PySem.W.kitx_tuple I.kIn ⟨o,h1,h2⟩ e (fun z=>nomatch z) h
 | @dK a kvs ea=>
  cases (show u=Value.ref a from rx);obtain⟨_,_,vs,_,p⟩:=(show zJ X.prog X.w H s.heap a (.dK kvs) from I.hok a _ ea);obtain⟨o,es,ep,h1,h2,_⟩:=p;exact PySem.W.kia_one PySem.W.kitx_dict I.kIn ⟨o,h1,h2.1⟩ e (fun z=>nomatch z) h
 | @dT a kvs ea=>
  cases (show u=Value.ref a from rx);obtain⟨_,_,xs,_,o,es,ep,h1,h2,_⟩:=(show zJ X.prog X.w H s.heap a (.dT kvs) from I.hok a _ ea);exact PySem.W.kia_one PySem.W.kitx_dict I.kIn ⟨o,h1,h2.1⟩ e (fun z=>nomatch z) h
 | @ins a C dx fs ea cl ha hn htk hm=>
  cases (show u=Value.ref a from rx);obtain⟨mA,O,_⟩:=zap I.hok ea;obtain⟨od,J,_⟩:=O.look;exact PySem.W.kia_one (PySem.W.kitx_own (cl.get _) cl.hd ha hn htk hm) I.kIn J e (fun z=>nomatch z) h
end
end L2
namespace L2
open PySem PySem.Spec PyProof.Rows
structure Room (k:Nat) (A:Around):Prop where
 hd:A.handled=none
 dp:A.depth+3*k+5<recursionLimit
 un:A.units+16*k+200<cLine
theorem Room.mono {j k:Nat}{A:Around} (r:Room k A) (h:j<=k):Room j A:=⟨r.hd,by have:=r.dp; omega,by have:=r.un; omega⟩
theorem Room.deeper {k:Nat}{A:Around} (r:Room (k+1) A) (env:Env):Room k (A.deeper env):=
 ⟨r.hd,by have:=r.dp; show A.depth+1+3*k+5<_; omega,by have:=r.un; show A.units+3+16*k+200<_; omega⟩
theorem Room.in1 {k:Nat}{A:Around} (r:Room (k+1) A):Room k A.in1:=
 ⟨r.hd,by have:=r.dp; show A.depth+3*k+5<_; omega,by have:=r.un; show A.units+1+16*k+200<_; omega⟩
theorem Room.depth {k:Nat}{A:Around} (r:Room k A):A.depth<recursionLimit:=by have:=r.dp; omega
theorem Room.units {k:Nat}{A:Around} (r:Room k A):A.units+64<cLine:=by have:=r.un; omega
def tNil:TA:=fun _ H Q=>Q [] H
def zW (ta:TE) (tr:TA):TA:=fun σ H Q=>ta σ H fun x H1=>tr σ H1 fun xs H2=>Q (x::xs) H2
section
variable {X:Cx}{e:Expr}{es:List Expr}{te:TE}{t:TA}{pos:Pos}
theorem zg:PA X [] tNil:=fun _ _ _ _ H Q I h=>Calls.spliced_nil ⟨[],H,I,.nil,h⟩
theorem ze (ha:PE X e te) (hr:PA X es t) (hs:starEach (e::es) X.env=(false,eval e X.env)::starEach es X.env:=by rfl):PA X (e::es) (zW te t):=by
 intro pos pins s σ H Q I h;rw[hs];show wpAny _ _ (spliced ((false,eval e X.env)::backTo pos (starEach es X.env))) _ _ s;refine Calls.spliced_cons (thn (ha pins s σ H _ I h) fun u s1 ⟨x,H1,I1,r1,q1⟩=>?_);exact thn (hr pos pins s1 σ H1 _ I1 q1) fun us s2 ⟨xs,H2,I2,r2,q2⟩=>⟨x::xs,H2,I2,.cons r1 r2,q2⟩
def tTup (t:TA):TE:=fun σ H Q=>t σ H fun xs H1=>xs.length<=sizeLine/\∀p,H1 p=none->Q (.ref p) (upd H1 p (.tup xs))
def tLst (t:TA):TE:=fun σ H Q=>t σ H fun xs H1=>xs.length<=sizeLine/\∀p,H1 p=none->Q (.ref p) (upd H1 p (.lst xs))
theorem zak {x1} (h:PA X es t):PE X (.Tuple es x1 pos) (tTup t):=by
 intro pins s σ H Q I hq;refine wpAny_Tuple_spliced (thn (h pos pins s σ H _ I hq) fun us s1 ⟨xs,H1,I1,r,z,q⟩=>⟨by rw[<- r.length]; exact z,?_⟩);have hf:H1 s1.heap.objs.size=none:=I1.hok.fresh (Af _);refine⟨.ref s1.heap.objs.size,upd H1 s1.heap.objs.size (.tup xs),I1.laid (t':=s1.toks) (fun b u e=>Ae _ e) (Af _) ?_,rfl,q _ hf⟩;exact⟨z,us,r,⟨_,Aq _ rfl,rfl,_,rfl⟩⟩
theorem zY (h:PA X es t):PE X (.List es pos) (tLst t):=by
 intro pins s σ H Q I hq;refine wpAny_List_spliced (thn (h pos pins s σ H _ I hq) fun us s1 ⟨xs,H1,I1,r,z,q⟩=>⟨by rw[<- r.length]; exact z,?_⟩);have hf:H1 s1.heap.objs.size=none:=I1.hok.fresh (Af _);refine⟨.ref s1.heap.objs.size,upd H1 s1.heap.objs.size (.lst xs),I1.laid (t':=s1.toks) (fun b u e=>Ae _ e) (Af _) ?_,rfl,q _ hf⟩;exact⟨z,us,0,r,Aq _ rfl⟩
end
abbrev Sp:=List V->Hp->VK->XK->Prop
abbrev CXT:=List Env->Hp->Shared->XK->Value->Shared->Prop
structure Env0 (P:Program) (w:World) (K:Ad) (mg:Str->Option Value) (base:Heap) (A:Around) (outer:List Env) (s:Shared) (H:Hp):Prop where
 frames:A.frames=some outer
 mod:Mod K mg base
 bs:∀b o,base.get? b=some o->s.heap.get? b=some o/\H b=none
 bsz:base.objs.size<=s.heap.objs.size
 funs:s.heap.FunFrames base outer
 frf:∀b∈frs outer,H b=none
 hok:HOk P w H s.heap
 bare:AllBare s.gens
def CE (outer:List Env) (P:Program) (w:World) (H:Hp) (s:Shared) (Q:VK) (u:Value) (s':Shared):Prop:=
 ∃v H',s'.os=s.os/\AllBare s'.gens/\Un (frs outer) [] H H' s.heap s'.heap/\HOk P w H' s'.heap/\RelV v u/\Q v H'
def CR (CX:CXT) (outer:List Env) (P:Program) (w:World) (H:Hp) (s:Shared) (Q:VK) (E:XK) (r:Result) (s':Shared):Prop:=
 match r with
 | .ok (.ret u)=>CE outer P w H s Q u s'
 | .ok _=>False
 | .error e=>CX outer H s E e s'
structure FnOk (P:Program) (w:World) (K:Ad) (mg:Str->Option Value) (base:Heap) (CX:CXT) (k:Nat) (f:Addr) (fd:FuncData) (ps:List Str) (sp:Sp):Prop where
 len:∀vs H Q E,sp vs H Q E->vs.length=ps.length
 run:∀(A:Around) (outer:List Env) (s:Shared) (H:Hp) (args:Args) (us:List Value) (vs:List V) (Q:VK) (E:XK),Room k A->Env0 P w K mg base A outer s H->BindsTo s fd args (ps.zip us)->Vals vs us->sp vs H Q E->
  codeAny (model P w) A (.call (.ref f) args) (CR CX outer P w H s Q E) s
theorem Env0.in1 {P:Program}{w:World}{K:Ad}{mg:Str->Option Value}{base:Heap}{A:Around}{outer:List Env}{s:Shared}{H:Hp} (e:Env0 P w K mg base A outer s H) :
  Env0 P w K mg base A.in1 outer s H:=⟨e.frames,e.mod,e.bs,e.bsz,e.funs,e.frf,e.hok,e.bare⟩
section
variable {X:Cx}{pins:List (Addr×Obj)}{σ:St}{H:Hp}{s s':Shared}
theorem Inv.env0 (I:Inv X pins σ H s):Env0 X.prog X.w X.K X.mg X.base X.A X.stack s H:=
 ⟨I.ok.frames,I.ok.mod,I.bs,AG I.ok.bsz I.sz,I.stack,I.stkFree,I.hok,I.bare⟩
theorem Inv.after {Q:VK}{u:Value} (I:Inv X pins σ H s) (h:CE X.stack X.prog X.w H s Q u s'):EP X pins σ Q u s':=by
 obtain⟨v,H',os,bare,un,hok,r,q⟩:=h;obtain⟨hh,g,d,t,os'⟩:=s';obtain rfl:os'=s.os:=os;exact⟨v,H',I.call (h':=hh) (g':=g) (d':=d) (t':=t) (ch:=[]) un hok bare (fun b z=>absurd z (by simp)),r,q⟩
end
def zji (sp:Sp) (dvs:List V) (E:XK) (t:TA):TE:=fun σ H Q=>t σ H fun vs H1=>sp (vs++dvs) H1 Q E
def Binds (K:Ad) (fd:FuncData) (ps:List Str) (ds:List Value):Prop:=
 ∀(s:Shared) (us:List Value),K.In s.heap->(us++ds).length=ps.length->BindsTo s fd ⟨us,[]⟩ (ps.zip (us++ds))
theorem Binds.all {K:Ad}{fd:FuncData}{ps:List Str} (h:∀us:List Value,us.length=ps.length->bindArgs fd ⟨us,[]⟩=pure (ps.zip us)):Binds K fd ps []:=fun s us _ hl=>by
 rw[List.append_nil] at hl ⊢;exact .of_eq (h us hl)
def Passes (CX:CXT) (X:Cx) (E:XK):Prop:=∀(pins:List (Addr×Obj)) (σ:St) (H:Hp) (s:Shared) (e:Value) (s':Shared),Inv X pins σ H s->CX X.stack H s E e s'->X.xe e s'
section
variable {X:Cx}{CX:CXT}{k:Nat}{f C:Addr}{fd:FuncData}{ps:List Str}{sp:Sp}{dvs:List V}{ds:List Value}{E:XK}{x m:Str}{p pos apos:Pos}{e o:Expr}{es:List Expr}{ta:TE}{t:TA}
theorem zmm {pins:List (Addr×Obj)}{σ:St}{H:Hp}{s:Shared}{Q:VK}{us:List Value}{vs:List V} (F:FnOk X.prog X.w X.K X.mg X.base CX k f fd ps sp) (hr:Room k X.A) (hb:Binds X.K fd ps ds) (hd:Vals dvs ds) (hx:Passes CX X E)
  (I:Inv X pins σ H s) (r:Vals vs us) (h:sp (vs++dvs) H Q E):wpAny (model X.prog X.w) X.A (call (.ref f) us) (EP X pins σ Q) X.xe s:=by
 have r2:Vals (vs++dvs) (us++ds):=r.append hd;have hl:(us++ds).length=ps.length:=by rw[<- r2.length]; exact F.len _ _ _ _ h
 refine wpAny_call (codeAny_mono (F.run X.A X.stack s H ⟨us,[]⟩ (us++ds) (vs++dvs) Q E hr I.env0 (hb s us I.kIn hl) r2 h) fun r s' hq=>?_);cases r with
 | error e=>exact hx pins σ H s e s' I hq
 | ok fl=>
  cases fl with
  | ret u=>exact I.after hq
  | next=>exact False.elim hq
  | brk=>exact False.elim hq
  | cont=>exact False.elim hq
theorem zn (F:FnOk X.prog X.w X.K X.mg X.base CX k f fd ps sp) (hr:Room k X.A) (hg:Gl X x) (hm:X.mg x=some (.ref f)) (hk:Ay X.K (.ref f)=true) (hb:Binds X.K fd ps ds) (hd:Vals dvs ds) (hx:Passes CX X E)
  (ha:PA X (e::es) t) (hdb:(x == ("__debug__":Str))=false:=by decide) (he:starEach (e::es) X.env=(false,eval e X.env)::starEach es X.env:=by rfl) (hpl:(backTo pos (starEach es X.env)).any (·.1)=false:=by rfl) :
  PE X (.Call (.Name x p) (e::es) [] pos) (zji sp dvs E t):=by
 intro pins s σ H Q I h;refine wpAny_Call_Name_kw (zeQ I hg hm ?_ hdb);refine PySem.W.callWith_K (h₀:=X.base) I.ok.mod.kin hk (thn (ha pos pins s σ H _ I h) fun us s1 ⟨vs,H1,I1,r,q⟩=>⟨I1.kIn,?_⟩) he hpl;exact zmm F hr hb hd hx I1 r q
end
section
variable {X:Cx}{CX:CXT}{k:Nat}{f C:Addr}{fd:FuncData}{ps ks:List Str}{sp:Sp}{E:XK}{x m:Str}{p pos apos kpos:Pos}{e o:Expr}{es:List Expr}{kws:List Keyword}{te ta:TE}{t tk:TA}{nm:Option Str}
variable {g:List Value->List Value->List Value}{gV:List V->List V->List V}
end
structure zu (N P:List Str) (sc:Scope):Prop where
 kind:sc.kind=.function
 co:sc.isCoroutine=false
 gen:sc.isGenerator=false
 nd:N.Nodup
 pre:N.take P.length=P
 par:∀x∈P,sc.names.lookup x=some .local \/ sc.names.lookup x=some .cell
 nofree:∀y∈sc.names,y.2≠.free
theorem zeH {kindOf:Str->Option NameKind}{x:Str}:∀{binds:List (Str×Value)}{m:Str->Option Value},(∀v,(x,v)∉binds)->bindL kindOf binds m x=m x
 | [],_,_=>rfl
 | (n,v)::r,m,h=>by
  unfold bindL;rw[zeH fun w hw=>h w (Ar _ hw)];split
  ·have:x≠n:=by rintro rfl; exact h v Am
   simp[this]
  ·rfl
theorem zdZ {kindOf:Str->Option NameKind}{x:Str}:∀{binds:List (Str×Value)}{m:Str->Option Value},(∀v,(x,v)∉binds)->bindC kindOf binds m x=m x
 | [],_,_=>rfl
 | (n,v)::r,m,h=>by
  unfold bindC;rw[zdZ fun w hw=>h w (Ar _ hw)];split
  ·rfl
  ·have:x≠n:=by rintro rfl; exact h v Am
   simp[this]
theorem zd4 {kindOf:Str->Option NameKind}{x:Str}{v:Value}:∀{P:List Str}{vs:List Value}{i:Nat}{m:Str->Option Value},P.Nodup->P[i]?=some x->vs[i]?=some v->kindOf x=some .local->
  bindL kindOf (P.zip vs) m x=some v
 | [],_,_,_,_,h,_,_=>by simp at h
 | _::_,[],_,_,_,_,h,_=>by simp at h
 | p::P,w::vs,0,m,nd,h1,h2,hk=>by
  simp at h1 h2; subst h1; subst h2;show bindL kindOf ((p,w)::P.zip vs) m p=_;unfold bindL;rw[zeH fun v hv=>(List.nodup_cons.mp nd).1 (List.of_mem_zip hv).1,if_pos hk];simp
 | p::P,w::vs,i+1,m,nd,h1,h2,hk=>by
  show bindL kindOf ((p,w)::P.zip vs) m x=_;unfold bindL;exact zd4 (i:=i) (List.nodup_cons.mp nd).2 (by simpa using h1) (by simpa using h2) hk
theorem zdY {kindOf:Str->Option NameKind}{x:Str}{v:Value}:∀{P:List Str}{vs:List Value}{i:Nat}{m:Str->Option Value},P.Nodup->P[i]?=some x->vs[i]?=some v->kindOf x≠some .local->
  bindC kindOf (P.zip vs) m x=some v
 | [],_,_,_,_,h,_,_=>by simp at h
 | _::_,[],_,_,_,_,h,_=>by simp at h
 | p::P,w::vs,0,m,nd,h1,h2,hk=>by
  simp at h1 h2; subst h1; subst h2;show bindC kindOf ((p,w)::P.zip vs) m p=_;unfold bindC;rw[zdZ fun v hv=>(List.nodup_cons.mp nd).1 (List.of_mem_zip hv).1,if_neg hk];simp
 | p::P,w::vs,i+1,m,nd,h1,h2,hk=>by
  show bindC kindOf ((p,w)::P.zip vs) m x=_;unfold bindC;exact zdY (i:=i) (List.nodup_cons.mp nd).2 (by simpa using h1) (by simpa using h2) hk
def start (N:List Str) (vs:List V):St:=vs.map some++List.replicate (N.length - vs.length) none
def cxOf (CX:CXT) (P:Program) (w:World) (K:Ad) (mg:Str->Option Value) (base:Heap) (N:List Str) (qual:Str) (scope:Scope) (f:Addr) (cd:Value) (A:Around) (outer:List Env) (s:Shared) (H:Hp) (E:XK):Cx where
 prog:=P
 w:=w
 K:=K
 mg:=mg
 base:=base
 A:=A.deeper (envOfC qual scope s.heap.objs.size f cd)
 N:=N
 s₀:=s
 H₀:=H
 env:=envOfC qual scope s.heap.objs.size f cd
 outer:=outer
 stack:=envOfC qual scope s.heap.objs.size f cd::outer
 ex:=[]
 calm:=true
 fn:=fun _=>true
 pn:=[]
 xe:=fun e s'=>wpAny (model P w) (A.deeper (envOfC qual scope s.heap.objs.size f cd)) (leaving (envOfC qual scope s.heap.objs.size f cd) e) (fun _ s''=>CX outer H s E e s'') (fun e' s''=>CX outer H s E e' s'') s'
theorem zf3 {sc:Scope}{n:Nat}{x:Str} (h:sc.names.lookup x=some .cell):∃c,(cellsFrom n sc.names []).lookup x=some c:=by
 have q:=PySem.W.cellsFrom_some sc.names n [] (.inl h);exact Option.isSome_iff_exists.mp q
theorem zhH {CX:CXT}{P:Program}{w:World}{K:Ad}{mg:Str->Option Value}{base:Heap}{N ps:List Str}{qual:Str}{scope:Scope}{f:Addr}{cd:Value}{A:Around}{outer:List Env}{s s1:Shared}{H:Hp}{E:XK}{us:List Value}{vs:List V}
  (S:zu N ps scope) (hd:A.handled=none) (e0:Env0 P w K mg base A outer s H) (hl:vs.length=ps.length) (r:Vals vs us)
  (x:InCallC s s.heap.objs.size (bindL (envOfC qual scope s.heap.objs.size f cd).kindOf (ps.zip us) fun _=>none) (cellsFrom (s.heap.objs.size+1) scope.names []) (bindC (envOfC qual scope s.heap.objs.size f cd).kindOf (ps.zip us) fun _=>none) s1) :
  Inv (cxOf CX P w K mg base N qual scope f cd A outer s H E) [] (start N vs) H s1:=by
 have hpl:ps.length<=N.length:=by have:=congrArg List.length S.pre; rw[AC] at this; omega
 obtain⟨h1,tk,rfl,hk⟩:=x.done;have noA:∀b:Addr,b∉(cxOf CX P w K mg base N qual scope f cd A outer s H E).ex:=fun b z=>absurd (show b∈([]:List Addr) from z) (by simp);refine⟨⟨e0.mod,S.kind,rfl,rfl,Af _,fun y z c h1 h2=>?_,fun y hy=>?_,fun y c _ h=>?_,fun _=>hd,Around.frames_deeper e0.frames,.inr ⟨rfl,rfl⟩,fun b z=>absurd z (noA b),e0.bs,e0.bsz,fun b _ _=>noA b,fun b z=>absurd z (noA b),e0.funs,e0.frf⟩,
  rfl,e0.bare,Un.kept hk,⟨_,x.toInCall.ns,fun i y v h1 h2 h3=>?_⟩,fun y c h=>⟨_,x.cell y c h⟩,e0.hok.fresh (Af _),fun y c h=>?_,fun p hp=>absurd (show p∈([]:List (Addr×Obj)) from hp) (by simp),e0.hok.kept hk,?_⟩
 ·exact name_of_addr x.apart (PySem.mem_of_lookup h1) (PySem.mem_of_lookup h2)
 ·have hy:scope.names.lookup y=some .cell \/ scope.names.lookup y=some .free:=hy
  rcases hy with hy | hy
  ·exact zf3 hy
  ·exact absurd rfl (S.nofree _ (PySem.mem_of_lookup hy))
 ·exact Nat.le_of_lt (x.above y c (PySem.mem_of_lookup h))
 ·have hi:i<vs.length:=by
   unfold start at h2
   by_cases hi:i<vs.length
   ·exact hi
   ·rw[List.getElem?_append_right (by simpa using hi)] at h2
    rw[List.getElem?_replicate] at h2;split at h2 <;> cases h2
  have ha:vs[i]?=some v:=by
   unfold start at h2;rw[List.getElem?_append_left (by simpa using hi),Al] at h2;cases e:vs[i]? with
   | none=>rw[e] at h2; cases h2
   | some a=>rw[e] at h2; cases h2; rfl
  obtain⟨u,hu,rv⟩:=r.get ha;have hp:ps[i]?=some y:=by
   rw[<- S.pre,List.getElem?_take_of_lt (by omega)]; exact h1
  have ndP:ps.Nodup:=by rw[<- S.pre]; exact S.nd.sublist (List.take_sublist _ _)
  refine⟨u,rv,?_⟩;rcases S.par y (Ak hp) with k | k
  ·exact .inl ⟨k,zd4 ndP hp hu k⟩
  ·obtain⟨c,e⟩:=zf3 (n:=s.heap.objs.size+1) k
   refine .inr ⟨.inl k,c,e,?_⟩;have q:=x.cell y c e;rw[zdY ndP hp hu (by show scope.names.lookup y≠_; rw[k]; decide)] at q;exact q
 ·exact e0.hok.fresh (Nat.le_of_lt (x.above y c (PySem.mem_of_lookup h)))
 ·unfold start
  show _=N.length;rw[Ah,Ab,List.length_replicate];omega
theorem zmW {CX:CXT}{P:Program}{w:World}{K:Ad}{mg:Str->Option Value}{base:Heap}{k:Nat}{f:Addr}{name qual:Str}{params:Arguments}{body:List Stmt}{scope:Scope}{dV kV doc pm cdv ct oc:Value}{an od:Option Addr}
  {osl:Array (Option Value)} {N ps:List Str} {sp:Sp} (lk:K.lookup f=some ⟨oc,od,.func (AD name qual params body scope dV kV doc pm an cdv ct),osl⟩) (hcd:Az K cdv qual=true) (S:zu N ps scope)
  (len:∀vs H Q E,sp vs H Q E->vs.length=ps.length)
  (hbody:∀(A:Around) (outer:List Env) (s:Shared) (H:Hp) (vs:List V) (Q:VK) (E:XK),Room k (A.deeper (envOfC qual scope s.heap.objs.size f cdv))->sp vs H Q E->
   ∃t,PSs (cxOf CX P w K mg base N qual scope f cdv A outer s H E) body t/\t { nx:=fun _ H'=>Q .non H',rt:=Q } (start N vs) H) :
  FnOk P w K mg base CX (k+1) f (AD name qual params body scope dV kV doc pm an cdv ct) ps sp:=by
 refine⟨len,fun A outer s H args us vs Q E hr e0 hb r hsp=>?_⟩;have hl:=len _ _ _ _ hsp;have KX:K.In s.heap:=e0.mod.kin.keeps fun b o e=>(e0.bs b o e).1;have lim:s.heap.NoLimit:=e0.mod.nolimit.keeps fun b o e=>(e0.bs b o e).1;have hkind:∀y∈ps.zip us,scope.names.lookup y.1=some .local \/ (scope.names.lookup y.1=some .cell/\((cellsFrom (s.heap.objs.size+1) scope.names []).lookup y.1).isSome=true):=fun ⟨n,v⟩ hy=>by
  rcases S.par n (List.of_mem_zip hy).1 with q | q
  ·exact .inl q
  ·exact .inr ⟨q,PySem.W.cellsFrom_some _ _ _ (.inl q)⟩
 refine codeAny_call_function hr.depth (KX _ _ lk) rfl S.co S.gen rfl (PySem.W.codeRec_of KX hcd) (hb _ _ _ _ ?_);refine wpAny_newFunctionEnv_cells S.kind hkind fun env he s1 x=>?_;subst he;refine⟨lim.keeps x.toInCall.keep,codeAny_func ?_⟩;obtain⟨t,ht,hq⟩:=hbody A outer s H vs Q E (hr.deeper _) hsp;have I:Inv (cxOf CX P w K mg base N qual scope f cdv A outer s H E) [] (start N vs) H s1:=zhH S hr.hd e0 hl r x;refine wpAny_mono (ht [] s1 (start N vs) H _ I hq) (fun fl s' hs=>?_) fun e s' hs=>hs;have fin:∀{σ':St} {H':Hp} {v:V} {u:Value},Inv (cxOf CX P w K mg base N qual scope f cdv A outer s H E) [] σ' H' s'->RelV v u->Q v H'->CE outer P w H s Q u s':=
  fun {σ' H' v u} J rv q=>⟨v,H',J.os,J.bare,J.base,J.hok,rv,q⟩
 cases fl with
 | ret u=>
  obtain⟨v,σ',H',J,rv,q⟩:=hs;exact fin J rv q
 | next=>
  obtain⟨σ',H',J,q⟩:=hs;exact fin (v:=V.non) (u:=Value.none) J rfl q
 | brk=>
  obtain⟨_,_,_,q⟩:=hs;exact False.elim q
 | cont=>
  obtain⟨_,_,_,q⟩:=hs;exact False.elim q
end L2
namespace L2
open PySem PySem.Spec PyProof.Rows
section
variable {X:Cx}{x:Str}{p pos:Pos}{e:Expr}{es:List Expr}{t:TA}{id T:String}{r:List V->Hp->VK->Prop}
def tCB (r:List V->Hp->VK->Prop) (t:TA):TE:=fun σ H Q=>t σ H fun vs H1=>r vs H1 Q
theorem zv (hc:zaS X (.builtin id) r) (hg:Gl X x) (hm:X.mg x=none) (hv:AS x=some (.builtin id)) (ha:PA X (e::es) t) (hn:x≠"__name__":=by decide) (hdb:(x == ("__debug__":Str))=false:=by decide)
  (he:starEach (e::es) X.env=(false,eval e X.env)::starEach es X.env:=by rfl) (hpl:(backTo pos (starEach es X.env)).any (·.1)=false:=by rfl):PE X (.Call (.Name x p) (e::es) [] pos) (tCB r t):=by
 intro pins s σ H Q I h;refine wpAny_Call_Name_kw (zb9 I hg hm hv ?_ hn hdb);exact PyProof.Rows.callWith_builtin1 (thn (ha pos pins s σ H _ I h) fun us s1 ⟨vs,H1,I1,r1,q1⟩=>hc pins s1 σ H1 vs us Q I1 r1 q1) he hpl
theorem zB (hc:zaS X (.type T) r) (hg:Gl X x) (hm:X.mg x=none) (hv:AS x=some (.type T)) (ha:PA X (e::es) t) (hn:x≠"__name__":=by decide) (hdb:(x == ("__debug__":Str))=false:=by decide)
  (he:starEach (e::es) X.env=(false,eval e X.env)::starEach es X.env:=by rfl) (hpl:(backTo pos (starEach es X.env)).any (·.1)=false:=by rfl):PE X (.Call (.Name x p) (e::es) [] pos) (tCB r t):=by
 intro pins s σ H Q I h;refine wpAny_Call_Name_kw (zb9 I hg hm hv ?_ hn hdb);exact PyProof.Rows.callWith_type1 (thn (ha pos pins s σ H _ I h) fun us s1 ⟨vs,H1,I1,r1,q1⟩=>hc pins s1 σ H1 vs us Q I1 r1 q1) he hpl
end
end L2
namespace HT
open PySem PyProof.Rows
def lexLt:List Int->List Int->Bool
 | [],[]=>false
 | [],_::_=>true
 | _::_,[]=>false
 | x::xs,y::ys=>if x=y then lexLt xs ys else decide (x<y)
theorem zT (x y:Int) (xs ys:List Int):lexLt (x::xs) (y::ys)=if x=y then lexLt xs ys else decide (x<y):=rfl
theorem zbF:lexLt [] []=false:=rfl
theorem zad (y:Int) (ys:List Int):lexLt [] (y::ys)=true:=rfl
theorem zbq (x:Int) (xs:List Int):lexLt (x::xs) []=false:=rfl
theorem ziT (A:Around) (s:Shared) (a:Int) (t:Tok) (c:Int) (u:Tok):∃e,SeqAt.EqAt A s (.int a t) (.int c u) e/\(e=true ↔ a=c):=
 ⟨(a == c),SeqAt.EqAt.int_int a t c u,by simp⟩
theorem ziK (A:Around) (s:Shared) (a:Int) (t:Tok) (c:Int) (u:Tok) (prog:Program) (w:World) (E:Value->Shared->Prop) (Q:Value->Shared->Prop) (h:Q (.bool (decide (a<c))) s) :
  wpAny (model prog w) A (richCompare .Lt (.int a t) (.int c u)) Q E s:=
 (PyProof.Rows.lt_int h:wpAny (model prog w) A (compareOp .Lt (.int a t) (.int c u)) Q E s)
section
open PySem.SeqAt
open PySem.AutoSeq1 (wpAny_loadPart')
open PySem.MeetsSeq PySem.MeetsSeq2 PySem.MeetsSeq3
theorem zdM (l b:Addr) (items items2:Array Value) (n n2:Nat) (dd dd2:Option Addr) (sl sl2:Array (Option Value)) (ns ms:List Int) (hi:IntsAre items.toList ns) (hj:IntsAre items2.toList ms) :
  Meets (Builtin.«tuple.__lt__» ⟨[.ref l,.ref b],[]⟩)
   (fun _ R s=>s.heap.get? l=some { cls:=.type "tuple",dict:=dd,data:=.seq items n,slots:=sl }/\s.heap.get? b=some { cls:=.type "tuple",dict:=dd2,data:=.seq items2 n2,slots:=sl2 }/\
    R (.ok (.ret (.bool (lexLt ns ms)))) s):=
 .of_wp fun prog w A R s h=>by
  obtain⟨hp,g,d,tk,os⟩:=s; obtain⟨hl,hb,h⟩:=h;have f2:=AutoSeq1.sub_tuple_tuple;have z1:items.size=ns.length:=by rw[<- hi.length]; simp
  have z2:items2.size=ms.length:=by rw[<- hj.length]; simp
  wp_walk using wpAny_loadPart' hl,wpAny_loadPart' hb,wpAny_forIn_list _ (fun rest b s'=>b.1=none/\s'=⟨hp,g,d,tk,os⟩/\∃(vs ws:List Value) (ns' ms':List Int),rest=vs.zip ws/\
   IntsAre vs ns'/\IntsAre ws ms'/\ns'.length+items2.size=ms'.length+items.size/\R (.ok (.ret (.bool (lexLt ns' ms')))) ⟨hp,g,d,tk,os⟩) _
  case turn=>
   rintro⟨y,x⟩ rest b s' ⟨hb',rfl,vs,ws,ns',ms',hz,hvi,hwi,hlen,hR⟩;cases hvi with
   | nil=>rw[List.zip_nil_left] at hz; cases hz
   | cons a t hvi'=>
    cases hwi with
    | nil=>rw[List.zip_nil_right] at hz; cases hz
    | cons c u hwi'=>
     rw[List.zip_cons_cons] at hz;injection hz with hyx hrest
     injection hyx with hy hx
     subst hy hx;rw[zT] at hR;simp only[Aw] at hlen;obtain⟨e,he,hiff⟩:=ziT A.in1 ⟨hp,g,d,tk,os⟩ a t c u;refine Aa (he prog w _ _ ?_);cases e with
     | true=>
      rw[if_pos (hiff.mp rfl)] at hR
      wp_walk
      exact⟨rfl,rfl,_,_,_,_,hrest,hvi',hwi',by omega,hR⟩
     | false=>
      rw[if_neg (fun q=>absurd (hiff.mpr q) AA)] at hR;have hri:=ziK A.in1 ⟨hp,g,d,tk,os⟩ a t c u prog w
      wp_walk using hri
      exact⟨_,rfl,by simpa using hR⟩
  case fin=>
   rintro⟨b1,b2⟩ s' ⟨hb',rfl,vs,ws,ns',ms',hz,hvi,hwi,hlen,hR⟩;simp only at hb';subst hb';have hv:lexLt ns' ms'=decide (items.size<items2.size):=by
    cases hvi with
    | nil=>
     cases hwi with
     | nil=>
      simp only[List.length_nil] at hlen;rw[zbF];exact (decide_eq_false (by omega)).symm
     | cons c u hw=>
      simp only[List.length_nil,Aw] at hlen;rw[zad];exact (decide_eq_true (by omega)).symm
    | cons a t hv=>
     cases hwi with
     | nil=>
      simp only[List.length_nil,Aw] at hlen;rw[zbq];exact (decide_eq_false (by omega)).symm
     | cons c u hw=>
      rw[List.zip_cons_cons] at hz;cases hz
   rw[hv] at hR
   wp_walk
   exact⟨_,rfl,by simpa[Builtin.Tuple.tupleCompareSizes] using hR⟩
  case h=>
   exact⟨rfl,rfl,items.toList,items2.toList,ns,ms,rfl,hi,hj,by omega,h⟩
end
section
variable {prog:Program}{w:World}{A:Around}{E:Value->Shared->Prop}{s:Shared}
theorem zgq {l b:Addr}{items items2:Array Value}{ns ms:List Int}{Q:Value->Shared->Prop} (hl:IsTup s.heap l items) (hb:IsTup s.heap b items2) (hi:IntsAre items.toList ns) (hj:IntsAre items2.toList ms)
  (hu:A.units<cLine) (h:Q (.bool (lexLt ns ms)) s):wpAny (model prog w) A (compareOp .Lt (.ref l) (.ref b)) Q E s:=by
 obtain⟨⟨cls,dd,data,sl⟩,ho,hc,n,hd⟩:=id hl;obtain⟨⟨cls2,dd2,data2,sl2⟩,ho2,hc2,n2,hd2⟩:=id hb;simp only at hc hd hc2 hd2;subst hc hd hc2 hd2;exact richCompare_meets_room (op:=.Lt) ⟨_,ho,rfl⟩ ⟨_,ho2,rfl⟩ PySem.F.slot_tuple_lt PySem.F.entry_tuple_lt (PySem.F.args_tuple_lt_2 _ _) (zdM l b items items2 n n2 dd dd2 sl sl2 ns ms hi hj)
  ⟨ho,ho2,show Value.bool (lexLt ns ms)≠Value.notImplemented/\Q (.bool (lexLt ns ms)) s from ⟨(fun x=>nomatch x),h⟩⟩ hu
theorem zls {t b:Addr}{vs ws:List Value}{Q:Value->Shared->Prop} (ht:IsTup s.heap t vs.toArray) (hb:IsTup s.heap b ws.toArray) (hv:vs≠[])
  (h1:ws=[]->Q (.ref t) s) (h2:ws≠[]->Q (.ref s.heap.objs.size) { s with heap:=s.heap.push { cls:=.type "tuple",data:=.seq (vs++ws).toArray } })
  (hsz:vs.length+ws.length<=sizeLine):wpAny (model prog w) A (binaryOp .Add (.ref t) (.ref b)) Q E s:=by
 obtain⟨⟨cls,dd,data,sl⟩,ho,hc,n,hd⟩:=id ht;obtain⟨⟨cls2,dd2,data2,sl2⟩,ho2,hc2,n2,hd2⟩:=id hb;simp only at hc hd hc2 hd2;subst hc hd hc2 hd2;have e:vs.toArray++ws.toArray=(vs++ws).toArray:=by simp
 by_cases hw:ws=[]
 ·exact concat_meets ⟨_,ho,rfl⟩ ⟨_,ho2,rfl⟩ noFill_tuple_add seq_tuple_add PySem.F.slot_tuple_add PySem.F.entry_tuple_add (PySem.F.args_tuple_add_2 _ _)
   (tuple_addW1 t b vs.toArray ws.toArray n n2 dd dd2 sl sl2 (by simpa using hv) (by simp[hw])) ⟨ho,ho2,h1 hw⟩
 ·refine concat_meets ⟨_,ho,rfl⟩ ⟨_,ho2,rfl⟩ noFill_tuple_add seq_tuple_add PySem.F.slot_tuple_add PySem.F.entry_tuple_add (PySem.F.args_tuple_add_2 _ _)
   (tuple_addW2 t b vs.toArray ws.toArray n n2 dd dd2 sl sl2 (by simpa using hv) (by simpa using hw) (by rw[Aj,Aj]; exact hsz)) ⟨ho,ho2,?_⟩
  rw[e];exact h2 hw
def sIx (n d:Nat):Option Int->Nat
 | none=>d
 | some v=>if v<0 then (v+(n:Int)).toNat else min v.toNat n
theorem zcm (n d:Nat):sIx n d none=d:=rfl
theorem zcW (n d k:Nat):sIx n d (some (k:Int))=min k n:=by
 show (if (k:Int)<0 then ((k:Int)+(n:Int)).toNat else min (k:Int).toNat n)=min k n;rw[if_neg (by omega),Int.toNat_natCast]
theorem zl3 (n d:Nat) (hd:d<=n) (o:Option Int):sIx n d o<=n:=by
 cases o with
 | none=>exact hd
 | some v=>
  show (if v<0 then (v+(n:Int)).toNat else min v.toNat n)<=n
  by_cases hv:v<0
  ·rw[if_pos hv]; omega
  ·rw[if_neg hv]; exact Nat.min_le_right _ _
theorem zh3 (v:Int) (n d:Nat):(if v<0 then max (v+(n:Int)) 0 else min v (n:Int))=((sIx n d (some v):Nat):Int):=by
 show (if v<0 then max (v+(n:Int)) 0 else min v (n:Int))=(((if v<0 then (v+(n:Int)).toNat else min v.toNat n):Nat):Int)
 by_cases hv:v<0
 ·simp only[if_pos hv]; omega
 ·simp only[if_neg hv]; omega
theorem zgx (lo hi:Option Int) (n:Nat):Builtin.Slice.sliceAdjust lo hi 1 (n:Int)=(((sIx n 0 lo:Nat):Int),((sIx n n hi:Nat):Int)):=by
 have h1:¬ ((1:Int)<0):=by omega
 unfold Builtin.Slice.sliceAdjust;simp only[h1,if_false];refine Prod.ext ?_ ?_
 ·cases lo with
  | none=>rfl
  | some v=>exact zh3 v n 0
 ·cases hi with
  | none=>rfl
  | some v=>exact zh3 v n n
theorem zgL (i j:Nat):Builtin.Slice.slicePlaces (i:Int) (j:Int) 1=j - i:=by
 unfold Builtin.Slice.slicePlaces;have h1:(1:Int) > 0:=by omega
 simp only[h1,if_true,Int.ediv_one];split <;> omega
theorem zc9 {v:Value}{o:Option Int}{Q:Option Int->Shared->Prop} (p:IsPart v o) (h:Q o s):wpAny (model prog w) A (Builtin.Slice.slicePartIndex v) Q E s:=by
 cases p with
 | none=>exact slicePart_none h
 | int i t=>exact slicePart_int h
theorem za0 {sl:Addr}{vl vu:Value}{lo hi:Option Int}{n:Nat}{Q:Int×Int×Nat->Shared->Prop} (hs:s.heap.IsSliceOf sl vl vu .none) (pl:IsPart vl lo) (pu:IsPart vu hi)
  (h:Q (((sIx n 0 lo:Nat):Int),1,sIx n n hi - sIx n 0 lo) s):wpAny (model prog w) A (Builtin.Slice.sliceApplied (.ref sl) (pure (n:Int))) Q E s:=by
 obtain⟨os,hos,hcs,hds⟩:=id hs;unfold Builtin.Slice.sliceApplied Builtin.Slice.sliceFields;refine Aa (Aa (A9 hos hds (x:=vl) rfl (Aa (A9 hos hds (x:=vu) rfl (Aa (A9 hos hds (x:=.none) rfl (Ac ?_)))))));refine Aa (slicePart_none ?_);show wpAny _ _ (if ((1:Int) == 0)=true then _ else _) _ _ s;rw[if_neg (by decide)];refine Aa (zc9 pl (Aa (zc9 pu (Aa (Ac ?_)))));show wpAny _ _ (match Builtin.Slice.sliceAdjust lo hi 1 (n:Int) with | (lo,hi)=>pure (lo,(1:Int),Builtin.Slice.slicePlaces lo hi 1)) _ _ s;rw[zgx lo hi n];show wpAny _ _ (pure (((sIx n 0 lo:Nat):Int),(1:Int),Builtin.Slice.slicePlaces ((sIx n 0 lo:Nat):Int) ((sIx n n hi:Nat):Int) 1)) _ _ s;rw[zgL];exact Ac h
theorem ziI (xs:Array Value) (i k:Nat):((A7 k).filterMap fun (m:Nat)=>xs[((i:Int)+(m:Int)*1).toNat]?).toArray=((xs.toList.drop i).take k).toArray:=by
 have e:(fun (m:Nat)=>xs[((i:Int)+(m:Int)*1).toNat]?)=fun m=>xs[i+m]?:=by
  funext m
  have:((i:Int)+(m:Int)*1).toNat=i+m:=by omega
  rw[this]
 rw[e];have:=pick_run xs i k;rw[List.filterMap_map] at this;have e2:((fun x=>xs[x]?) ∘ fun x=>i+x)=fun m=>xs[i+m]?:=rfl;rw[e2] at this;rw[this]
theorem zb6 {t sl:Addr}{items:Array Value}{vl vu:Value}{lo hi:Option Int}{Q:Value->Shared->Prop} (ht:IsTup s.heap t items) (hs:s.heap.IsSliceOf sl vl vu .none) (pl:IsPart vl lo) (pu:IsPart vu hi)
  (hw:¬ (sIx items.size 0 lo=0/\sIx items.size items.size hi=items.size))
  (h:Q (.ref s.heap.objs.size) { s with heap:=s.heap.push { cls:=.type "tuple",data:=.seq ((items.toList.drop (sIx items.size 0 lo)).take (sIx items.size items.size hi - sIx items.size 0 lo)).toArray } })
  (hsz:items.size<=sizeLine):wpAny (model prog w) A (getItem (.ref t) (.ref sl)) Q E s:=by
 have htake:sizeOk (.seq ((items.toList.drop (sIx items.size 0 lo)).take (sIx items.size items.size hi - sIx items.size 0 lo)).toArray):=by
  show ((items.toList.drop (sIx items.size 0 lo)).take (sIx items.size items.size hi - sIx items.size 0 lo)).toArray.size<=sizeLine;rw[Aj,AC,List.length_drop,A0];omega
 have hj:sIx items.size items.size hi<=items.size:=zl3 _ _ (Af _) hi;obtain⟨os,hos,hcs,hds⟩:=id hs;have hTs:s.TypeIs (.ref sl) "slice":=⟨os,hos,hcs⟩;unfold getItem
 try with_reducible refine AW ?_
 first | refine Aa (Ac ?_) | skip
 refine Aa (wpAny_sequenceKey ht.typeIs (by decide) ?_);refine Aa (wpAny_callSpecial?_slot (name:=Str.ofString "__getitem__") ht.typeIs PyProof.Rows.slot_tuple_getitem
  (A2 PyProof.Rows.slot_tuple_getitem ht.typeIs entry_tuple_getitem ?_ (args_tuple_getitem _ _)))
 show wpAny _ _ (Builtin.Tuple.tupleItemsOf (.ref t) >>= _) _ _ s;refine Aa (tupleItemsOf_ ht ?_);refine Aa (wpAny_typeOf hTs ?_);rw[if_pos (by decide)];refine Aa (za0 hs pl pu ?_);have hno:¬ ((((sIx items.size 0 lo:Nat):Int) == 0 && (1:Int) == 1 && (sIx items.size items.size hi - sIx items.size 0 lo) == items.size)=true):=by
  intro q;rw[AY,AY] at q;have q1:((sIx items.size 0 lo:Nat):Int)=0:=eq_of_beq q.1.1;have q2:sIx items.size items.size hi - sIx items.size 0 lo=items.size:=eq_of_beq q.2;exact hw ⟨by omega,by omega⟩
 show wpAny _ _ (if (((sIx items.size 0 lo:Nat):Int) == 0 && (1:Int) == 1 && (sIx items.size items.size hi - sIx items.size 0 lo) == items.size)=true then _ else _) _ _ s;rw[if_neg hno,ziI]
 first
  | exact Aa (m:=Builtin.Tuple.tupleExact _) (AZ (Ac ⟨_,rfl,Ac h⟩) htake)
  | exact Aa (m:=Builtin.Tuple.tupleExact _) (AZ (Aa (Ac (Ac ⟨_,rfl,Ac h⟩))) htake)
  | exact Aa (Aa (m:=Builtin.Tuple.tupleExact _) (AZ (Ac (Ac ⟨_,rfl,Ac h⟩)) htake))
  | exact Aa (Aa (m:=Builtin.Tuple.tupleExact _) (AZ (Ac ⟨_,rfl,Ac h⟩) htake))
end
end HT
namespace L2
open PySem PySem.Spec PyProof.Rows
abbrev TO:=St->Hp->(Option Int->Hp->Prop)->Prop
def PO (X:Cx) (e:Option Expr) (t:TO):Prop:=
 ∀(pins:List (Addr×Obj)) (s:Shared) (σ:St) (H:Hp) (Q:Option Int->Hp->Prop),Inv X pins σ H s->t σ H Q->
  wpAny (model X.prog X.w) X.A (evalPart e X.env) (fun u s'=>∃o H',Inv X pins σ H' s'/\IsPart u o/\Q o H') X.xe s
def zeW:TO:=fun _ H Q=>Q none H
def zky (t:TE):TO:=fun σ H Q=>t σ H fun x H1=>∃i,x=.int i/\Q (some i) H1
theorem intsAre_of {ns:List Int}:∀{us:List Value},Vals (ns.map V.int) us->IntsAre us ns:=by
 induction ns with
 | nil=>intro us r; rw[List.map_nil] at r; cases r; exact .nil
 | cons n ns ih=>
  intro us r;rw[Av] at r;cases r with
  | cons r1 r2=>
   obtain⟨t,e⟩:=r1;subst e;exact .cons n t (ih r2)
section
variable {X:Cx}{e:Expr}{te:TE}{lo hi:Option Expr}{tl th:TO}{pos p2:Pos}
theorem za5:PO X none zeW:=by
 intro pins s σ H Q I h;rw[evalPart_none];exact Ac ⟨none,H,I,.none,h⟩
theorem za2 (h:PE X e te):PO X (some e) (zky te):=by
 intro pins s σ H Q I hw;rw[evalPart_some];refine thn (h pins s σ H _ I hw) fun u s1 ⟨x,H1,I1,r1,q1⟩=>?_;obtain⟨i,rfl,q⟩:=q1;obtain⟨t,rfl⟩:=r1;exact⟨some i,H1,I1,.int i t,q⟩
def SlR (X:Cx) (r:V->Option Int->Option Int->Hp->VK->Prop):Prop:=
 ∀(pins:List (Addr×Obj)) (s:Shared) (σ:St) (H:Hp) (x:V) (v vl vu:Value) (lo hi:Option Int) (sl:Addr) (Q:VK),Inv X pins σ H s->RelV x v->s.heap.IsSliceOf sl vl vu .none->IsPart vl lo->IsPart vu hi->r x lo hi H Q->
  ∃T id,typeLookup (.type T) "__getitem__"=pure (some (.builtin id))/\s.TypeIs v T/\wpAny (model X.prog X.w) X.A (getItem v (.ref sl)) (EP X pins σ Q) X.xe s
def tSl (r:V->Option Int->Option Int->Hp->VK->Prop) (te:TE) (tl th:TO):TE:=fun σ H Q=>te σ H fun x H1=>tl σ H1 fun l H2=>th σ H2 fun u H3=>r x l u H3 Q
theorem zaF {r:V->Option Int->Option Int->Hp->VK->Prop} (hr:SlR X r) (he:PE X e te) (hl:PO X lo tl) (hu:PO X hi th):PE X (.Subscript e (.Slice lo hi none p2) pos) (tSl r te tl th):=by
 intro pins s σ H Q I h;refine Subscript_ (thn (he pins s σ H _ I h) fun v s1 ⟨x,H1,I1,r1,q1⟩=>?_);refine wpAny_Slice (thn (hl pins s1 σ H1 _ I1 q1) fun vl s2 ⟨l,H2,I2,pl,q2⟩=>thn (hu pins s2 σ H2 _ I2 q2) fun vu s3 ⟨u,H3,I3,pu,q3⟩=>?_);rw[evalPart_none];refine Ac ?_;have I4:Inv X pins σ H3 { s3 with heap:=s3.heap.push { cls:=.type "slice",data:=.fields #[vl,vu,.none] } }:=I3.kept (t':=s3.toks) fun b ob q=>Ae _ q;obtain⟨T,id,hT,ht,hg⟩:=hr pins { s3 with heap:=s3.heap.push { cls:=.type "slice",data:=.fields #[vl,vu,.none] } } σ H3 x v vl vu l u s3.heap.objs.size Q I4 r1 (Heap.IsSliceOf.new ..) pl pu q3;show wpAny (model X.prog X.w) X.A (subscriptTail e (.Slice lo hi none p2) v (.ref s3.heap.objs.size)) (EP X pins σ Q) X.xe { s3 with heap:=s3.heap.push { cls:=.type "slice",data:=.fields #[vl,vu,.none] } };exact tail_any (ops:=[.ref s3.heap.objs.size,v]) ht hT hg (by with_unfolding_all rfl)
def cutV (xs:List V) (lo hi:Option Int):List V:=(xs.drop (HT.sIx xs.length 0 lo)).take (HT.sIx xs.length xs.length hi - HT.sIx xs.length 0 lo)
theorem zcV (xs:List V) (lo hi:Option Int):(cutV xs lo hi).length<=xs.length:=by
 unfold cutV;rw[AC,List.length_drop];omega
def rSlT (K:Ad):V->Option Int->Option Int->Hp->VK->Prop:=fun x lo hi H Q=>∃a xs,x=.ref a/\SqT K H a xs/\
 ¬ (HT.sIx xs.length 0 lo=0/\HT.sIx xs.length xs.length hi=xs.length)/\∀p,H p=none->Q (.ref p) (upd H p (.tup (cutV xs lo hi)))
theorem zka:SlR X (rSlT X.K):=by
 intro pins s σ H x v vl vu lo hi sl Q I rx hs pl pu h;obtain⟨a,xs,rfl,hx,hw,q⟩:=h;cases rx;obtain⟨its,r,ht,hz⟩:=I.tuple hx;have hlen:its.toArray.size=xs.length:=by rw[Aj]; exact r.length.symm
 refine⟨"tuple",_,PyProof.Rows.slot_tuple_getitem.lookup,ht.typeIs,?_⟩;refine HT.zb6 ht hs pl pu (by rw[hlen]; exact hw) ?_ (by rw[hlen]; exact hz);rw[hlen];refine⟨.ref s.heap.objs.size,_,I.laid (t':=s.toks) (o:=.tup (cutV xs lo hi)) (fun b ob q=>Ae _ q) (Af _) ?_,rfl,q _ (I.hok.fresh (Af _))⟩;exact⟨AG (zcV xs lo hi) hz,_,(r.drop (HT.sIx xs.length 0 lo)).take (HT.sIx xs.length xs.length hi - HT.sIx xs.length 0 lo),IsTup.new _ _⟩
theorem Vals.nil_iff {xs:List V}{us:List Value} (r:Vals xs us):us=[] ↔ xs=[]:=by
 cases r with
 | nil=>simp
 | cons _ _=>simp
end
end L2
namespace L2
open PySem PySem.Spec PyProof.Rows
def ixN (n:Nat) (i:Int):Option Nat:=if 0<=i then (if i<n then some i.toNat else none) else if -(n:Int)<=i then some (i+n).toNat else none
def atI {α:Type} (xs:List α) (i:Int):Option α:=(ixN xs.length i).bind fun j=>xs[j]?
theorem zhb {n:Nat}{i:Int}{j:Nat} (h:ixN n i=some j):seqIndex? i n=some j/\j<n/\-(n:Int)<=i/\i<n:=by
 unfold ixN at h
 by_cases h0:0<=i
 ·rw[if_pos h0] at h
  by_cases h1:i<n
  ·rw[if_pos h1] at h
   have e:i.toNat=j:=Ao h;exact⟨by rw[seqIndex_of h0 h1,e],by omega,by omega,h1⟩
  ·rw[if_neg h1] at h; cases h
 ·rw[if_neg h0] at h
  by_cases h1:-(n:Int)<=i
  ·rw[if_pos h1] at h
   have e:(i+n).toNat=j:=Ao h;exact⟨by rw[seqIndex_neg (by omega) h1,e],by omega,h1,by omega⟩
  ·rw[if_neg h1] at h; cases h
theorem zg4 {α:Type}{xs:List α}{i:Int}{v:α} (h:atI xs i=some v):∃j,seqIndex? i xs.length=some j/\xs[j]?=some v/\j<xs.length/\-(xs.length:Int)<=i/\i<xs.length:=by
 unfold atI at h;cases e:ixN xs.length i with
 | none=>rw[e] at h; cases h
 | some j=>
  rw[e] at h;obtain⟨h1,h2,h3,h4⟩:=zhb e;exact⟨j,h1,h,h2,h3,h4⟩
theorem zC {α:Type}{xs:List α}{j:Nat}{v:α} (h:xs[j]?=some v):atI xs (j:Int)=some v:=by
 have hj:j<xs.length:=(List.getElem?_eq_some_iff.mp h).1;have e:ixN xs.length (j:Int)=some j:=by
  unfold ixN;rw[if_pos (by omega),if_pos (by omega)]; simp
 unfold atI; rw[e]; exact h
theorem zfS {α:Type} (xs:List α) (v:α):atI (xs++[v]) (-1)=some v:=by
 have hl:(xs++[v]).length=xs.length+1:=by simp
 have e:ixN (xs++[v]).length (-1)=some xs.length:=by
  unfold ixN;rw[hl,if_neg (by decide),if_pos (by omega)]
  congr 1
  omega
 unfold atI;rw[e];show (xs++[v])[xs.length]?=some v;simp
def zkP (b:Expr):Prop:=∀o i,subscripted b false o i=operate [o,i] (getItem o i)
def IxR (X:Cx) (r:R2):Prop:=
 ∀(value slice:Expr) (pins:List (Addr×Obj)) (s:Shared) (σ:St) (H:Hp) (x y:V) (v u:Value) (Q:VK),Inv X pins σ H s->RelV x v->RelV y u->r x y H Q->
  subscripted slice false v u=operate [v,u] (getItem v u)->wpAny (model X.prog X.w) X.A (subscriptTail value slice v u) (EP X pins σ Q) X.xe s
def MtR (X:Cx) (id:String) (r:V->List V->Hp->VK->Prop):Prop:=
 ∀(pins:List (Addr×Obj)) (s:Shared) (σ:St) (H:Hp) (x:V) (xs:List V) (v:Value) (us:List Value) (Q:VK),Inv X pins σ H s->RelV x v->Vals xs us->r x xs H Q->
  wpAny (model X.prog X.w) X.A (call (.builtin id) (v::us)) (EP X pins σ Q) X.xe s
section
variable {X:Cx}{a b:Expr}{ta tb:TE}{pos:Pos}
theorem zR {r:R2} (hr:IxR X r) (ha:PE X a ta) (hb:PE X b tb) (hs:zkP b):PE X (.Subscript a b pos) (tOp r ta tb):=by
 intro pins s σ H Q I h;exact Subscript_ (binT ha hb I h fun v u s2 x y H2 I2 rx ry q=>hr a b pins s2 σ H2 x y v u Q I2 rx ry q (hs _ _))
def rIxL (K:Ad):R2:=fun x y H Q=>∃p xs i v,x=.ref p/\y=.int i/\SqL K H p xs/\atI xs i=some v/\Q v H
def rIxT (K:Ad):R2:=fun x y H Q=>∃p xs i v,x=.ref p/\y=.int i/\SqT K H p xs/\atI xs i=some v/\Q v H
theorem zab:IxR X (rIxL X.K):=by
 intro value slice pins s σ H x y v u Q I rx ry h hs;obtain⟨p,xs,i,z,rfl,rfl,hq,he,q⟩:=h;cases rx;obtain⟨t,rfl⟩:=ry;obtain⟨its,r,pl,hz⟩:=I.list hq;obtain⟨j,h1,h2,h3,h4,h5⟩:=zg4 he;obtain⟨w,ew,rw'⟩:=r.get h2;have hl:=r.length;have hn:=line63;have fin:EP X pins σ Q w s:=⟨z,H,I,rw',q⟩
 by_cases h0:0<=i
 ·have hj:i.toNat=j:=by
   rw[seqIndex_of h0 h5] at h1;exact Ao h1
  exact item_listR pl.isList h0 (by omega) (by rw[hj]; simpa using ew) fin hs
 ·have hj:(i+(its.toArray.size:Int)).toNat=j:=by
   rw[seqIndex_neg (by omega) h4] at h1;rw[Aj,<- hl];exact Ao h1
  exact subscriptTail_builtinR (x:=w) pl.isList.typeIs slot_list_getitem.lookup
   (wpAny_getItem_list_neg (Q:=fun r s'=>r=w/\EP X pins σ Q r s') pl.isList (by omega) (by rw[Aj] <;> omega) (by omega) (by rw[hj]; simpa using ew) ⟨rfl,fin⟩) hs
theorem zZ:IxR X (rIxT X.K):=by
 intro value slice pins s σ H x y v u Q I rx ry h hs;obtain⟨p,xs,i,z,rfl,rfl,hq,he,q⟩:=h;cases rx;obtain⟨t,rfl⟩:=ry;obtain⟨its,r,pl,hz⟩:=I.tuple hq;obtain⟨j,h1,h2,h3,h4,h5⟩:=zg4 he;obtain⟨w,ew,rw'⟩:=r.get h2;have hl:=r.length;have hn:=line63;have fin:EP X pins σ Q w s:=⟨z,H,I,rw',q⟩;exact subscriptTail_builtinR (x:=w) pl.typeIs slot_tuple_getitem.lookup
  (getItem_tuple (j:=j) (Q:=fun r s'=>r=w/\EP X pins σ Q r s') pl (by omega) (by omega) (by rw[Aj,<- hl]; exact h1) (by simpa using ew) ⟨rfl,fin⟩) hs
theorem zgI (its:List Value) (n j:Nat) (u:Value):AK (·.setIfInBounds j u) { cls:=.type "list",data:=.seq its.toArray n }={ cls:=.type "list",data:=.seq (its.set j u).toArray n }:=by
 simp[AK]
theorem Inv.lst {pins:List (Addr×Obj)}{σ:St}{H:Hp}{s:Shared}{p:Addr}{xs:List V} (I:Inv X pins σ H s) (h:H p=some (.lst xs)) :
  ∃(its:List Value) (n:Nat),Vals xs its/\s.heap.get? p=some { cls:=.type "list",data:=.seq its.toArray n }/\xs.length<=sizeLine:=by
 obtain⟨z,its,n,r,e⟩:=I.hok p _ h;exact⟨its,n,r,e,z⟩
theorem Inv.lstUpd {pins:List (Addr×Obj)}{σ:St}{H:Hp}{s:Shared}{p:Addr}{xs ys:List V}{its its':List Value}{n n':Nat}{f:Obj->Obj} (I:Inv X pins σ H s) (h:H p=some (.lst xs))
  (ho:s.heap.get? p=some { cls:=.type "list",data:=.seq its.toArray n }) (hf:f { cls:=.type "list",data:=.seq its.toArray n }={ cls:=.type "list",data:=.seq its'.toArray n' }) (r:Vals ys its') (hz:ys.length<=sizeLine) (t:Nat) :
  Inv X pins σ (upd H p (.lst ys)) { s with heap:=s.heap.update p f,toks:=t }:=by
 have e:(s.heap.update p f).get? p=some { cls:=.type "list",data:=.seq its'.toArray n' }:=by
  rw[Heap.get?_update_self f ho (by rw[hf] <;> rfl),hf]
 refine I.write (x:=p) (e:=p) (by rw[h]; trivial) (.inl rfl) (fun b u hb q=>(Heap.get?_update_other _ _ (Ne.symm hb)).trans q) ⟨_,e⟩ ?_;exact⟨hz,its',n',r,e⟩
def zm1:V->V->V->Hp->(Hp->Prop)->Prop:=fun o i v H Q=>∃p xs k j,o=.ref p/\i=.int k/\H p=some (.lst xs)/\ixN xs.length k=some j/\Q (upd H p (.lst (xs.set j v)))
theorem set_list:PSet X zm1:=by
 intro pins s σ H o i v ov iv u Q I ro ri rv h;obtain⟨p,xs,k,j,rfl,rfl,hp,hj,q⟩:=h;cases ro;obtain⟨t,rfl⟩:=ri;obtain⟨its,n,r,ho,hz⟩:=I.lst hp;obtain⟨h1,h2,h3,h4⟩:=zhb hj;have hl:=r.length;have hn:=line63;have I':Inv X pins σ (upd H p (.lst (xs.set j v))) { s with heap:=s.heap.update p (AK (·.setIfInBounds j u)) }:=
  I.lstUpd hp ho (zgI its n j u) (r.set rv j) (by rw[List.length_set]; exact hz) s.toks
 by_cases h0:0<=k
 ·have hk:k.toNat=j:=by
   rw[seqIndex_of h0 h4] at h1;exact Ao h1
  exact PySem.W.ki_setAt ho h0 (by omega) (by rw[Aj,<- hl]; exact h4) (by rw[hk]; exact⟨_,I',q⟩)
 ·have hk:(k+(its.toArray.size:Int)).toNat=j:=by
   rw[seqIndex_neg (by omega) h3] at h1;rw[Aj,<- hl];exact Ao h1
  exact PySem.W.ki_setBack ho (by omega) (by rw[Aj,<- hl]; exact h3) (by omega) (by rw[hk]; exact⟨_,I',q⟩)
theorem zd1 (lo hi:Option Int) (n:Nat):(sliceBounds lo hi none n).1=((HT.sIx n 0 lo:Nat):Int)/\(sliceBounds lo hi none n).2.1=((HT.sIx n n hi:Nat):Int)/\(sliceBounds lo hi none n).2.2=1:=by
 refine⟨?_,?_,rfl⟩
 ·cases lo with
  | none=>simp[sliceBounds,HT.sIx]
  | some i=>
   simp only[sliceBounds,HT.sIx,Option.getD_none,show (1:Int) > 0 by decide,if_true]
   by_cases h:i<0
   ·simp only[h,if_true] <;> omega
   ·simp only[h,if_false] <;> omega
 ·cases hi with
  | none=>simp[sliceBounds,HT.sIx]
  | some i=>
   simp only[sliceBounds,HT.sIx,Option.getD_none,show (1:Int) > 0 by decide,if_true]
   by_cases h:i<0
   ·simp only[h,if_true] <;> omega
   ·simp only[h,if_false] <;> omega
theorem zdx (its:List Value) (lo hi:Option Int):slicePick its.toArray lo hi none=((its.drop (HT.sIx its.length 0 lo)).take (HT.sIx its.length its.length hi - HT.sIx its.length 0 lo)).toArray:=by
 obtain⟨h1,h2,h3⟩:=zd1 lo hi its.toArray.size;unfold slicePick;rw[h1,h2,h3];simp only[sliceRange_one,pick_run,Aj] <;> rfl
def rSlL (K:Ad):V->Option Int->Option Int->Hp->VK->Prop:=fun x lo hi H Q=>∃a xs,x=.ref a/\SqL K H a xs/\∀p,H p=none->Q (.ref p) (upd H p (.lst (cutV xs lo hi)))
theorem zfp:SlR X (rSlL X.K):=by
 intro pins s σ H x v vl vu lo hi sl Q I rx hs pl pu h;obtain⟨a,xs,rfl,hx,q⟩:=h;cases rx;obtain⟨its,r,ht,hz⟩:=I.list hx;have hlen:=r.length;refine⟨"list",_,slot_list_getitem.lookup,ht.isList.typeIs,?_⟩;refine wpAny_getItem_list_slice ht.isList hs pl pu .none (by simp) ?_ (by rw[Aj] <;> omega);rw[zdx,<- hlen];refine⟨.ref s.heap.objs.size,_,I.laid (t':=s.toks) (o:=.lst (cutV xs lo hi)) (fun b ob q=>Ae _ q) (Af _) ?_,rfl,q _ (I.hok.fresh (Af _))⟩;exact⟨AG (zcV xs lo hi) hz,_,0,(r.drop (HT.sIx xs.length 0 lo)).take (HT.sIx xs.length xs.length hi - HT.sIx xs.length 0 lo),Aq _ rfl⟩
theorem zo:zaS X (.builtin "len") (fun xs H Q=>∃p ys,xs=[.ref p]/\(SqL X.K H p ys \/ SqT X.K H p ys)/\Q (.int ys.length) H):=by
 intro pins s σ H xs us Q I r h;obtain⟨p,ys,rfl,hq,q⟩:=h;obtain⟨u,rfl,rx⟩:=vals1 r;cases rx;have hn:=line63;rcases hq with hq | hq
 ·obtain⟨its,r',pl,hz⟩:=I.list hq
  have hlen:=r'.length;exact Calls.call_len_list pl.isList (by simp only[Aj] <;> omega) ⟨.int ys.length,H,I.tok _,⟨s.toks+1,by rw[Aj,hlen]⟩,q⟩
 ·obtain⟨its,r',pl,hz⟩:=I.tuple hq
  have hlen:=r'.length;exact len_tuple pl (by simp only[Aj] <;> omega) ⟨.int ys.length,H,I.tok _,⟨s.toks+1,by rw[Aj,hlen]⟩,q⟩
theorem zaG:zaS X (.type "list") (fun xs H Q=>∃p ys,xs=[.ref p]/\(SqL X.K H p ys \/ SqT X.K H p ys)/\∀l,H l=none->Q (.ref l) (upd H l (.lst ys))):=by
 intro pins s σ H xs us Q I r h;obtain⟨p,ys,rfl,hq,q⟩:=h;obtain⟨u,rfl,rx⟩:=vals1 r;cases rx;have fin:∀(its:List Value),Vals ys its->ys.length<=sizeLine->∀(h':Heap) (c':Nat),(∀b o',s.heap.get? b=some o'->h'.get? b=some o')->
   h'.get? s.heap.objs.size=some { cls:=.type "list",dict:=none,data:=.seq its.toArray c',slots:=#[] }->EP X pins σ Q (.ref s.heap.objs.size) { s with heap:=h' }:=fun its r' hz h' c' kp e=>
  ⟨.ref s.heap.objs.size,_,I.laid (t':=s.toks) kp (Af _) (show zJ X.prog X.w _ h' _ (.lst ys) from ⟨hz,its,c',r',e⟩),rfl,q _ (I.hok.fresh (Af _))⟩
 rcases hq with hq | hq
 ·obtain⟨its,r',pl,hz⟩:=I.list hq
  have hlen:=r'.length;obtain⟨o,ho,hc,n,hd⟩:=pl.isList;exact call_list_seq p (.inl rfl) ho hc hd (fun h' c' kp e=>fin its r' hz h' c' kp e) (by simp only[Aj] <;> omega)
 ·obtain⟨its,r',pl,hz⟩:=I.tuple hq
  have hlen:=r'.length;obtain⟨o,ho,hc,n,hd⟩:=pl;exact call_list_seq p (.inr rfl) ho hc hd (fun h' c' kp e=>fin its r' hz h' c' kp e) (by simp only[Aj] <;> omega)
theorem zaW:zaS X (.type "tuple") (fun xs H Q=>∃p ys,xs=[.ref p]/\((SqL X.K H p ys/\∀l,H l=none->Q (.ref l) (upd H l (.tup ys))) \/ (SqT X.K H p ys/\Q (.ref p) H))):=by
 intro pins s σ H xs us Q I r h;obtain⟨p,ys,rfl,h⟩:=h;obtain⟨u,rfl,rx⟩:=vals1 r;cases rx;rcases h with ⟨hq,q⟩ | ⟨hq,q⟩
 ·obtain⟨its,r',pl,hz⟩:=I.list hq
  have hlen:=r'.length;refine call_tuple_list pl.isList (fun h' kp=>?_) (by simp only[Aj] <;> omega);have I1:Inv X pins σ H { s with heap:=h' }:=I.kept (t':=s.toks) kp;have I2:Inv X pins σ (upd H h'.objs.size (.tup ys)) { s with heap:=h'.push { cls:=.type "tuple",data:=.seq its.toArray } }:=
   I1.laid (t':=s.toks) (fun b o e=>Ae _ e) (Af _) (show zJ X.prog X.w _ _ _ (.tup ys) from ⟨hz,its,r',IsTup.new _ _⟩)
  exact⟨.ref h'.objs.size,_,I2,rfl,q _ (I1.hok.fresh (Af _))⟩
 ·obtain⟨its,r',pl,hz⟩:=I.tuple hq
  exact call_tuple_same pl ⟨.ref p,H,I,rfl,q⟩
def tyV (K:Ad) (T:String) (x:V) (H:Hp):Prop:=match x with
 | .str _=>T="str"
 | .int _=>T="int"
 | .ref p=>(T="list"/\∃xs,SqL K H p xs) \/ (T="tuple"/\∃o,K.lookup p=some o/\o.cls=.type "tuple"/\o.dict=none) \/
   (T="dict"/\((∃kvs,H p=some (.dK kvs)) \/ ∃kvs,H p=some (.dT kvs))) \/ (T="set"/\∃S n,H p=some (.set S n))
 | _=>False
theorem zkh {pins:List (Addr×Obj)}{σ:St}{H:Hp}{s:Shared}{T:String}{x:V}{v:Value} (I:Inv X pins σ H s) (r:RelV x v) (ty:tyV X.K T x H) :
  s.TypeIs v T/\∀a,v=.ref a->∃ob,s.heap.get? a=some ob/\ob.dict=none:=by
 cases x with
 | str z=>
  obtain⟨t,rfl⟩:=r;cases (show T="str" from ty);exact⟨typeIs_str s z t,fun _ e=>nomatch e⟩
 | int i=>
  obtain⟨t,rfl⟩:=r;cases (show T="int" from ty);exact⟨typeIs_int s i t,fun _ e=>nomatch e⟩
 | ref p=>
  cases r;rcases ty with ⟨rfl,xs,hq⟩ | ⟨rfl,o,hk,hc,hd⟩ | ⟨rfl,hk⟩ | ⟨rfl,S,n,hk⟩
  ·obtain⟨its,_,pl,_⟩:=I.list hq
   refine⟨pl.isList.typeIs,fun a e=>?_⟩;cases e;obtain⟨o,n,e,c,hd,_⟩:=pl;exact⟨o,e,hd⟩
  ·refine⟨⟨o,I.kIn p o hk,hc⟩,fun a e=>?_⟩
   cases e;exact⟨o,I.kIn _ o hk,hd⟩
  ·have z:∃o,s.heap.get? p=some o/\o.ExactDict:=by
    rcases hk with ⟨kvs,hk⟩ | ⟨kvs,hk⟩
    ·obtain⟨_,_,_,_,o,_,_,e,ex,_⟩:=I.hok p _ hk
     exact⟨o,e,ex⟩
    ·obtain⟨_,_,_,_,o,_,_,e,ex,_⟩:=I.hok p _ hk
     exact⟨o,e,ex⟩
   obtain⟨o,e,ex⟩:=z;refine⟨⟨o,e,ex.1⟩,fun a e2=>?_⟩;cases e2;exact⟨o,e,ex.2.1⟩
  ·obtain⟨o,_,_,_,e,ex,_⟩:=I.hok p _ hk
   refine⟨⟨o,e,ex.1⟩,fun a e2=>?_⟩;cases e2;exact⟨o,e,ex.2.1⟩
 | _=>exact False.elim ty
def tBM0 (K:Ad) (T:String) (r:V->List V->Hp->VK->Prop) (to:TE):TE:=fun σ H Q=>to σ H fun x H1=>tyV K T x H1/\r x [] H1 Q
def tBM (K:Ad) (T:String) (r:V->List V->Hp->VK->Prop) (to:TE) (t:TA):TE:=fun σ H Q=>to σ H fun x H1=>tyV K T x H1/\t σ H1 fun xs H2=>r x xs H2 Q
variable {o e:Expr}{es:List Expr}{to:TE}{t:TA}{name:Str}{apos cpos:Pos}{T id:String}{r:V->List V->Hp->VK->Prop}
theorem zmM (pa:PlainAttrs T) (slot:Slot T name id) (hty:typeOf (.builtin id)=pure (.type "method_descriptor")) (hm:MtR X id r) (ho:PE X o to)
  (hbase:attributeBase o name X.env (eval o X.env)=eval o X.env:=by rfl) (hline:(apos.endLine == cpos.line)=true:=by rfl):PE X (.Call (.Attribute o name apos) [] [] cpos) (tBM0 X.K T r to):=by
 intro pins s σ H Q I h;refine wpAny_Call_method0_late hbase hline (thn (ho pins s σ H _ I h) fun v s1 ⟨x,H1,I1,r1,ty,q1⟩=>?_);obtain⟨h1,h2⟩:=zkh I1 r1 ty;exact⟨T,id,pa,slot,hty,h1,h2,Calls.callWith_builtin rfl (PySem.evalArgs_none (hm pins s1 σ H1 x [] v [] Q I1 r1 .nil q1))⟩
theorem zci (pa:PlainAttrs T) (slot:Slot T name id) (hty:typeOf (.builtin id)=pure (.type "method_descriptor")) (hm:MtR X id r) (ho:PE X o to) (ha:PA X (e::es) t)
  (hbase:attributeBase o name X.env (eval o X.env)=eval o X.env:=by rfl)
  (hfew:((backTo cpos (starEach (e::es) X.env)).all (fun x=>!x.1) && (backToKw cpos (keywordEach [] X.env)).all (fun x=>x.1.isSome)
   && decide ((e::es).length+([]:List Keyword).length+(if ([]:List Keyword).isEmpty then 0 else 1)<30))=true:=by rfl)
  (hline:(apos.endLine == cpos.line)=true:=by rfl) (hs:starEach (e::es) X.env=(false,eval e X.env)::starEach es X.env:=by rfl) (hplain:(backTo cpos (starEach es X.env)).any (·.1)=false:=by rfl) :
  PE X (.Call (.Attribute o name apos) (e::es) [] cpos) (tBM X.K T r to t):=by
 intro pins s σ H Q I h;refine wpAny_Call_method_late hbase hfew hline rfl (thn (ho pins s σ H _ I h) fun v s1 ⟨x,H1,I1,r1,ty,q1⟩=>?_);obtain⟨h1,h2⟩:=zkh I1 r1 ty;refine⟨T,id,pa,slot,hty,h1,h2,?_⟩;have hA:=ha cpos pins s1 σ H1 _ I1 q1;rw[hs] at hA ⊢;refine Calls.callWith_builtin (by show (false || (backTo cpos (starEach es X.env)).any (·.1))=false; rw[hplain] <;> rfl) (Calls.evalArgs_plain ?_);exact thn hA fun us s2 ⟨vs,H2,I2,r2,q2⟩=>hm pins s2 σ H2 x vs v us Q I2 r1 r2 q2
/- xs.append(e),list.index on a module's tuple .. are MtR facts of 06m -/
end
end L2
namespace L2
open PySem PySem.Spec PyProof.Rows
def MtM (X:Cx) (id:String) (r:V->List V->Hp->VK->Prop):Prop:=
 ∀(pins:List (Addr×Obj)) (s:Shared) (σ:St) (H:Hp) (x:V) (xs:List V) (v:Value) (us:List Value) (Q:VK),Inv X pins σ H s->RelV x v->Vals xs us->r x xs H Q->
  wpAny (model X.prog X.w) X.A (call (.builtin id) (v::us)) (EP X pins σ Q) X.xe s
theorem Vals.one {x:V}{us:List Value} (h:Vals [x] us):∃u,us=[u]/\RelV x u:=by
 cases h with | cons r t=>cases t; exact⟨_,rfl,r⟩
theorem Vals.two {x y:V}{us:List Value} (h:Vals [x,y] us):∃u v,us=[u,v]/\RelV x u/\RelV y v:=by
 cases h with | cons r t=>obtain⟨v,rfl,q⟩:=Vals.one t; exact⟨_,_,rfl,r,q⟩
theorem Vals.zero:∀{us:List Value},Vals [] us->us=[]
 | _,.nil=>rfl
theorem Vals.dropLast {xs:List V}{us:List Value} (h:Vals xs us):Vals xs.dropLast us.dropLast:=by
 induction h with
 | nil=>exact .nil
 | cons r t ih=>
  cases t with
  | nil=>exact .nil
  | cons q t'=>exact .cons r ih
theorem Vals.eraseIdx:∀{xs:List V}{us:List Value} (i:Nat),Vals xs us->Vals (xs.eraseIdx i) (us.eraseIdx i)
 | _,_,_,.nil=>.nil
 | _,_,0,.cons _ t=>t
 | _,_,i+1,.cons r t=>.cons r (Vals.eraseIdx i t)
theorem Vals.reverse {xs:List V}{us:List Value} (h:Vals xs us):Vals xs.reverse us.reverse:=by
 induction h with
 | nil=>exact .nil
 | cons r t ih=>rw[List.reverse_cons,List.reverse_cons]; exact Vals.append ih (.cons r .nil)
theorem zgH {α:Type} (l:List α):l.eraseIdx (l.length - 1)=l.dropLast:=by
 induction l with
 | nil=>rfl
 | cons a r ih=>
  cases r with
  | nil=>rfl
  | cons b r=>
   have e:(a::b::r).length - 1=((b::r).length - 1)+1:=by
    have h1:(a::b::r).length=r.length+2:=rfl;have h2:(b::r).length=r.length+1:=rfl;omega
   rw[e,List.eraseIdx_cons_succ,ih]
   all_goals rfl
section
variable {X:Cx}{pins:List (Addr×Obj)}{σ:St}{H:Hp}{s:Shared}{l b:Addr}{xs ys zs:List V}
theorem Inv.lset {its its':List Value}{n:Nat}{f:Array Value->Array Value}{t':Nat} (I:Inv X pins σ H s) (hH:H l=some (.lst xs))
  (e:s.heap.get? l=some { cls:=.type "list",data:=.seq its.toArray n }) (hf:f its.toArray=its'.toArray) (hv:Vals ys its') (hz:ys.length<=sizeLine) :
  Inv X pins σ (upd H l (.lst ys)) { s with heap:=s.heap.update l (AK f),toks:=t' }:=by
 have q:=PySem.IsL.update e f;rw[hf] at q;refine I.write (x:=l) (e:=l) (by rw[hH]; exact trivial) (.inl rfl) (fun b' u hb hu=>(Heap.get?_update_other s.heap (AK f) (Ne.symm hb)).trans hu) ⟨_,q⟩ ?_;exact⟨hz,its',_,hv,q⟩
theorem Inv.lnew {its:List Value}{t':Nat} (I:Inv X pins σ H s) (hv:Vals ys its) (hz:ys.length<=sizeLine) :
  Inv X pins σ (upd H s.heap.objs.size (.lst ys)) { s with heap:=s.heap.push { cls:=.type "list",data:=.seq its.toArray },toks:=t' }:=
 I.laid (fun _ _ q=>Ae _ q) (Af _) ⟨hz,its,0,hv,Aq _ rfl⟩
theorem Inv.fresh (I:Inv X pins σ H s):H s.heap.objs.size=none:=I.hok.fresh (Af _)
theorem Inv.lstM (I:Inv X pins σ H s) (hH:H l=some (.lst xs)):xs.length<=sizeLine/\∃(its:List Value) (n:Nat),Vals xs its/\xs.length=its.length/\s.heap.get? l=some { cls:=.type "list",data:=.seq its.toArray n }:=by
 obtain⟨z,its,n,r,e⟩:=I.hok l _ hH;exact⟨z,its,n,r,r.length,e⟩
theorem zi5 {n:Nat} (h:n<=sizeLine):Builtin.List.listTooLong n=false:=by
 unfold Builtin.List.listTooLong;exact decide_eq_false (by omega)
end
section
variable {X:Cx}
def zkw:V->List V->Hp->VK->Prop:=fun x vs H Q=>∃l xs y,x=.ref l/\vs=[y]/\H l=some (.lst xs)/\xs.length<sizeLine/\Q .non (upd H l (.lst (xs++[y])))
theorem zaA:MtM X "list.append" zkw:=by
 intro pins s σ H x vs v us Q I rx rv h;obtain⟨l,xs,y,rfl,rfl,hH,hz,q⟩:=h;cases rx;obtain⟨u,rfl,ru⟩:=rv.one;obtain⟨z,its,n,r,hl,e⟩:=I.lstM hH;refine call_meets F.slot_list_append ⟨_,e,rfl⟩ F.entry_list_append (F.args_list_append_2 _ _) (PySem.list_append l its.toArray n u (by rw[Aj]; omega)) ⟨e,?_⟩;refine⟨.non,_,I.lset (its':=its++[u]) hH e (by simp) (r.append (.cons ru .nil)) ?_,rfl,q⟩;rw[Ah,AQ];omega
def zku:V->List V->Hp->VK->Prop:=fun x vs H Q=>∃l b xs zs,x=.ref l/\vs=[.ref b]/\H l=some (.lst xs)/\H b=some (.lst zs)/\xs.length+zs.length<=sizeLine/\Q .non (upd H l (.lst (xs++zs)))
theorem zek:MtM X "list.extend" zku:=by
 intro pins s σ H x vs v us Q I rx rv h;obtain⟨l,b,xs,zs,rfl,rfl,hH,hB,hz,q⟩:=h;cases rx;obtain⟨u,rfl,ru⟩:=rv.one;cases ru;obtain⟨z,its,n,r,hl,e⟩:=I.lstM hH;obtain⟨z2,its2,n2,r2,hl2,e2⟩:=I.lstM hB;have hsz:its.toArray.size+its2.toArray.size<=sizeLine:=by rw[Aj,Aj]; omega
 have hlong:¬ (!its.toArray.isEmpty && Builtin.List.listTooLong (its.toArray.size+its2.toArray.size))=true:=by
  rw[zi5 hsz,Bool.and_false];exact AA
 refine call_meets F.slot_list_extend ⟨_,e,rfl⟩ F.entry_list_extend (F.args_list_extend_2 _ _)
  (AutoSeq1.list_extend_list_list_0 l its.toArray n b its2.toArray n2 hlong (by rw[Aj]; omega) (by omega)) ⟨e,e2,?_⟩
 refine⟨.non,_,I.lset (its':=its++its2) hH e (by simp) (r.append r2) ?_,rfl,q⟩;rw[Ah];omega
def rPop:V->List V->Hp->VK->Prop:=fun x vs H Q=>∃l xs y,x=.ref l/\vs=[]/\H l=some (.lst xs)/\xs[xs.length - 1]?=some y/\Q y (upd H l (.lst xs.dropLast))
theorem zlX:MtM X "list.pop" rPop:=by
 intro pins s σ H x vs v us Q I rx rv h;obtain⟨l,xs,y,rfl,rfl,hH,hy,q⟩:=h;cases rx;have hus:=rv.zero;subst hus;obtain⟨z,its,n,r,hl,e⟩:=I.lstM hH;obtain⟨u,hu,ru⟩:=r.get hy;have hy':its.toArray[its.toArray.size - 1]?=some u:=by
  show its.toArray[its.length - 1]?=some u;rw[<- AR,<- hl];exact hu
 refine call_meets F.slot_list_pop ⟨_,e,rfl⟩ F.entry_list_pop (F.args_list_pop_1 _) (MeetsSeq.list_pop_last l its.toArray n u hy' (by rw[Aj]; omega)) ⟨e,?_⟩;refine⟨y,_,I.lset (its':=its.dropLast) hH e ?_ r.dropLast ?_,ru,q⟩
 ·show its.toArray.eraseIdxIfInBounds (its.toArray.size - 1)=its.dropLast.toArray
  rw[Aj,List.eraseIdxIfInBounds_toArray,zgH]
 ·rw[List.length_dropLast]
  omega
def rCat:R2:=fun x y H Q=>∃l b xs zs,x=.ref l/\y=.ref b/\H l=some (.lst xs)/\H b=some (.lst zs)/\xs.length+zs.length<=sizeLine/\∀p,H p=none->Q (.ref p) (upd H p (.lst (xs++zs)))
theorem zcR:OpR X (binaryOp .Add) rCat:=by
 intro pins s σ H x y v u Q I rx ry h;obtain⟨l,b,xs,zs,rfl,rfl,hH,hB,hz,q⟩:=h;cases rx;cases ry;obtain⟨z,its,n,r,hl,e⟩:=I.lstM hH;obtain⟨z2,its2,n2,r2,hl2,e2⟩:=I.lstM hB;refine PySem.P.add_list e e2 ?_ (by rw[Aj,Aj]; omega);have ea:its.toArray++its2.toArray=(its++its2).toArray:=by simp
 rw[ea];exact⟨.ref _,_,I.lnew (t':=s.toks) (r.append r2) (by rw[Ah]; omega),rfl,q _ I.fresh⟩
end
section
variable {prog:Program}{w:World}{A:Around}{E:Value->Shared->Prop}{s:Shared}
set_option maxRecDepth 100000 in
end
section
variable {X:Cx}
end
end L2
namespace L2
open PySem PySem.Spec PyProof.Rows
section
variable {κ:Type} [DecidableEq κ]
def valV (kvs:List (κ×V)) (k:κ):Option V:=(kvs.find? fun kv=>decide (kv.1=k)).map (·.2)
def putK (kvs:List (κ×V)) (k:κ) (v:V):List (κ×V):=
 if (kvs.any fun kv=>decide (kv.1=k))=true then kvs.map (fun kv=>if kv.1=k then (kv.1,v) else kv) else kvs++[(k,v)]
def znm (kvs:List (κ×V)) (k:κ):List (κ×V):=kvs.filter fun kv=>decide (kv.1≠k)
theorem zU {p:κ×V}{r:List (κ×V)}{k:κ} (e:p.1=k):valV (p::r) k=some p.2:=by simp[valV,List.find?_cons,e]
theorem zO {p:κ×V}{r:List (κ×V)}{k:κ} (e:¬ p.1=k):valV (p::r) k=valV r k:=by simp[valV,List.find?_cons,e]
theorem zaw (k:κ):∀kvs:List (κ×V),(kvs.any fun kv=>decide (kv.1=k))=(valV kvs k).isSome
 | []=>rfl
 | p::r=>by
  rw[List.any_cons]
  by_cases e:p.1=k
  ·simp only[zU e,decide_eq_true e,Bool.true_or,Option.isSome_some]
  ·rw[zO e,decide_eq_false e,Bool.false_or]; exact zaw k r
theorem zfI (k j:κ) (y:V):∀kvs:List (κ×V),valV (kvs.map fun kv=>if kv.1=k then (kv.1,y) else kv) j=(valV kvs j).map fun x=>if j=k then y else x
 | []=>rfl
 | p::r=>by
  have ih:=zfI k j y r;rw[Av]
  by_cases h:p.1=k
  ·rw[if_pos h]
   by_cases e:p.1=j
   ·rw[zU (p:=(p.1,y)) e,zU e,A3,if_pos (e.symm.trans h)]
   ·rw[zO (p:=(p.1,y)) e,zO e,ih]
  ·rw[if_neg h]
   by_cases e:p.1=j
   ·rw[zU (p:=p) e,zU e,A3,if_neg (fun z=>h (e.trans z))]
   ·rw[zO (p:=p) e,zO e,ih]
theorem zeI (k j:κ) (y:V):∀kvs:List (κ×V),valV kvs k=none->valV (kvs++[(k,y)]) j=if j=k then some y else valV kvs j
 | [],_=>by
  by_cases e:k=j
  ·rw[if_pos e.symm]; exact zU (p:=(k,y)) e
  ·rw[if_neg (fun z=>e z.symm)]; exact zO (p:=(k,y)) e
 | p::r,hn=>by
  rw[List.cons_append];have hk:¬ p.1=k:=fun z=>by rw[zU z] at hn; cases hn
  rw[zO hk] at hn;have ih:=zeI k j y r hn
  by_cases e:p.1=j
  ·rw[zU e,zU e,if_neg (fun z=>hk (e.trans z))]
  ·rw[zO e,zO e,ih]
theorem zdU (kvs:List (κ×V)) (k j:κ) (y:V):valV (putK kvs k y) j=if j=k then some y else valV kvs j:=by
 unfold putK
 by_cases a:(kvs.any fun kv=>decide (kv.1=k))=true
 ·rw[if_pos a,zfI]
  rw[zaw] at a
  by_cases e:j=k
  ·obtain⟨x,hx⟩:=Option.isSome_iff_exists.mp a
   rw[if_pos e,e,hx,A3,if_pos rfl]
  ·rw[if_neg e]
   cases valV kvs j with
   | none=>rfl
   | some x=>rw[A3,if_neg e]
 ·rw[if_neg a]
  refine zeI k j y kvs ?_;rw[zaw] at a;cases q:valV kvs k with
  | none=>rfl
  | some x=>rw[q] at a; exact (a rfl).elim
theorem zbA (kvs:List (κ×V)) (k:κ) (v:V):(putK kvs k v).length<=kvs.length+1:=by
 unfold putK;split
 ·rw[Ab]; omega
 ·rw[Ah,Aw,List.length_nil]; omega
theorem zcs {kvs:List (κ×V)}{k:κ} (v:V) (h:valV kvs k=none):putK kvs k v=kvs++[(k,v)]:=by
 unfold putK;rw[zaw,h];exact if_neg (by decide)
theorem RelO.isSome_eq {o:Option V}{u:Option Value} (r:RelO o u):o.isSome=u.isSome:=by
 cases o with
 | none=>cases u with
  | none=>rfl
  | some _=>exact (show False from r).elim
 | some _=>cases u with
  | none=>exact (show False from r).elim
  | some _=>rfl
theorem RelO.getD {o:Option V}{u:Option Value}{d:V}{d':Value} (r:RelO o u) (rd:RelV d d'):RelV (o.getD d) (u.getD d'):=by
 cases o with
 | none=>cases u with
  | none=>exact rd
  | some _=>exact (show False from r).elim
 | some _=>cases u with
  | none=>exact (show False from r).elim
  | some _=>exact r
theorem KV.val {kvs:List (κ×V)}{vs:List (κ×Value)} (r:KV kvs vs) (k:κ):RelO (valV kvs k) (valueAt vs k):=by
 unfold KV at r
 induction r with
 | nil=>exact True.intro
 | @cons p q ps qs h t ih=>
  obtain⟨h1,h2⟩:=h
  by_cases e:p.1=k
  ·have e':q.1=k:=h1.symm.trans e
   have b:valueAt (q::qs) k=some q.2:=by simp[valueAt,List.find?_cons,e']
   rw[zU e,b]; exact h2
  ·have e':¬ q.1=k:=fun z=>e (h1.trans z)
   have b:valueAt (q::qs) k=valueAt qs k:=by simp[valueAt,List.find?_cons,e']
   rw[zO e,b]; exact ih
theorem KV.any {kvs:List (κ×V)}{vs:List (κ×Value)} (r:KV kvs vs) (k:κ):(kvs.any fun kv=>decide (kv.1=k))=vs.any fun kv=>decide (kv.1=k):=by
 unfold KV at r
 induction r with
 | nil=>rfl
 | cons h t ih=>rw[List.any_cons,List.any_cons,ih,h.1]
theorem KV.repl {kvs:List (κ×V)}{vs:List (κ×Value)} (r:KV kvs vs) (k:κ) {y:V}{u:Value} (ry:RelV y u) :
  KV (kvs.map fun kv=>if kv.1=k then (kv.1,y) else kv) (vs.map fun kv=>if kv.1=k then (kv.1,u) else kv):=by
 unfold KV at r ⊢
 induction r with
 | nil=>exact .nil
 | @cons p q ps qs h t ih=>
  rw[Av,Av];refine .cons ?_ ih;obtain⟨h1,h2⟩:=h
  by_cases e:p.1=k
  ·rw[if_pos e,if_pos (h1.symm.trans e)]; exact⟨h1,ry⟩
  ·rw[if_neg e,if_neg (fun z=>e (h1.trans z))]; exact⟨h1,h2⟩
theorem KV.put {kvs:List (κ×V)}{vs:List (κ×Value)} (r:KV kvs vs) (k:κ) {y:V}{u:Value} (ry:RelV y u):KV (putK kvs k y) (stored vs k u):=by
 unfold putK stored;rw[r.any k]
 by_cases e:(vs.any fun kv=>decide (kv.1=k))=true
 ·rw[if_pos e,if_pos e]; exact r.repl k ry
 ·rw[if_neg e,if_neg e]; exact Paired.snoc r ⟨rfl,ry⟩
theorem KV.length {kvs:List (κ×V)}{vs:List (κ×Value)} (r:KV kvs vs):kvs.length=vs.length:=AN r
end
theorem zgE {P:Program}{w:World}{k:Key}{u:Value} (r:RelV (kV k) u):(zD P w).is k u=true:=by
 cases k with
 | inl i=>obtain⟨t,e⟩:=(show ∃t,u=Value.int i t from r); subst e; exact zbv P w i t
 | inr x=>obtain⟨t,e⟩:=(show ∃t,u=Value.str x t from r); subst e; exact ze3 P w x t
theorem zec {P:Program}{w:World}:∀{ks:List Key}{us:List Value},Vals (ks.map kV) us->ItemsAre (zD P w) ks us
 | [],_,r=>by rw[List.map_nil] at r; cases r; exact .nil
 | k::ks,_,r=>by
  rw[Av] at r;cases r with
  | cons h t=>exact .cons (zgE h) (zec t)
abbrev KT (H:Hp):List (List Key×V)->List (List Key×Addr×Value)->Prop:=Paired fun p q=>p.1=q.1/\H q.2.1=some (.tup (p.1.map kV))/\RelV p.2 q.2.2
theorem KT.val {H:Hp}{kvs:List (List Key×V)}{xs:List (List Key×Addr×Value)} (r:KT H kvs xs) (k:List Key):RelO (valV kvs k) ((atKey xs k).map (·.2)):=by
 induction r with
 | nil=>exact True.intro
 | @cons p q ps qs h t ih=>
  obtain⟨h1,_,h2⟩:=h
  by_cases e:p.1=k
  ·have e':q.1=k:=h1.symm.trans e
   have b:atKey (q::qs) k=some q.2:=by simp[atKey,List.find?_cons,e']
   rw[zU e,b]; exact h2
  ·have e':¬ q.1=k:=fun z=>e (h1.trans z)
   have b:atKey (q::qs) k=atKey qs k:=by simp[atKey,List.find?_cons,e']
   rw[zO e,b]; exact ih
theorem KT.repl {H:Hp}{kvs:List (List Key×V)}{xs:List (List Key×Addr×Value)} (r:KT H kvs xs) (k:List Key) {y:V}{u:Value} (ry:RelV y u) :
  KT H (kvs.map fun kv=>if kv.1=k then (kv.1,y) else kv) (xs.map (putAt k u)):=by
 induction r with
 | nil=>exact .nil
 | @cons p q ps qs h t ih=>
  rw[Av,Av];refine .cons ?_ ih;obtain⟨h1,h2,h3⟩:=h;unfold putAt
  by_cases e:p.1=k
  ·rw[if_pos e,if_pos (h1.symm.trans e)]; exact⟨h1,h2,ry⟩
  ·rw[if_neg e,if_neg (fun z=>e (h1.trans z))]; exact⟨h1,h2,h3⟩
theorem KT.put {H:Hp}{kvs:List (List Key×V)}{xs:List (List Key×Addr×Value)} (r:KT H kvs xs) (k:List Key) {b:Addr}{y:V}{u:Value} (hb:H b=some (.tup (k.map kV))) (ry:RelV y u) :
  KT H (putK kvs k y) (storedH xs k b u):=by
 have e:(kvs.any fun kv=>decide (kv.1=k))=(atKey xs k).isSome:=by
  rw[zaw,(r.val k).isSome_eq,Option.isSome_map]
 unfold putK storedH;rw[e]
 by_cases q:(atKey xs k).isSome=true
 ·rw[if_pos q,if_pos q]; exact r.repl k ry
 ·rw[if_neg q,if_neg q]; exact Paired.snoc r ⟨rfl,hb,ry⟩
theorem KT.keeps {H H':Hp}{kvs:List (List Key×V)}{xs:List (List Key×Addr×Value)} (r:KT H kvs xs) (ht:∀b ys,H b=some (.tup ys)->H' b=some (.tup ys)):KT H' kvs xs:=
 Paired.mapP r fun _ _ z=>⟨z.1,ht _ _ z.2.1,z.2.2⟩
section
variable {P:Program}{w:World}{H:Hp}{h:Heap}{a:Addr}
theorem zmr {u:HO} (ok:HOk P w H h) (e:Rd H a u):zJ P w H h a u:=e.ok ok
theorem zeY {kvs:List (Key×V)} (ok:HOk P w H h) (e:Rd H a (.dK kvs)):kvs.length<=sizeLine/\(a == sysModules)=false/\∃vs,KV kvs vs/\h.DictOf (zD P w) a vs:=
 show zJ P w H h a (.dK kvs) from zmr ok e
theorem zmS {kvs:List (Key×V)} (ok:HOk P w H h) (e:H a=some (.dK kvs)):kvs.length<=sizeLine/\(a == sysModules)=false/\∃vs,KV kvs vs/\h.DictOf (zD P w) a vs:=zeY ok (.inl e)
theorem zb8 {ks:List Key} (ok:HOk P w H h) (e:H a=some (.tup (ks.map kV))):(tupleKind (zD P w)).is h ks a:=by
 obtain⟨_,its,r,o,h1,h2,n,h3⟩:=(show zJ P w H h a (.tup (ks.map kV)) from ok a _ e);exact⟨o,its.toArray,n,h1,h2,h3,by simpa using zec r⟩
theorem zfl {kvs:List (List Key×V)} (ok:HOk P w H h) (e:Rd H a (.dT kvs)):kvs.length<=sizeLine/\(a == sysModules)=false/\
  ∃xs,KT H kvs xs/\h.DictOfH (tupleKind (zD P w)) a xs:=by
 obtain⟨z,y,xs,r,o,es,ep,h1,h2,h3,h4,h5⟩:=(show zJ P w H h a (.dT kvs) from zmr ok e);refine⟨z,y,xs,r,o,es,ep,h1,h2,h3,h4,fun x hx=>?_,h5⟩;have all:∀{l:List (List Key×V)} {m:List (List Key×Addr×Value)},KT H l m->∀x∈m,(tupleKind (zD P w)).is h x.1 x.2.1:=by
  intro l m q
  induction q with
  | nil=>intro x hx; exact nomatch hx
  | @cons p q ps qs hq t ih=>
   intro x hx;rcases List.mem_cons.mp hx with e | hx
   ·subst e
    exact zb8 ok (by rw[<- hq.1]; exact hq.2.1)
   ·exact ih x hx
 exact all r x hx
theorem zl1 {kvs:List (List Key×V)} (ok:HOk P w H h) (e:H a=some (.dT kvs)):kvs.length<=sizeLine/\(a == sysModules)=false/\
  ∃xs,KT H kvs xs/\h.DictOfH (tupleKind (zD P w)) a xs:=zfl ok (.inl e)
end
def DGet (H:Hp) (a:Addr) (y:V) (r:Option V):Prop:=
 (∃kvs k,Rd H a (.dK kvs)/\y=kV k/\r=valV kvs k) \/ ∃kvs k b,Rd H a (.dT kvs)/\y=.ref b/\H b=some (.tup (k.map kV))/\r=valV kvs k
def DPut (H:Hp) (a:Addr) (y v:V) (H':Hp):Prop:=
 (∃kvs k,H a=some (.dK kvs)/\y=kV k/\kvs.length<sizeLine/\H'=upd H a (.dK (putK kvs k v))) \/
 ∃kvs k b,H a=some (.dT kvs)/\y=.ref b/\H b=some (.tup (k.map kV))/\kvs.length<sizeLine/\H'=upd H a (.dT (putK kvs k v))
theorem DGet.k {H:Hp}{a:Addr}{kvs:List (Key×V)}{k:Key} (e:H a=some (.dK kvs)):DGet H a (kV k) (valV kvs k):=.inl ⟨kvs,k,.inl e,rfl,rfl⟩
theorem DGet.t {H:Hp}{a b:Addr}{kvs:List (List Key×V)}{k:List Key} (e:H a=some (.dT kvs)) (eb:H b=some (.tup (k.map kV))):DGet H a (.ref b) (valV kvs k):=.inr ⟨kvs,k,b,.inl e,rfl,eb,rfl⟩
theorem DPut.k {H:Hp}{a:Addr}{kvs:List (Key×V)}{k:Key}{v:V} (e:H a=some (.dK kvs)) (hl:kvs.length<sizeLine):DPut H a (kV k) v (upd H a (.dK (putK kvs k v))):=.inl ⟨kvs,k,e,rfl,hl,rfl⟩
theorem DPut.t {H:Hp}{a b:Addr}{kvs:List (List Key×V)}{k:List Key}{v:V} (e:H a=some (.dT kvs)) (eb:H b=some (.tup (k.map kV))) (hl:kvs.length<sizeLine) :
  DPut H a (.ref b) v (upd H a (.dT (putK kvs k v))):=.inr ⟨kvs,k,b,e,rfl,eb,hl,rfl⟩
section
variable {X:Cx}{pins:List (Addr×Obj)}{σ:St}{H:Hp}{s:Shared}{a:Addr}{y v:V}{u r:Value}{o:Option V}{A:Around}{E:Value->Shared->Prop}
theorem Inv.big (I:Inv X pins σ H s):sysModules<s.heap.objs.size:=by
 have h:mainGlobals<s.heap.objs.size:=(I.mod.glob.keeps I.bk).lt;exact Nat.lt_trans (by decide) h
theorem zic {Q:Value->Shared->Prop} (hu:A.units+1<cLine) (I:Inv X pins σ H s) (g:DGet H a y (some v)) (ry:RelV y u) (h:∀w' s',Inv X pins σ H s'->RelV v w'->Q w' s') :
  wpAny (model X.prog X.w) A (getItem (.ref a) u) Q E s:=by
 rcases g with ⟨kvs,k,e,ey,l⟩ | ⟨kvs,k,b,e,ey,eb,l⟩
 ·subst ey
  obtain⟨z,hd,vs,rel,dd⟩:=zeY I.hok e;obtain⟨w',hw,rw'⟩:=RelO.some_of (v:=v) (o:=valueAt vs k) (by rw[l]; exact rel.val k);exact wpAny_getItem_of (zgE ry) dd.mapOf hw (h w' _ (I.tok _) rw')
 ·subst ey
  cases (show u=Value.ref b from ry);obtain⟨z,hd,xs,rel,dd⟩:=zfl I.hok e;obtain⟨w',hw,rw'⟩:=RelO.some_of (v:=v) (o:=(atKey xs k).map (·.2)) (by rw[l]; exact rel.val k);obtain⟨p,hp,hp2⟩:=Option.map_eq_some_iff.mp hw;refine wpAny_getItem_heap (tupleKind_room_in1 hu) (zb8 I.hok eb) dd hp ?_;rw[hp2];exact h w' _ (I.tok _) rw'
theorem d_in {Q:Value->Shared->Prop} (hu:A.units+1<cLine) (I:Inv X pins σ H s) (g:DGet H a y o) (ry:RelV y u) (h:∀s',Inv X pins σ H s'->Q (.bool o.isSome) s') :
  wpAny (model X.prog X.w) A (compareOp .In u (.ref a)) Q E s:=by
 rcases g with ⟨kvs,k,e,ey,l⟩ | ⟨kvs,k,b,e,ey,eb,l⟩
 ·subst ey
  obtain⟨z,hd,vs,rel,dd⟩:=zeY I.hok e;refine wpAny_in_of (zgE ry) hd dd.mapOf ?_;rw[<- (rel.val k).isSome_eq,<- l];exact h _ (I.tok _)
 ·subst ey
  cases (show u=Value.ref b from ry);obtain⟨z,hd,xs,rel,dd⟩:=zfl I.hok e;refine wpAny_in_heap (tupleKind_room_in1 hu) (zb8 I.hok eb) hd dd ?_;have q:=(rel.val k).isSome_eq;rw[Option.isSome_map] at q;rw[<- q,<- l];exact h _ (I.tok _)
theorem zlK {Q:Value->Shared->Prop} (hu:A.units+1<cLine) (I:Inv X pins σ H s) (g:DGet H a y o) (ry:RelV y u) (h:∀s',Inv X pins σ H s'->Q (.bool (!o.isSome)) s') :
  wpAny (model X.prog X.w) A (compareOp .NotIn u (.ref a)) Q E s:=by
 rcases g with ⟨kvs,k,e,ey,l⟩ | ⟨kvs,k,b,e,ey,eb,l⟩
 ·subst ey
  obtain⟨z,hd,vs,rel,dd⟩:=zeY I.hok e;refine wpAny_notIn_of (zgE ry) hd dd.mapOf ?_;rw[<- (rel.val k).isSome_eq,<- l];exact h _ (I.tok _)
 ·subst ey
  cases (show u=Value.ref b from ry);obtain⟨z,hd,xs,rel,dd⟩:=zfl I.hok e;refine wpAny_notIn_heap (tupleKind_room_in1 hu) (zb8 I.hok eb) hd dd ?_;have q:=(rel.val k).isSome_eq;rw[Option.isSome_map] at q;rw[<- q,<- l];exact h _ (I.tok _)
theorem zcv {h':Heap}{t':Nat}{ob:HO} (I:Inv X pins σ H s) (mu:Mut (H a)) (hs:AX a s.heap h') (he:∃q,h'.get? a=some q) (new:zJ X.prog X.w (upd H a ob) h' a ob) :
  Inv X pins σ (upd H a ob) { s with heap:=h',toks:=t' }:=
 I.write (x:=a) (e:=a) mu (.inl rfl) (fun b q hb z=>(hs.2 b hb).trans z) he new
theorem dk_new {P:Program}{w:World}{H':Hp}{h':Heap}{kvs:List (Key×V)}{vs:List (Key×Value)} (z:kvs.length<=sizeLine) (hd:(a == sysModules)=false) (rel:KV kvs vs) (dd:h'.DictOf (zD P w) a vs) :
  zJ P w H' h' a (.dK kvs):=⟨z,hd,vs,rel,dd⟩
theorem zhh {H':Hp}{Q:Unit->Shared->Prop} (hu:A.units+1<cLine) (I:Inv X pins σ H s) (g:DPut H a y v H') (ry:RelV y u) (rv:RelV v r) (h:∀s',Inv X pins σ H' s'->Q () s') :
  wpAny (model X.prog X.w) A (setItem (.ref a) u r) Q E s:=by
 rcases g with ⟨kvs,k,e,ey,l,eH⟩ | ⟨kvs,k,b,e,ey,eb,l,eH⟩
 ·subst ey eH
  obtain⟨z,hd,vs,rel,dd⟩:=zmS I.hok e;have hz:vs.length<=sizeLine:=by rw[<- rel.length]; exact z
  have hl:(putK kvs k v).length<=sizeLine:=by have:=zbA kvs k v; omega
  refine wpAny_setItem_pairs (hsz:=hz) (zgE ry) dd fun h' dd' hs=>h _ ?_;have he:∃q,h'.get? a=some q:=let ⟨q,_,_,hq,_⟩:=dd'; ⟨q,hq⟩;exact zcv I (by rw[e]; exact True.intro) hs he (dk_new hl hd (rel.put k rv) dd')
 ·subst ey eH
  cases (show u=Value.ref b from ry);obtain⟨z,hd,xs,rel,dd⟩:=zl1 I.hok e;have hz:xs.length<=sizeLine:=by rw[<- AN rel]; exact z
  have hl:(putK kvs k v).length<=sizeLine:=by have:=zbA kvs k v; omega
  refine wpAny_setItem_heap (hsz:=hz) (tupleKind_room_in1 hu) (zb8 I.hok eb) dd fun h' dd' hs=>h _ ?_;obtain⟨q,es,ep,hq,h2,h3,h4,_,h5⟩:=dd';refine zcv I (by rw[e]; exact True.intro) hs ⟨q,hq⟩ ⟨hl,hd,_,(rel.put k eb rv).keeps fun c ys ec=>?_,q,es,ep,hq,h2,h3,h4,h5⟩;rw[zk (zbz ec e (fun z=>nomatch z))];exact ec
end
section
variable {X:Cx}{pins:List (Addr×Obj)}{σ:St}{H:Hp}{s:Shared}{a:Addr}{kvs:List (Key×V)}{k:Key}{u:Value}{A:Around}{E:Value->Shared->Prop}
end
def NoSl (i:Expr):Prop:=∀ov iv,subscripted i false ov iv=operate [ov,iv] (getItem ov iv)
theorem zkv {prog:Program}{w:World}{A:Around}{E:Value->Shared->Prop}{s:Shared}{env:Env}{value slice:Expr}{pos:Pos}{T id:String}{Q:Value->Shared->Prop}
  (hl:typeLookup (.type T) "__getitem__"=pure (some (.builtin id))) (hs:NoSl slice)
  (h:wpAny (model prog w) A (eval value env) (fun o s₁=>wpAny (model prog w) A (eval slice env) (fun i s₂=>s₂.TypeIs o T/\wpAny (model prog w) A (getItem o i) Q E s₂) E s₁) E s) :
  wpAny (model prog w) A (eval (.Subscript value slice pos) env) Q E s:=by
 refine Subscript_ (wpAny_mono h (fun o s₁ h₁=>wpAny_mono h₁ (fun i s₂ h₂=>?_) fun _ _ x=>x) fun _ _ x=>x);obtain⟨hT,h₂⟩:=h₂;unfold subscriptTail;refine Aa ?_;rw[getitemInPython_of_ne hT.not_modules];refine Aa (wpAny_specialOf hT hl ?_);have fin:wpAny (model prog w) A (subscripted slice false o i) (fun r s₃=>wpAny (model prog w) A (letTemporaryGo value o r >>= fun _=>pure r) Q E s₃) E s₂:=by
  rw[hs o i];exact wpAny_operating (wpAny_mono h₂ (fun r s₃ h₃=>Aa (wpAny_letTemporaryGo (Ac h₃))) fun _ _ x=>x)
 first
  | exact Ac (Aa fin)
  | exact Aa (Ac (Aa fin))
  | exact Aa fin
theorem zeR {X:Cx}{pins:List (Addr×Obj)}{σ:St}{H:Hp}{s:Shared}{a:Addr}{y:V}{o:Option V} (I:Inv X pins σ H s) (g:DGet H a y o):s.TypeIs (.ref a) "dict":=by
 rcases g with ⟨kvs,k,e,_,_⟩ | ⟨kvs,k,b,e,_,_,_⟩
 ·obtain⟨_,_,vs,_,dd⟩:=zeY I.hok e
  exact dd.typeIs
 ·obtain⟨_,_,xs,_,dd⟩:=zfl I.hok e
  exact dd.typeIs
def zeN (td ty:TE):TE:=fun σ H Q=>td σ H fun x H1=>ty σ H1 fun y H2=>∃a v,x=.ref a/\DGet H2 a y (some v)/\Q v H2
def tDIn (ty td:TE):TE:=fun σ H Q=>ty σ H fun y H1=>td σ H1 fun x H2=>∃a o,x=.ref a/\DGet H2 a y o/\Q (.bl o.isSome) H2
def zg3 (ty td:TE):TE:=fun σ H Q=>ty σ H fun y H1=>td σ H1 fun x H2=>∃a o,x=.ref a/\DGet H2 a y o/\Q (.bl (!o.isSome)) H2
def znb (td ty tv:TE):TS:=fun D σ H=>tv σ H fun v H1=>td σ H1 fun x H2=>ty σ H2 fun y H3=>∃a H4,x=.ref a/\DPut H3 a y v H4/\D.nx σ H4
section
variable {X:Cx}{o i e value:Expr}{pos pos' tpos:Pos}{td ty tv:TE}
theorem zan (hu:X.A.units+1<cLine) (ho:PE X o td) (hi:PE X i ty) (hs:NoSl i):PE X (.Subscript o i pos) (zeN td ty):=by
 intro pins s σ H Q I h;refine zkv PySem.F.slot_dict_getitem.lookup hs (thn (ho pins s σ H _ I h) fun u s1 ⟨x,H1,I1,rx,q1⟩=>thn (hi pins s1 σ H1 _ I1 q1) fun iv s2 ⟨y,H2,I2,ry,a,v,ex,g,q2⟩=>?_);subst ex;obtain rfl:u=Value.ref a:=rx;exact⟨zeR I2 g,zic hu I2 g ry fun w' s3 I3 rw'=>⟨v,H2,I3,rw',q2⟩⟩
theorem zda (hu:X.A.units+1<cLine) (hi:PE X i ty) (ho:PE X o td):PC X .In i o (tDIn ty td):=by
 intro pins s σ H Q I h;refine thn (hi pins s σ H _ I h) fun iv s1 ⟨y,H1,I1,ry,q1⟩=>thn (ho pins s1 σ H1 _ I1 q1) fun u s2 ⟨x,H2,I2,rx,a,ov,ex,g,q2⟩=>?_;subst ex;obtain rfl:u=Value.ref a:=rx;exact d_in hu I2 g ry fun s3 I3=>⟨.bl ov.isSome,H2,I3,rfl,q2⟩
theorem zdX (hu:X.A.units+1<cLine) (hi:PE X i ty) (ho:PE X o td):PC X .NotIn i o (zg3 ty td):=by
 intro pins s σ H Q I h;refine thn (hi pins s σ H _ I h) fun iv s1 ⟨y,H1,I1,ry,q1⟩=>thn (ho pins s1 σ H1 _ I1 q1) fun u s2 ⟨x,H2,I2,rx,a,ov,ex,g,q2⟩=>?_;subst ex;obtain rfl:u=Value.ref a:=rx;exact zlK hu I2 g ry fun s3 I3=>⟨.bl (!ov.isSome),H2,I3,rfl,q2⟩
theorem zQ (hu:X.A.units+1<cLine) (ho:PE X o td) (hi:PE X i ty) (hv:PE X value tv) (hs:swapsWith value (some (.Subscript o i pos')) pos.line X.env=pure false) :
  PS X (.Assign [.Subscript o i pos'] value pos) (znb td ty tv):=by
 intro pins s σ H D I h;refine wpAny_Assign_Subscript (thn (hv pins s σ H _ I h) fun r s1 ⟨v,H1,I1,rv,q1⟩=>thn (ho pins s1 σ H1 _ I1 q1) fun u s2 ⟨x,H2,I2,rx,q2⟩=>thn (hi pins s2 σ H2 _ I2 q2) fun iv s3 ⟨y,H3,I3,ry,a,H4,ex,g,q3⟩=>?_) hs;subst ex;obtain rfl:u=Value.ref a:=rx;exact zhh hu I3 g ry rv fun s4 I4=>⟨σ,H4,I4,q3⟩
end
theorem ziR {P:Program}{w:World}{H:Hp} (h:Heap) (hb:sysModules<h.objs.size):zJ P w H (h.push { cls:=.type "dict",data:=.dict #[] }) h.objs.size (.dK []):=
 ⟨AO _,beq_eq_false_iff_ne.mpr (Ne.symm (AE hb)),[],.nil,Heap.DictOf.new h⟩
theorem zf0 {P:Program}{w:World}{H:Hp} (h:Heap) (hb:sysModules<h.objs.size):zJ P w H (h.push { cls:=.type "dict",data:=.dict #[] }) h.objs.size (.dT []):=
 ⟨AO _,beq_eq_false_iff_ne.mpr (Ne.symm (AE hb)),[],.nil,_,#[],0,Aq _ rfl,⟨rfl,rfl,rfl⟩,rfl,rfl,List.nodup_nil⟩
def zms:TE:=fun _ H Q=>∀p,H p=none->Q (.ref p) (upd H p (.dK []))
def zlU:TE:=fun _ H Q=>∀p,H p=none->Q (.ref p) (upd H p (.dT []))
section
variable {X:Cx}{pos:Pos}
theorem ziM:PE X (.Dict [] [] pos) zms:=fun pins s σ H Q I h=>
 wpAny_Dict_empty ⟨.ref s.heap.objs.size,_,I.laid (a:=s.heap.objs.size) (o:=.dK []) (t':=s.toks) (fun _ _ q=>Ae _ q) (Af _) (ziR s.heap I.big),rfl,h _ (I.hok.fresh (Af _))⟩
theorem zP:PE X (.Dict [] [] pos) zlU:=fun pins s σ H Q I h=>
 wpAny_Dict_empty ⟨.ref s.heap.objs.size,_,I.laid (a:=s.heap.objs.size) (o:=.dT []) (t':=s.toks) (fun _ _ q=>Ae _ q) (Af _) (zf0 s.heap I.big),rfl,h _ (I.hok.fresh (Af _))⟩
end
def zho:List (TE×TE)->St->Hp->(List (V×V)->Hp->Prop)->Prop
 | [],_,H,Q=>Q [] H
 | (tk,tv)::r,σ,H,Q=>tk σ H fun x H1=>tv σ H1 fun y H2=>zho r σ H2 fun ps H3=>Q ((x,y)::ps) H3
abbrev VV:List (V×V)->List (Value×Value)->Prop:=Paired fun p q=>RelV p.1 q.1/\RelV p.2 q.2
def PPs (X:Cx) (pos:Pos) (keys:List (Option Expr)) (values:List Expr) (trs:List (TE×TE)):Prop:=
 ∀(pins:List (Addr×Obj)) (s:Shared) (σ:St) (H:Hp) (Q:List (V×V)->Hp->Prop),Inv X pins σ H s->zho trs σ H Q->
  wpAny (model X.prog X.w) X.A (evalPairs (pairTrees keys values X.env pos)) (fun vs s'=>∃ps H',Inv X pins σ H' s'/\VV ps vs/\Q ps H') X.xe s
theorem zkt {X:Cx}{pos:Pos}:PPs X pos [] [] []:=fun pins s σ H Q I h=>pairTrees_nil_walk ⟨[],H,I,.nil,h⟩
theorem zjJ {X:Cx}{pos:Pos}{k v:Expr}{ks:List (Option Expr)}{vs:List Expr}{tk tv:TE}{trs:List (TE×TE)} (hk:PE X k tk) (hv:PE X v tv) (hr:PPs X pos ks vs trs) :
  PPs X pos (some k::ks) (v::vs) ((tk,tv)::trs):=fun pins s σ H Q I h=>
 pairTrees_cons_walk (thn (hk pins s σ H _ I h) fun u s1 ⟨x,H1,I1,rx,q1⟩=>thn (hv pins s1 σ H1 _ I1 q1) fun w2 s2 ⟨y,H2,I2,ry,q2⟩=>
  thn (hr pins s2 σ H2 _ I2 q2) fun ws s3 ⟨ps,H3,I3,rel,q3⟩=>⟨(x,y)::ps,H3,I3,.cons ⟨rx,ry⟩ rel,q3⟩)
structure M1 (X:Cx) (o:Expr) (m:Str) (apos:Pos) (e:Expr) (cpos:Pos):Prop where
 base:attributeBase o m X.env (eval o X.env)=eval o X.env
 few:((backTo cpos (starEach [e] X.env)).all (fun x=>!x.1) && (backToKw cpos (keywordEach [] X.env)).all (fun x=>x.1.isSome)
  && decide (([e]:List Expr).length+([]:List Keyword).length+(if ([]:List Keyword).isEmpty then 0 else 1)<30))=true
 line:(apos.endLine == cpos.line)=true
 trees:backTo cpos (starEach [e] X.env)=[(false,eval e X.env)]
structure M2 (X:Cx) (o:Expr) (m:Str) (apos:Pos) (e f:Expr) (cpos:Pos):Prop where
 base:attributeBase o m X.env (eval o X.env)=eval o X.env
 few:((backTo cpos (starEach [e,f] X.env)).all (fun x=>!x.1) && (backToKw cpos (keywordEach [] X.env)).all (fun x=>x.1.isSome)
  && decide (([e,f]:List Expr).length+([]:List Keyword).length+(if ([]:List Keyword).isEmpty then 0 else 1)<30))=true
 line:(apos.endLine == cpos.line)=true
 trees:backTo cpos (starEach [e,f] X.env)=[(false,eval e X.env),(false,eval f X.env)]
def IsD (H:Hp) (a:Addr):Prop:=(∃kvs,Rd H a (.dK kvs)) \/ ∃kvs,Rd H a (.dT kvs)
theorem zlY {X:Cx}{pins:List (Addr×Obj)}{σ:St}{H:Hp}{s:Shared}{a:Addr} (I:Inv X pins σ H s) (d:IsD H a) :
  s.TypeIs (.ref a) "dict"/\(∀b,Value.ref a=.ref b->∃ob,s.heap.get? b=some ob/\ob.dict=none)/\(a == sysModules)=false:=by
 rcases d with ⟨kvs,e⟩ | ⟨kvs,e⟩
 ·obtain⟨_,hd,vs,_,dd⟩:=zeY I.hok e
  refine⟨dd.typeIs,fun b q=>?_,hd⟩;cases q;obtain⟨ob,_,_,h1,h2,_⟩:=dd;exact⟨ob,h1,h2.2.1⟩
 ·obtain⟨_,hd,xs,_,dd⟩:=zfl I.hok e
  refine⟨dd.typeIs,fun b q=>?_,hd⟩;cases q;obtain⟨ob,_,_,h1,h2,_⟩:=dd;exact⟨ob,h1,h2.2.1⟩
section
variable {X:Cx}{pins:List (Addr×Obj)}{σ:St}{H:Hp}{s:Shared}{a:Addr}{y d:V}{u r:Value}{o:Option V}{A:Around}{E:Value->Shared->Prop}
theorem zmJ {Q:Value->Shared->Prop} (hu:A.units+1<cLine) (I:Inv X pins σ H s) (g:DGet H a y o) (ry:RelV y u) (rd:RelV d r) (h:∀w' s',Inv X pins σ H s'->RelV (o.getD d) w'->Q w' s') :
  wpAny (model X.prog X.w) A (call (.builtin "dict.get") [.ref a,u,r]) Q E s:=by
 rcases g with ⟨kvs,k,e,ey,l⟩ | ⟨kvs,k,b,e,ey,eb,l⟩
 ·subst ey
  obtain⟨z,hd,vs,rel,dd⟩:=zeY I.hok e;refine call_meetsIn PySem.F.slot_dict_get dd.typeIs PySem.F.entry_dict_get (PySem.F.args_dict_get_3 _ _ _) (meets_dict_get_default (zD X.prog X.w) a (zgE ry) hd r) ⟨_,dd.mapOf,h _ _ (I.tok _) ?_⟩;rw[l];exact (rel.val k).getD rd
 ·subst ey
  cases (show u=Value.ref b from ry);obtain⟨z,hd,xs,rel,dd⟩:=zfl I.hok e;refine call_meetsIn PySem.F.slot_dict_get dd.typeIs PySem.F.entry_dict_get (PySem.F.args_dict_get_3 _ _ _) (meetsH_dict_get_default (tupleKind (zD X.prog X.w)) a b hd r) ⟨tupleKind_room_in1 hu,k,xs,zb8 I.hok eb,dd,h _ _ (I.tok _) ?_⟩;rw[l];exact (rel.val k).getD rd
end
def zlW (td ty tx:TE):TE:=fun σ H Q=>td σ H fun x H1=>∃a,x=.ref a/\IsD H1 a/\ty σ H1 fun y H2=>tx σ H2 fun z H3=>∃o,DGet H3 a y o/\Q (o.getD z) H3
section
variable {X:Cx}{o e f:Expr}{apos cpos:Pos}{td ty tx:TE}
theorem zdF (hu:X.A.units+1<cLine) (ho:PE X o td) (he:PE X e ty) (hf:PE X f tx) (m:M2 X o "get" apos e f cpos):PE X (.Call (.Attribute o "get" apos) [e,f] [] cpos) (zlW td ty tx):=by
 intro pins s σ H Q I h;refine wpAny_Call_method m.base m.few m.line PySem.F.plainAttrs_dict PySem.F.slot_dict_get PySem.F.type_dict_get (thn (ho pins s σ H _ I h) fun u s1 ⟨x,H1,I1,rx,a,ex,d,q1⟩=>?_);subst ex;obtain rfl:u=Value.ref a:=rx;obtain⟨t1,t2,_⟩:=zlY I1 d;refine⟨t1,t2,?_⟩;rw[m.trees];refine Calls.callWith_builtin rfl (Calls.evalArgs_plain (Calls.spliced_cons (thn (he pins s1 σ H1 _ I1 q1) fun iv s2 ⟨y,H2,I2,ry,q2⟩=>
  Calls.spliced_cons (thn (hf pins s2 σ H2 _ I2 q2) fun fv s3 ⟨z,H3,I3,rz,ov,g,q3⟩=>Calls.spliced_nil ?_))))
 exact zmJ hu I3 g ry rz fun w' s4 I4 rw'=>⟨_,H3,I4,rw',q3⟩
end
section
variable {X:Cx}{pins:List (Addr×Obj)}{σ:St}{H:Hp}{s:Shared}{a:Addr}{kvs:List (Key×V)}{A:Around}{E:Value->Shared->Prop}
end
section
variable {X:Cx}{pins:List (Addr×Obj)}{σ:St}{H:Hp}{s:Shared}{a:Addr}{y:V}{u:Value}{A:Around}{E:Value->Shared->Prop}
end
end L2
namespace Att
open PySem PySem.W PySem.Calls PyProof.Rows
theorem zcE {P:Params}{h:Heap}:∀(ns:List Int) (vs:List Value),WellAll P h vs (ns.map WData.int)->IntsAre vs ns:=by
 intro ns
 induction ns with
 | nil=>
  intro vs w;rw[List.map_nil] at w;cases w;exact .nil
 | cons n ns ih=>
  intro vs w;rw[Av] at w;cases w with
  | cons a b=>
   cases a;exact .cons _ _ (ih _ b)
theorem zgP {l:OpenLaw}{n:Nat} (hn:l.most=some n) {P:Params}{h:Heap}{args:List WData}{vals:List Value}
  (hpre:l.row.toRowW.claim.pre args=true) (hwl:WellAll P h vals args) :
  ∃a vs ns,vals=[Value.ref a]/\args=[WData.list (ns.map WData.int)]/\h.get? a=some { cls:=.type "list",data:=.seq vs.toArray }/\IntsAre vs ns/\ns.length<=n:=by
 have hsh:WShape.hasAll [] args [.list .int]=true:=(pre_splitW hpre).1;have hc:l.pre.holds [] { args:=args }=true:=(pre_splitW hpre).2;obtain⟨d,r,rfl,h1,h2⟩:=hasAllW_cons hsh;obtain rfl:=hasAllW_nil h2;obtain⟨xs,rfl,h3⟩:=hasW_list h1;obtain⟨ns,rfl⟩:=items_int h3;have hlen:ns.length<=n:=by
  unfold OpenLaw.pre at hc;have h4:(WTm.not (.lt (.lit (.int (n:Int))) (.len (.arg 0)))).holds [] { args:=[.list (ns.map .int)] }=true:=by
   have h4:=(holds_andW hc).1;rw[hn] at h4;exact h4
  have h5:=condW_of h4 (w_not (w_lt w_lit (w_len_list (w_arg rfl))));rw[Ab] at h5;refine Nat.le_of_not_lt fun q=>?_;have q':(n:Int)<((ns.length:Nat):Int):=by omega
  first
   | (rw[decide_eq_true q'] at h5; exact absurd h5 (by decide))
   | (simp at h5; omega)
 cases hwl with
 | cons w1 w2=>
  cases w2;cases w1 with
  | list ho hall=>exact⟨_,_,ns,rfl,rfl,ho,zcE ns _ hall,hlen⟩
theorem zia (l:OpenLaw) (args:List WData):l.row.toRowW.claim.post args (.bool true) args=true:=
 postW_of (r:=l.row.toRowW) (X:=(true == true))
  (show WShape.has [] (.bool true) .bool=true by first | rfl | decide | simp[WShape.has,WShape.arms,WShape.armsAll])
  (show (WTm.eq .res (.lit (.bool true))).value [] { args:=args,res:=some (.bool true),after:=args }=some (.bool (true == true)) from w_eq_bool (w_res rfl) w_lit) rfl
theorem ze0 {l:OpenLaw}{n:Nat}{q:Program}{loose:List Str}{XP:(Str->Option Value)->Heap->Prop}{YP:World->Heap->Prop}{d:DefRec}
  (hn:l.most=some n) (hdf:d.params.defaults=[])
  (call:∀(w:World) (s₀ s₁:Shared) (mg mb:Str->Option Value) (fa:Addr) (o:Obj) (pm cd doc:Value) (a:Addr) (vs:List Value) (ns:List Int),
   Ground q loose [] XP w s₀ mg mb s₁.heap->YP w s₁.heap->
   s₁.heap.get? fa=some o->o.data=.func (docDef d.name d.params d.body d.scope pm cd doc)->s₁.heap.CodeRec cd d.name->mg d.name=some (.ref fa)->
   s₁.heap.get? a=some { cls:=.type "list",data:=.seq vs.toArray }->IntsAre vs ns->ns.length<=n->s₁.gens=#[]->
   codeAny (model l.prog w) callerA (.call (.ref fa) ⟨[.ref a],[]⟩) (fun r s'=>r=.ok (.ret (.bool true))/\OldK s₁.heap s'.heap/\s'.os=s₁.os/\AllBare s'.gens) s₁) :
  WalkO q loose XP YP l.row.toRowW d [] (fun f vs=>PySem.call f vs):=by
 intro w s₀ s₁ mg mb G Y fa o pm cd doc dV kV ho hd hcd hD hmg hg args vals as hpre hlay hrd hwl hlo;obtain rfl:dV=.none:=Dflts.none hD hdf;obtain rfl:kV=.none:=Dflts.noKw hD;obtain⟨a,vs,ns,rfl,rfl,hobj,hints,hlen⟩:=zgP hn hpre hwl;refine enter_call (codeAny_mono (call w s₀ s₁ mg mb fa o pm cd doc a vs ns G Y ho (fd_plain hd) hcd hmg hobj hints hlen hg) fun r s' hq=>?_);obtain⟨rfl,h2,h3,h4⟩:=hq;exact⟨.inl ⟨.bool true,.bool true,[],rfl,fun _=>rfl,.bool true,zia l _,fun _=>⟨List.Pairwise.nil,fun _ hm=>(nomatch hm)⟩⟩,h2,h3,h4⟩
section
variable {prog:Program}{w:World}{A:Around}{E:Value->Shared->Prop}{s:Shared}{K:Frag}
def ledger (h:Heap) (L d:Addr):List (Addr×Obj):=(A7 h.objs.size).filterMap fun a=>if a=L \/ a=d then none else (h.get? a).map fun o=>(a,o)
end
end Att
namespace L2
open PySem PySem.Spec PyProof.Rows
theorem zep:∀{vs:List Value}{ns:List Int},IntsAre vs ns->Vals (ns.map V.int) vs
 | _,_,.nil=>.nil
 | _,_,.cons n t h=>.cons ⟨t,rfl⟩ (zep h)
def Only (H:Hp):Prop:=∀b,H b=none \/ ∃o xs,H b=some (.frz o (.lst xs))
theorem zjk {P:Program}{w:World}{K:Ad}{mg mb:Str->Option Value}{CX:CXT}{k:Nat}{fa a:Addr}{fd:FuncData}{x:Str}{sp:Sp}{s₁:Shared}{vs:List Value}{ns:List Int}
  (KX:K.In s₁.heap) (hns:s₁.heap.Ns mainGlobals mg) (hb:s₁.heap.Ns builtinsNs mb) (hbb:∀x:Str,x≠"__name__"->mb x=AS x) (hlim:s₁.heap.NoLimit) (hg:s₁.gens=#[])
  (ha:s₁.heap.get? a=some { cls:=.type "list",data:=.seq vs.toArray }) (hi:IntsAre vs ns) (hl:ns.length<=sizeLine) (hr:Room k callerA)
  (F:∀base:Heap,K.In base->base.Ns mainGlobals mg->FnOk P w K mg base CX k fa fd [x] sp) (hbind:∀(s:Shared) (u:Value),BindsTo s fd ⟨[u],[]⟩ [(x,u)])
  (hsp:∀H:Hp,Only H->SqL K H a (ns.map V.int)->sp [.ref a] H (fun v _=>v=.bl true) fun _ _ _=>False)
  (hCX:∀H e s',CX [] H s₁ (fun _ _ _=>False) e s'->False) :
  codeAny (model P w) callerA (.call (.ref fa) ⟨[.ref a],[]⟩) (fun r s'=>r=.ok (.ret (.bool true))/\OldK s₁.heap s'.heap/\s'.os=s₁.os/\AllBare s'.gens) s₁:=by
 have rv:=zep hi;have lenV:=hi.length;have core:∀H:Hp,Only H->SqL K H a (ns.map V.int)->HOk P w H s₁.heap->(∀b,H b≠none->b=a)->(H a≠none->K.lookup a=none)->
   codeAny (model P w) callerA (.call (.ref fa) ⟨[.ref a],[]⟩) (fun r s'=>r=.ok (.ret (.bool true))/\OldK s₁.heap s'.heap/\s'.os=s₁.os/\AllBare s'.gens) s₁:=by
  intro H hO hS hok hA hK;have base_of:∀{b:Addr} {o:Obj},s₁.heap.get? b=some o->H b=none->(hidT s₁.heap H).get? b=some o:=fun e n=>ziO e n;have noA:∀{b:Addr} {o:Obj} {es:Array DictEntry} {ep:Nat},s₁.heap.get? b=some o->o.data=.dict es ep->H b=none:=fun {b o es ep} e d=>by
   cases q:H b with
   | none=>rfl
   | some u=>
    have e':b=a:=hA b (by rw[q]; simp);subst e';rw[ha] at e; cases e;have d':Data.seq vs.toArray _=Data.dict es ep:=d;cases d'
  have nsK:∀{b:Addr} {m:Str->Option Value},s₁.heap.Ns b m->(hidT s₁.heap H).Ns b m:=fun {b m} ⟨o,es,ep,e,d,r⟩=>⟨o,es,ep,base_of e (noA e d),d,r⟩;have hKb:K.In (hidT s₁.heap H):=fun b o e=>base_of (KX b o e) (by
   cases q:H b with
   | none=>rfl
   | some u=>
    have e':b=a:=hA b (by rw[q]; simp);subst e';rw[hK (by rw[q]; simp)] at e; cases e)
  have hM:Mod K mg (hidT s₁.heap H):=⟨hKb,nsK hns,⟨mb,nsK hb,hbb⟩,let ⟨mc,h1,h2⟩:=hlim; ⟨mc,nsK h1,h2⟩⟩;have e0:Env0 P w K mg (hidT s₁.heap H) callerA [] s₁ H:=⟨rfl,hM,fun b o e=>zlj e,Nat.le_of_eq (zih _ _),trivial,fun b hb=>absurd (show b∈([]:List Addr) from hb) (by simp),hok,.of_eq hg⟩;refine codeAny_mono ((F _ hKb (nsK hns)).run callerA [] s₁ H ⟨[.ref a],[]⟩ [.ref a] [.ref a] _ _ hr e0 (hbind s₁ (.ref a)) (.cons rfl .nil) (hsp H hO hS)) fun r s' h=>?_;cases r with
  | error e=>exact (hCX H e s' h).elim
  | ok fl=>
   cases fl with
   | next=>exact False.elim h
   | brk=>exact False.elim h
   | cont=>exact False.elim h
   | ret u=>
    obtain⟨v,H',os,bare,un,hok',r',q⟩:=h;have q':v=.bl true:=q;subst q';obtain rfl:u=Value.bool true:=r';refine⟨rfl,OldK.of_keep fun b o e=>?_,os,bare⟩;cases q:H b with
    | none=>exact un.keep b o e q (by intro z; exact absurd (show b∈([]:List Addr) from z) (by simp)) (by simp)
    | some u=>
     rcases hO b with z | ⟨ob,xs,z⟩
     ·rw[q] at z; cases z
     ·have z2:=un.frzs b ob _ z
      obtain⟨e1,_⟩:=hok b _ z;obtain⟨e2,_⟩:=hok' b _ z2;rw[e] at e1; cases e1;exact e2
 cases hk:K.lookup a with
 | some o=>
  have e:=KX a o hk;rw[ha] at e;cases e;refine core (fun _=>none) (fun _=>.inl rfl) (.inr ⟨_,vs.toArray,_,hk,rfl,rfl,rfl,by rw[Aj,lenV]; exact hl,by simpa using rv⟩) (fun b u z=>by have z':(none:Option HO)=some u:=z; cases z') (fun b z=>absurd rfl z) fun z=>absurd rfl z
 | none=>
  refine core (fun b=>if b=a then some (.frz { cls:=.type "list",data:=.seq vs.toArray } (.lst (ns.map V.int))) else none) (fun b=>?_) (.inl (.inr ⟨{ cls:=.type "list",data:=.seq vs.toArray },if_pos rfl⟩)) (fun b u z=>?_) (fun b z=>?_) fun _=>hk
  ·by_cases hb:b=a
   ·exact .inr ⟨_,_,if_pos hb⟩
   ·exact .inl (if_neg hb)
  ·by_cases hb:b=a
   ·have z':=(if_pos hb).symm.trans z
    cases z';subst hb;exact⟨ha,by rw[Ab]; exact hl,vs,_,rv,ha⟩
   ·have z':=(if_neg hb).symm.trans z
    cases z'
  ·by_cases hb:b=a
   ·exact hb
   ·exact absurd (if_neg hb) z
end L2
namespace L2
open PySem PySem.Spec PyProof.Rows
abbrev KOf {K:Ad}{h:Heap} (_:K.In h):Ad:=K
theorem zhp {l:PySem.W.OpenLaw}{n k:Nat}{q:Program}{loose:List Str}{XP:(Str->Option Value)->Heap->Prop}{YP:World->Heap->Prop}{d:DefRec}{K:Params->Ad}{CX:World->CXT}{sp:World->Sp}{x:Str}
  (hn:l.most=some n) (hn2:n<=sizeLine) (hdf:d.params.defaults=[]) (hr:Room k callerA)
  (hY:∀(w:World) (h:Heap),YP w h->(K w.params).In h)
  (F:∀(w:World) (mg:Str->Option Value) (fa:Addr) (h:Heap),(K w.params).In h->h.Ns mainGlobals mg->mg d.name=some (.ref fa)->
   ∃fd:FuncData,(∀(s:Shared) (u:Value),BindsTo s fd ⟨[u],[]⟩ [(x,u)])/\
    ∀base:Heap,(K w.params).In base->base.Ns mainGlobals mg->FnOk l.prog w (K w.params) mg base (CX w) k fa fd [x] (sp w))
  (hsp:∀(w:World) (H:Hp) (a:Addr) (ns:List Int),ns.length<=n->Only H->SqL (K w.params) H a (ns.map V.int)->sp w [.ref a] H (fun v _=>v=.bl true) fun _ _ _=>False)
  (hCX:∀(w:World) (H:Hp) (s:Shared) (e:Value) (s':Shared),CX w [] H s (fun _ _ _=>False) e s'->False) :
  PySem.W.WalkO q loose XP YP l.row.toRowW d [] (fun f vs=>PySem.call f vs):=by
 refine Att.ze0 hn hdf fun w s₀ s₁ mg mb fa o pm cd doc a vs ns G Y ho hd hcd hmg hobj hints hlen hg=>?_;have KX:=hY w _ Y;obtain⟨fd,hb,hF⟩:=F w mg fa _ KX G.T.g hmg;exact zjk KX G.T.g G.T.b G.T.builtins G.T.nolimit hg hobj hints (AG hlen hn2) hr hF hb (fun H hO hS=>hsp w H a ns hlen hO hS) fun H e s'=>hCX w H s₁ e s'
end L2
/- THE LAST THEOREM (shape; LID,My.* are yours):
  My.Adr: a structure of the addresses that your layer names (classes,functions); My.Txt K t: a structure (Prop) of the equations over K;
  My.txt_mk:{K} {implicit addresses ..} (e1:nsIn K mainGlobals "law"=some (some (.ref f))) (e2:K.lookup f=some ⟨oc,od,.func (fnOf "law" "law" params body scope dV kV doc pm an cdv ct),sl⟩) (e3:codeIn K cdv "law"=true) ..:∃t,My.Txt K t
set_option maxRecDepth 100000 in
set_option maxHeartbeats 0 in
theorem PySem.Challenge.cw_LID_holds:PySem.Challenge.rw_LID.Holds := by
 w_on; o_law; k_head; (case hw=>w_witness2)
 k_fill
 refine L2.zhp (l:=PySem.Challenge.rw_LID) (n:=63) (k:=40) (x:="script") (CX:=fun w=>..) (sp:=fun _=>My.sp_law) rfl (by decide) rfl ⟨rfl,by decide,by decide⟩ (fun w h Y=>PySem.W.kIn_of Y) ?F ?S ?C
 case F=>
  intro w mg fa h KX G hmg;have T:∃t,My.Txt (L2.KOf KX) t:=by
   dsimp only[L2.KOf]                          -- K must stand as «<heap const> w.params» for k_is
   refine' My.txt_mk ?e1 ?e2 ?e3 ..
   (case e1 => PySem.W.k_is)                    -- in the order: a name -> its address -> its object -> its parts
   (case e2=>PySem.W.k_is)
   ..
  obtain⟨t,T⟩:=T;have e0:=hmg.symm.trans (AB KX G T.law);cases e0                                       -- fa is the law's own address
  exact⟨_,fun s u => .of_eq rfl,fun base kb nb => My.law_fn T kb nb⟩     -- if «.of_eq rfl» comes too early: refine' ⟨_,?b,fun base kb nb => My.law_fn T kb nb⟩; exact fun s u => .of_eq rfl
 case S=>exact fun w H a ns hl hO hS=>..
 case C=>exact ..
(the tactic k_is has no namespace: write k_is) -/
namespace L2
open PySem PySem.Spec PyProof.Rows
def zr (s:Stmt):Arguments:=match s with
 | .FunctionDef _ a _ _ _ _ _ _ _ _=>a
 | _=>{ posonlyargs:=[],args:=[],vararg:=none,kwonlyargs:=[],kw_defaults:=[],kwarg:=none,defaults:=[] }
def zp (s:Stmt):List Stmt:=match s with
 | .FunctionDef _ _ b _ _ _ _ _ _ _=>b
 | _=>[]
def zh (s:Stmt):Scope:=match s with
 | .FunctionDef _ _ _ _ _ _ sc _ _ _=>sc
 | _=>{ kind:=.function,names:=[],isGenerator:=false,isCoroutine:=false }
abbrev CX0:CXT:=fun _ _ _ _ _ _=>False
abbrev E0:XK:=fun _ _ _=>False
theorem pass0 {X:Cx}:Passes CX0 X E0:=fun _ _ _ _ _ _ _ h=>h.elim
structure Fun (K:Ad) (x qual:Str) (st:Stmt) (f:Addr) (fd:FuncData):Prop where
 ex:∃(oc:Value) (od:Option Addr) (kV doc pm:Value) (an:Option Addr) (cdv ct:Value) (osl:Array (Option Value)),
  fd=AD x qual (zr st) (zp st) (zh st) .none kV doc pm an cdv ct/\K.lookup f=some ⟨oc,od,.func fd,osl⟩/\Az K cdv qual=true
 kp:Ay K (.ref f)=true
section
variable {P:Program}{w:World}{K:Ad}{mg:Str->Option Value}{base:Heap}
theorem Fun.ok {x qual:Str}{st:Stmt}{f:Addr}{fd:FuncData}{N ps:List Str}{k:Nat}{sp:Sp} (F:Fun K x qual st f fd) (S:zu N ps (zh st)) (len:∀vs H Q E,sp vs H Q E->vs.length=ps.length)
  (hbody:∀(cdv:Value) (A:Around) (outer:List Env) (s:Shared) (H:Hp) (vs:List V) (Q:VK) (E:XK),Room k (A.deeper (envOfC qual (zh st) s.heap.objs.size f cdv))->sp vs H Q E->
   ∃t,PSs (cxOf CX0 P w K mg base N qual (zh st) f cdv A outer s H E).nox (zp st) t/\t { nx:=fun _ H'=>Q .non H',rt:=Q } (start N vs) H):FnOk P w K mg base CX0 (k+1) f fd ps sp:=by
 obtain⟨oc,od,kV,doc,pm,an,cdv,ct,osl,rfl,lk,hcd⟩:=F.ex;refine zmW lk hcd S len fun A outer s H vs Q E hr hsp=>?_;obtain⟨t,h,q⟩:=hbody cdv A outer s H vs Q E hr hsp;exact⟨t,h.nox,q⟩
theorem Fun.binds {x qual:Str}{st:Stmt}{f:Addr}{fd:FuncData}{ps:List Str} (F:Fun K x qual st f fd)
  (h:∀(kV doc pm:Value) (an:Option Addr) (cdv ct:Value) (us:List Value),us.length=ps.length->bindArgs (AD x qual (zr st) (zp st) (zh st) .none kV doc pm an cdv ct) ⟨us,[]⟩=pure (ps.zip us)):Binds K fd ps []:=by
 obtain⟨oc,od,kV,doc,pm,an,cdv,ct,osl,rfl,lk,hcd⟩:=F.ex;exact .all (h kV doc pm an cdv ct)
theorem zI {x qual:Str}{st:Stmt}{f:Addr}{oc:Value}{od an:Option Addr}{osl:Array (Option Value)}{kV doc pm cdv ct:Value} (l:K.lookup f=some ⟨oc,od,.func (AD x qual (zr st) (zp st) (zh st) .none kV doc pm an cdv ct),osl⟩)
  (c:Az K cdv qual=true) (k:Ay K (.ref f)=true):Fun K x qual st f (AD x qual (zr st) (zp st) (zh st) .none kV doc pm an cdv ct):=⟨⟨oc,od,kV,doc,pm,an,cdv,ct,osl,rfl,l,c⟩,k⟩
end
theorem zbo {A:Around}{k:Nat} (hr:Room k A):A.units+1<cLine:=Nat.lt_of_le_of_lt (Nat.add_le_add_left (by decide:1<=64) _) hr.units
section
variable {X:Cx}
theorem pv (i:Nat) {x:Str}{pos:Pos} (hN:X.N[i]?=some x:=by rfl) (hv:Vis X.env.scope x:=by first | exact Or.inl rfl | exact Or.inr (Or.inl rfl) | exact Or.inr (Or.inr rfl)) (hd:(x == ("__debug__":Str))=false:=by decide)
  (hcd:(x == ("__classdict__":Str))=false:=by decide):PE X (.Name x pos) (tVar i):=zmA hN hv hd hcd
end
theorem iteF {A B:Prop} (h:B):if false=true then A else B:=by
 rw[if_neg AA];exact h
theorem iteT {A B:Prop} (h:A):if true=true then A else B:=by
 rw[if_pos rfl];exact h
theorem ite2 {c A B:Prop} [Decidable c] (h1:c->A) (h2:¬ c->B):if c then A else B:=by
 by_cases h:c
 ·rw[if_pos h]
  exact h1 h
 ·rw[if_neg h]
  exact h2 h
def Same (H H':Hp):Prop:=∀b o,H b=some o->H' b=some o
theorem Same.refl (H:Hp):Same H H:=fun _ _ h=>h
theorem Same.trans {H H1 H2:Hp} (a:Same H H1) (b:Same H1 H2):Same H H2:=fun c o h=>b c o (a c o h)
theorem Same.free {H H':Hp} (e:Same H H') {l:Addr} (h:H' l=Option.none):H l=Option.none:=by
 cases q:H l with
 | none=>rfl
 | some o=>
  rw[e l o q] at h;cases h
theorem Same.seq {K:Ad}{H H':Hp}{a:Addr}{xs:List V} (e:Same H H') (h:SqL K H a xs):SqL K H' a xs:=by
 rcases h with (h | ⟨o,h⟩) | h
 ·exact .inl (.inl (e _ _ h))
 ·exact .inl (.inr ⟨o,e _ _ h⟩)
 ·exact .inr h
section
variable {X:Cx}
end
section
variable {κ:Type} [DecidableEq κ]
theorem zjK {kvs:List (κ×V)}{k:κ} (h:valV kvs k=none):¬ k∈kvs.map (·.1):=by
 intro m;obtain⟨p,hp,e⟩:=List.mem_map.mp m;have q:(kvs.any fun kv=>decide (kv.1=k))=true:=List.any_eq_true.mpr ⟨p,hp,decide_eq_true e⟩;rw[zaw,h] at q;exact absurd q (by simp)
theorem zds {kvs:List (κ×V)}{k:κ}{v:V} (h:valV kvs k=some v):k∈kvs.map (·.1):=by
 have q:(kvs.any fun kv=>decide (kv.1=k))=true:=by
  rw[zaw,h]
  all_goals rfl
 obtain⟨p,hp,e⟩:=List.any_eq_true.mp q;exact List.mem_map.mpr ⟨p,hp,of_decide_eq_true e⟩
end
end L2
end
section
namespace Tim
open PySem PyProof.Rows
def R (ρ:Keyed->Int) (xs:Array Keyed) (i:Nat):Int:=match xs[i]? with
 | some p=>ρ p
 | none=>0
theorem zcX {ρ:Keyed->Int}{xs ys:Array Keyed}{i j:Nat} (h:xs[i]?=ys[j]?):R ρ xs i=R ρ ys j:=by unfold R; rw[h]
theorem R_at {ρ:Keyed->Int}{xs:Array Keyed}{i:Nat}{p:Keyed} (h:xs[i]?=some p):R ρ xs i=ρ p:=by unfold R; rw[h]
def Srt (ρ:Keyed->Int) (xs:Array Keyed) (lo hi:Nat):Prop:=∀i j,lo<=i->i<=j->j<hi->R ρ xs i<=R ρ xs j
def Dsc (ρ:Keyed->Int) (xs:Array Keyed) (lo hi:Nat):Prop:=∀i j,lo<=i->i<=j->j<hi->R ρ xs j<=R ρ xs i
theorem zdR {ρ:Keyed->Int}{xs:Array Keyed}{i j:Nat} (hj:j<=xs.size) (k:Nat) :
  R ρ (mirror xs i j ((j - i) / 2)) k=if i<=k/\k<j then R ρ xs (i+j - 1 - k) else R ρ xs k:=by
 have e:=getElem?_mirror_all (i:=i) hj k
 by_cases h1:i<=k/\k<j
 ·rw[if_pos h1] at e ⊢; exact zcX e
 ·rw[if_neg h1] at e ⊢; exact zcX e
theorem zae {ρ:Keyed->Int}{xs:Array Keyed}{i j:Nat} (hj:j<=xs.size) (heq:∀k,i<=k->k<j->R ρ xs k=R ρ xs (j - 1)) (k:Nat) :
  R ρ (mirror xs i j ((j - i) / 2)) k=R ρ xs k:=by
 rw[zdR hj];split
 ·rw[heq _ (by omega) (by omega),heq k (by omega) (by omega)]
 ·rfl
theorem zfP {ρ:Keyed->Int}{xs:Array Keyed}{src d:Nat} (hs:src<xs.size) (hd:d<=src) (k:Nat) :
  R ρ (bubble xs src d) k=if k=src - d then R ρ xs src else if src - d<k/\k<=src then R ρ xs (k - 1) else R ρ xs k:=by
 have e:=getElem?_bubble hs d hd k
 by_cases h1:k=src - d
 ·rw[if_pos h1] at e ⊢; exact zcX e
 ·rw[if_neg h1] at e ⊢
  by_cases h2:src - d<k/\k<=src
  ·rw[if_pos h2] at e ⊢; exact zcX e
  ·rw[if_neg h2] at e ⊢; exact zcX e
structure Cmp (prog:Program) (w:World) (A:Around) (s:Shared) (κ:SortKind) (a₀:Array Keyed) (ρ:Keyed->Int):Prop where
 lt:∀x y,x∈a₀.toList->y∈a₀.toList->∀(Q:Bool->Shared->Prop) (E:Value->Shared->Prop),Q (decide (ρ x<ρ y)) s->wpAny (model prog w) A (keyLt' κ x.1 y.1) Q E s
structure B (κ:SortKind) (a₀:Array Keyed) (st:SortSt):Prop where
 perm:(arrOf st).Perm a₀
 kind:kindOf st=κ
 failed:failedOf st=none
theorem B.size {κ:SortKind}{a₀:Array Keyed}{st:SortSt} (h:B κ a₀ st):(arrOf st).size=a₀.size:=h.perm.size_eq
theorem B.setArr {κ:SortKind}{a₀:Array Keyed}{st:SortSt} (h:B κ a₀ st) {xs:Array Keyed} (hp:xs.Perm (arrOf st)):B κ a₀ (setArr st xs):=⟨hp.trans h.perm,h.kind,h.failed⟩
theorem B.mem {κ:SortKind}{a₀:Array Keyed}{st:SortSt} (h:B κ a₀ st) {p:Keyed} (hp:p∈(arrOf st).toList):p∈a₀.toList:=(Array.perm_iff_toList_perm.mp h.perm).mem_iff.mp hp
theorem zjX {xs:Array Keyed}{i:Nat} (hi:i<xs.size):∃p,xs[i]?=some p/\p∈xs.toList:=⟨xs[i],getElem?_pos _ i hi,by simp⟩
structure Pre (lo:Nat) (st st':SortSt):Prop where
 arr:∀k,k<lo->(arrOf st')[k]?=(arrOf st)[k]?
 pend:pendingOf st'=pendingOf st
theorem Pre.refl {lo:Nat}{st:SortSt}:Pre lo st st:=⟨fun _ _=>rfl,rfl⟩
theorem Pre.trans {lo:Nat}{a b c:SortSt} (x:Pre lo a b) (y:Pre lo b c):Pre lo a c:=⟨fun k h=>(y.arr k h).trans (x.arr k h),y.pend.trans x.pend⟩
theorem Pre.mir {lo i j:Nat}{st:SortSt} (hj:j<=(arrOf st).size) (hi:lo<=i):Pre lo st (setArr st (mirror (arrOf st) i j ((j - i) / 2))):=
 ⟨fun k h=>by show (mirror _ _ _ _)[k]?=_; rw[getElem?_mirror_all hj,if_neg (by omega)],rfl⟩
theorem Pre.bub {lo src d:Nat}{st:SortSt} (hs:src<(arrOf st).size) (hd:d<=src) (hl:lo<=src - d):Pre lo st (setArr st (bubble (arrOf st) src d)):=
 ⟨fun k h=>by show (bubble _ _ _)[k]?=_; rw[getElem?_bubble hs d hd,if_neg (by omega),if_neg (by omega)],rfl⟩
section
variable {prog:Program}{w:World}{A:Around}{E:Value->Shared->Prop}{s:Shared}{κ:SortKind}{a₀:Array Keyed}{ρ:Keyed->Int}
theorem zni (C:Cmp prog w A s κ a₀ ρ) {st:SortSt} (hB:B κ a₀ st) {x y:Keyed} (hx:x∈a₀.toList) (hy:y∈a₀.toList) {Q:Option Bool->SortSt->Prop} (h:Q (some (decide (ρ x<ρ y))) st) :
  wpS (model prog w) A E s (lt' x y) Q st:=by
 rw[lt'_eq];refine wpS_bind (wpS_get ?_);rw[hB.kind];refine wpS_bind (wpS_lift (wpAny_attempt (C.lt x y hx hy _ _ ⟨rfl,?_⟩)));exact wpS_pure h
theorem zhO {st:SortSt}{xs:Array Keyed}{i:Nat}{p:Keyed} (h:xs[i]?=some p) {Q:Keyed->SortSt->Prop} (hq:Q p st):wpS (model prog w) A E s (elem' xs i) Q st:=by
 rw[elem'_eq,h];exact wpS_pure hq
theorem zcz (C:Cmp prog w A s κ a₀ ρ) {st:SortSt} (hB:B κ a₀ st) {i j:Nat} (hi:i<a₀.size) (hj:j<a₀.size) {Q:Option Bool->SortSt->Prop}
  (h:Q (some (decide (R ρ (arrOf st) i<R ρ (arrOf st) j))) st):wpS (model prog w) A E s (ltAt' i j) Q st:=by
 obtain⟨p,e1,m1⟩:=zjX (xs:=arrOf st) (i:=i) (by rw[hB.size]; exact hi);obtain⟨q,e2,m2⟩:=zjX (xs:=arrOf st) (i:=j) (by rw[hB.size]; exact hj);rw[ltAt'_eq];refine wpS_bind (wpS_get ?_);show wpS _ _ _ _ (do let x <- elem' (arrOf st) i; let y <- elem' (arrOf st) j; lt' x y) Q st;refine wpS_bind (zhO e1 (wpS_bind (zhO e2 (zni C hB (hB.mem m1) (hB.mem m2) ?_))));rw[R_at e1,R_at e2] at h;exact h
def asc (lo a nrem:Nat):StateT SortSt Sem AscSt:=
 forIn [a:nrem] ((none,a):AscSt) fun _ __s=>do
  let __x <- ltAt' (lo+__s.snd) (lo+__s.snd - 1)
  match __x with
  | some smaller=>if smaller=true then pure (ForInStep.done (none,__s.snd)) else pure (ForInStep.yield (none,__s.snd+1))
  | _=>pure (ForInStep.done (some none,__s.snd))
def tl3 (lo n nrem:Nat):StateT SortSt Sem (Option Nat):=do
 reverseSlice' lo (lo+n)
 let __s <- asc lo n nrem
 match __s.fst with
 | some r=>pure r
 | none=>pure (some __s.snd)
def dsc (lo n nrem:Nat):StateT SortSt Sem DescSt:=
 forIn [n:nrem] ((none,n,0):DescSt) fun _ __s=>do
  let __x <- ltAt' (lo+__s.snd.fst) (lo+__s.snd.fst - 1)
  match __x with
  | some smaller=>
   if smaller=true then
    if __s.snd.snd > 0 then do
     reverseSlice' (lo+__s.snd.fst - (__s.snd.snd+1)) (lo+__s.snd.fst)
     pure (ForInStep.yield (none,__s.snd.fst+1,0))
    else pure (ForInStep.yield (none,__s.snd.fst+1,0))
   else do
    let __x <- ltAt' (lo+__s.snd.fst - 1) (lo+__s.snd.fst)
    match __x with
    | some larger=>
     if larger=true then pure (ForInStep.done (none,__s.snd.fst,__s.snd.snd))
     else pure (ForInStep.yield (none,__s.snd.fst+1,__s.snd.snd+1))
    | _=>pure (ForInStep.done (some none,__s.snd.fst,__s.snd.snd))
  | _=>pure (ForInStep.done (some none,__s.snd.fst,__s.snd.snd))
def zhB (lo n nrem:Nat):StateT SortSt Sem (Option Nat):=do
 liftM (rule "list.sort.descending-run")
 let __s <- dsc lo (n+1) nrem
 match __s.fst with
 | some r=>pure r
 | none=>
  if __s.snd.snd > 0 then do
   reverseSlice' (lo+__s.snd.fst - (__s.snd.snd+1)) (lo+__s.snd.fst)
   tl3 lo __s.snd.fst nrem
  else tl3 lo __s.snd.fst nrem
theorem bindc {α β:Type}{m:StateT SortSt Sem α}{f g:α->StateT SortSt Sem β} (h:∀a,f a=g a):(m >>= f)=(m >>= g):=by
 have e:f=g:=funext h;rw[e]
theorem ze2 (lo nrem:Nat):countRun' lo nrem=(do
  let __s <- asc lo 1 nrem
  match __s.fst with
  | some r=>pure r
  | none=>
   if (__s.snd == nrem)=true then pure (some __s.snd)
   else if __s.snd > 1 then do
    let __x <- ltAt' lo (lo+__s.snd - 1)
    match __x with
    | some rose=>if rose=true then pure (some __s.snd) else do
      reverseSlice' lo (lo+__s.snd)
      zhB lo __s.snd nrem
    | _=>pure none
   else zhB lo __s.snd nrem):=by
 rw[countRun'_eq];unfold zhB tl3 dsc asc;refine bindc fun s1=>?_;obtain⟨r,n⟩:=s1;cases r with
 | some r=>rfl
 | none=>
  dsimp only;split
  ·rfl
  ·split
   ·refine bindc fun x=>?_
    cases x with
    | none=>rfl
    | some rose=>
     dsimp only;split
     ·rfl
     ·refine bindc fun _r=>bindc fun _u=>bindc fun s2=>?_
      obtain⟨r2,n2,q2⟩:=s2;cases r2 with
      | some r2=>rfl
      | none=>
       dsimp only;split
       ·refine bindc fun _v=>bindc fun _w=>bindc fun s3=>?_
        obtain⟨r3,n3⟩:=s3; cases r3 <;> rfl
       ·refine bindc fun _w=>bindc fun s3=>?_
        obtain⟨r3,n3⟩:=s3; cases r3 <;> rfl
   ·refine bindc fun _u=>bindc fun s2=>?_
    obtain⟨r2,n2,q2⟩:=s2;cases r2 with
    | some r2=>rfl
    | none=>
     dsimp only;split
     ·refine bindc fun _v=>bindc fun _w=>bindc fun s3=>?_
      obtain⟨r3,n3⟩:=s3; cases r3 <;> rfl
     ·refine bindc fun _w=>bindc fun s3=>?_
      obtain⟨r3,n3⟩:=s3; cases r3 <;> rfl
theorem zjS (C:Cmp prog w A s κ a₀ ρ) {st:SortSt}{lo a nrem:Nat}{Q:AscSt->SortSt->Prop} (hn:lo+nrem<=a₀.size) (ha:1<=a) (han:a<=nrem) (hB:B κ a₀ st) (hs:Srt ρ (arrOf st) lo (lo+a))
  (h:∀n,a<=n->n<=nrem->Srt ρ (arrOf st) lo (lo+n)->(n=nrem \/ R ρ (arrOf st) (lo+n)<R ρ (arrOf st) (lo+n - 1))->Q (none,n) st) :
  wpS (model prog w) A E s (asc lo a nrem) Q st:=by
 unfold asc;refine wpS_forRange (I:=fun x c st'=>st'=st/\c=(none,x)/\Srt ρ (arrOf st) lo (lo+x)) ?step ?fin ⟨rfl,rfl,hs⟩
 case fin=>
  rintro c st' ⟨rfl,rfl,hs'⟩;rw[show max a nrem=nrem by omega] at hs' ⊢;exact h nrem han (Af _) hs' (.inl rfl)
 case step=>
  rintro x c st' hax hxn ⟨rfl,rfl,hs'⟩;dsimp only;refine wpS_bind (zcz C hB (by omega) (by omega) ?_)
  by_cases hless:R ρ (arrOf st') (lo+x)<R ρ (arrOf st') (lo+x - 1)
  ·simp only[hless,decide_true,if_true]
   exact wpS_pure (h x hax (by omega) hs' (.inr hless))
  ·simp only[hless,decide_false,As,if_false]
   refine wpS_pure ⟨rfl,rfl,fun i j hl hij hj=>?_⟩
   by_cases hjx:j<lo+x
   ·exact hs' i j hl hij hjx
   ·have hj':j=lo+x:=by omega
    subst hj'
    by_cases hi':i=lo+x
    ·subst hi'; exact Int.le_refl _
    ·exact Int.le_trans (hs' i (lo+x - 1) hl (by omega) (by omega)) (Int.not_lt.mp hless)
theorem zfC {st:SortSt}{i j:Nat}{Q:Unit->SortSt->Prop} (h:Q () (setArr st (mirror (arrOf st) i j ((j - i) / 2)))):wpS (model prog w) A E s (reverseSlice' i j) Q st:=by
 rw[reverseSlice'_eq]; exact wpS_modify h
abbrev Got (κ:SortKind) (a₀:Array Keyed) (ρ:Keyed->Int) (lo nrem:Nat) (st:SortSt) (Q:Option Nat->SortSt->Prop):Prop:=
 ∀m st',B κ a₀ st'->Pre lo st st'->1<=m->m<=nrem->Srt ρ (arrOf st') lo (lo+m)->Q (some m) st'
theorem zjT (C:Cmp prog w A s κ a₀ ρ) {st st₀:SortSt}{lo n nrem:Nat}{Q:Option Nat->SortSt->Prop} (hn:lo+nrem<=a₀.size) (h1:1<=n) (hnn:n<=nrem) (hB:B κ a₀ st) (hP:Pre lo st₀ st)
  (hs:Dsc ρ (arrOf st) lo (lo+n)) (h:Got κ a₀ ρ lo nrem st₀ Q):wpS (model prog w) A E s (tl3 lo n nrem) Q st:=by
 unfold tl3;have hsz:lo+n<=(arrOf st).size:=by rw[hB.size]; omega
 refine wpS_bind (zfC ?_);have hB':B κ a₀ (setArr st (mirror (arrOf st) lo (lo+n) ((lo+n - lo) / 2))):=hB.setArr (mirror_perm _ _ _ _);refine wpS_bind (zjS C hn h1 hnn hB' ?_ fun m hm1 hm2 hsm _=>wpS_pure (h m _ hB' (hP.trans (.mir hsz (Af _))) (by omega) hm2 hsm));intro i j hl hij hj;show R ρ (mirror (arrOf st) lo (lo+n) ((lo+n - lo) / 2)) i<=R ρ (mirror (arrOf st) lo (lo+n) ((lo+n - lo) / 2)) j;rw[zdR hsz,zdR hsz,if_pos (by omega),if_pos (by omega)];exact hs _ _ (by omega) (by omega) (by omega)
theorem zmn (C:Cmp prog w A s κ a₀ ρ) {st st₀:SortSt}{lo n nrem:Nat}{Q:DescSt->SortSt->Prop} (hn:lo+nrem<=a₀.size) (h1:1<=n) (hnn:n<=nrem) (hB:B κ a₀ st) (hP:Pre lo st₀ st)
  (hs:Dsc ρ (arrOf st) lo (lo+n))
  (h:∀m neq st',B κ a₀ st'->Pre lo st₀ st'->n<=m->m<=nrem->Dsc ρ (arrOf st') lo (lo+m)->neq+1<=m->(∀i,lo+m - (neq+1)<=i->i<lo+m->R ρ (arrOf st') i=R ρ (arrOf st') (lo+m - 1))->Q (none,m,neq) st') :
  wpS (model prog w) A E s (dsc lo n nrem) Q st:=by
 unfold dsc;refine wpS_forRange (I:=fun x c st'=>∃neq,c=(none,x,neq)/\B κ a₀ st'/\Pre lo st₀ st'/\Dsc ρ (arrOf st') lo (lo+x)/\neq+1<=x/\
   (∀i,lo+x - (neq+1)<=i->i<lo+x->R ρ (arrOf st') i=R ρ (arrOf st') (lo+x - 1))) ?step ?fin ⟨0,rfl,hB,hP,hs,by omega,fun i h1 h2=>by congr 1; omega⟩
 case fin=>
  rintro c st' ⟨neq,rfl,hB',hP',hs',hq,he⟩;rw[show max n nrem=nrem by omega] at hs' hq he ⊢;exact h nrem neq st' hB' hP' hnn (Af _) hs' hq he
 case step=>
  rintro x c st' hax hxn ⟨neq,rfl,hB',hP',hs',hq,he⟩;dsimp only;have hsz:lo+x<=(arrOf st').size:=by rw[hB'.size]; omega
  refine wpS_bind (zcz C hB' (by omega) (by omega) ?_)
  by_cases hless:R ρ (arrOf st') (lo+x)<R ρ (arrOf st') (lo+x - 1)
  ·simp only[hless,decide_true,if_true]
   have step1:∀xs:Array Keyed,(∀k,R ρ xs k=R ρ (arrOf st') k)->Dsc ρ xs lo (lo+(x+1)):=by
    intro xs hk i j hl hij hj;rw[hk,hk]
    by_cases hjx:j<lo+x
    ·exact hs' i j hl hij hjx
    ·have hj':j=lo+x:=by omega
     subst hj'
     by_cases hi':i=lo+x
     ·subst hi'; exact Int.le_refl _
     ·exact Int.le_trans (Int.le_of_lt hless) (hs' i (lo+x - 1) hl (by omega) (by omega))
   by_cases hneq:neq > 0
   ·rw[if_pos hneq]
    refine wpS_bind (zfC (wpS_pure ⟨0,rfl,hB'.setArr (mirror_perm _ _ _ _),hP'.trans (.mir hsz (by omega)),step1 _ (zae hsz he),by omega,fun i h1 h2=>by congr 1; omega⟩))
   ·rw[if_neg hneq]
    exact wpS_pure ⟨0,rfl,hB',hP',step1 _ (fun _=>rfl),by omega,fun i h1 h2=>by congr 1; omega⟩
  ·simp only[hless,decide_false,As,if_false]
   refine wpS_bind (zcz C hB' (by omega) (by omega) ?_)
   by_cases hlarger:R ρ (arrOf st') (lo+x - 1)<R ρ (arrOf st') (lo+x)
   ·simp only[hlarger,decide_true,if_true]
    exact wpS_pure (h x neq st' hB' hP' hax (by omega) hs' hq he)
   ·simp only[hlarger,decide_false,As,if_false]
    have heqx:R ρ (arrOf st') (lo+x)=R ρ (arrOf st') (lo+x - 1):=by omega
    refine wpS_pure ⟨neq+1,rfl,hB',hP',fun i j hl hij hj=>?_,by omega,fun i h1 h2=>?_⟩
    ·by_cases hjx:j<lo+x
     ·exact hs' i j hl hij hjx
     ·have hj':j=lo+x:=by omega
      subst hj'
      by_cases hi':i=lo+x
      ·subst hi'; exact Int.le_refl _
      ·rw[heqx]; exact hs' i (lo+x - 1) hl (by omega) (by omega)
    ·rw[show lo+(x+1) - 1=lo+x by omega]
     by_cases hix:i=lo+x
     ·subst hix; rfl
     ·rw[heqx]; exact he i (by omega) (by omega)
theorem zfB (C:Cmp prog w A s κ a₀ ρ) {st st₀:SortSt}{lo n nrem:Nat}{Q:Option Nat->SortSt->Prop} (hn:lo+nrem<=a₀.size) (hnn:n+1<=nrem) (hB:B κ a₀ st) (hP:Pre lo st₀ st)
  (hs:Dsc ρ (arrOf st) lo (lo+(n+1))) (h:Got κ a₀ ρ lo nrem st₀ Q):wpS (model prog w) A E s (zhB lo n nrem) Q st:=by
 unfold zhB;refine wpS_bind (wpS_lift (wpAny_rule ⟨rfl,?_⟩));refine wpS_bind (zmn C hn (by omega) hnn hB hP hs fun m neq st' hB' hP' hm1 hm2 hs' hq he=>?_);dsimp only;have hsz:lo+m<=(arrOf st').size:=by rw[hB'.size]; omega
 by_cases hneq:neq > 0
 ·rw[if_pos hneq]
  refine wpS_bind (zfC (zjT C hn (by omega) hm2 (hB'.setArr (mirror_perm _ _ _ _)) (hP'.trans (.mir hsz (by omega))) ?_ h));intro i j hl hij hj;show R ρ (mirror (arrOf st') _ _ _) j<=R ρ (mirror (arrOf st') _ _ _) i;rw[zae hsz he,zae hsz he];exact hs' i j hl hij hj
 ·rw[if_neg hneq]
  exact zjT C hn (by omega) hm2 hB' hP' hs' h
theorem zeZ (C:Cmp prog w A s κ a₀ ρ) {st:SortSt}{lo nrem:Nat}{Q:Option Nat->SortSt->Prop} (hn:lo+nrem<=a₀.size) (h1:1<=nrem) (hB:B κ a₀ st)
  (h:Got κ a₀ ρ lo nrem st Q):wpS (model prog w) A E s (countRun' lo nrem) Q st:=by
 rw[ze2];refine wpS_bind (zjS C hn (Af 1) h1 hB (fun i j hl hij hj=>by have:i=j:=(by omega); subst this; exact Int.le_refl _) fun n hn1 hn2 hsn hor=>?_);dsimp only
 by_cases hnn:n=nrem
 ·rw[if_pos (by simpa using hnn)]
  exact wpS_pure (h n st hB .refl hn1 hn2 hsn)
 ·rw[if_neg (by simpa using hnn)]
  have hlt:R ρ (arrOf st) (lo+n)<R ρ (arrOf st) (lo+n - 1):=hor.resolve_left hnn
  by_cases hgt:n > 1
  ·rw[if_pos hgt]
   refine wpS_bind (zcz C hB (by omega) (by omega) ?_)
   by_cases hrose:R ρ (arrOf st) lo<R ρ (arrOf st) (lo+n - 1)
   ·simp only[hrose,decide_true,if_true]
    exact wpS_pure (h n st hB .refl hn1 hn2 hsn)
   ·simp only[hrose,decide_false,As,if_false]
    have hsz:lo+n<=(arrOf st).size:=by rw[hB.size]; omega
    have hall:∀k,lo<=k->k<lo+n->R ρ (arrOf st) k=R ρ (arrOf st) (lo+n - 1):=by
     intro k hl hk;have a1:=hsn lo k (by omega) hl hk;have a2:=hsn k (lo+n - 1) hl (by omega) (by omega);omega
    refine wpS_bind (zfC (zfB C hn (by omega) (hB.setArr (mirror_perm _ _ _ _)) (.mir hsz (Af _)) ?_ h));intro i j hl hij hj;show R ρ (mirror (arrOf st) _ _ _) j<=R ρ (mirror (arrOf st) _ _ _) i;rw[zae hsz hall,zae hsz hall]
    by_cases hjn:j<lo+n
    ·rw[hall i (by omega) (by omega),hall j (by omega) hjn]; exact Int.le_refl _
    ·have hj':j=lo+n:=by omega
     subst hj'
     by_cases hi':i=lo+n
     ·subst hi'; exact Int.le_refl _
     ·rw[hall i (by omega) (by omega)]; exact Int.le_of_lt hlt
  ·rw[if_neg hgt]
   have hn1':n=1:=by omega
   subst hn1';refine zfB C hn (by omega) hB .refl ?_ h;intro i j hl hij hj
   by_cases hi':i=j
   ·subst hi'; exact Int.le_refl _
   ·have hi0:i=lo:=by omega
    have hj1:j=lo+1:=by omega
    subst hi0; subst hj1;exact Int.le_of_lt hlt
theorem zdC (C:Cmp prog w A s κ a₀ ρ) {st:SortSt}{lo n ok:Nat}{Q:Bool->SortSt->Prop} (hn:lo+n<=a₀.size) (hok:ok<=n) (hB:B κ a₀ st) (hs:Srt ρ (arrOf st) lo (lo+ok))
  (h:∀st',B κ a₀ st'->Pre lo st st'->Srt ρ (arrOf st') lo (lo+n)->Q true st'):wpS (model prog w) A E s (binarySort' lo n ok) Q st:=by
 rw[binarySort'_eq];refine wpS_bind (wpS_mono (wpS_forRange (I:=fun k c st'=>c=(none,())/\B κ a₀ st'/\Pre lo st st'/\Srt ρ (arrOf st') lo (lo+min k n))
  (Q:=fun c st'=>c=(none,())/\B κ a₀ st'/\Pre lo st st'/\Srt ρ (arrOf st') lo (lo+n)) ?step ?fin ?init) ?post)
 case post=>
  rintro c st' ⟨rfl,hB',hP',hs'⟩;exact wpS_pure (h st' hB' hP' hs')
 case init=>
  refine⟨rfl,hB,.refl,fun i j hl hij hj=>?_⟩
  by_cases h1:ok=0
  ·have:i=j:=by omega
   subst this; exact Int.le_refl _
  ·exact hs i j hl hij (by omega)
 case fin=>
  rintro c st' ⟨hc,hB',hP',hs'⟩;refine⟨hc,hB',hP',?_⟩
  rwa [show min (max (max ok 1) n) n=n by omega] at hs'
 case step=>
  rintro k c st' hak hkn ⟨rfl,hB',hP',hs'⟩;rw[show min k n=k by omega] at hs';have hk:lo+k<a₀.size:=by omega
  refine wpS_bind (wpS_mono (wpS_forRange (I:=fun x c st''=>st''=st'/\∃l r,c=(none,l,r)/\l<=r/\r<=k/\r - l<=k - x/\
    (∀i,i<l->R ρ (arrOf st') (lo+i)<=R ρ (arrOf st') (lo+k))/\(∀i,r<=i->i<k->R ρ (arrOf st') (lo+k)<R ρ (arrOf st') (lo+i)))
   (Q:=fun c st''=>st''=st'/\∃l r,c=(none,l,r)/\l<=k/\
    (∀i,i<l->R ρ (arrOf st') (lo+i)<=R ρ (arrOf st') (lo+k))/\(∀i,l<=i->i<k->R ρ (arrOf st') (lo+k)<R ρ (arrOf st') (lo+i))) ?istep ?ifin ?iinit) ?ipost)
  case iinit=>exact⟨rfl,0,k,rfl,by omega,by omega,by omega,fun i hi=>by omega,fun i h1 h2=>by omega⟩
  case ifin=>
   rintro c st'' ⟨rfl,l,r,rfl,hlr,hrk,hm,hlo,hhi⟩;have:l=r:=by omega
   subst this;exact⟨rfl,l,l,rfl,hrk,hlo,hhi⟩
  case istep=>
   rintro x c st'' _ hxk ⟨rfl,l,r,rfl,hlr,hrk,hm,hlo,hhi⟩;dsimp only
   by_cases hge:l ≥ r
   ·rw[if_pos hge]
    have:l=r:=by omega
    subst this;exact wpS_pure ⟨rfl,l,l,rfl,hrk,hlo,hhi⟩
   ·rw[if_neg hge]
    refine wpS_bind (zcz C hB' hk (by omega) ?_)
    by_cases hless:R ρ (arrOf st'') (lo+k)<R ρ (arrOf st'') (lo+(l+r) / 2)
    ·simp only[hless,decide_true,if_true]
     refine wpS_pure ⟨rfl,l,(l+r) / 2,rfl,by omega,by omega,by omega,hlo,fun i h1 h2=>?_⟩;exact Int.lt_of_lt_of_le hless (hs' _ _ (by omega) (by omega) (by omega))
    ·simp only[hless,decide_false,As,if_false]
     refine wpS_pure ⟨rfl,(l+r) / 2+1,r,rfl,by omega,by omega,by omega,fun i h1=>?_,hhi⟩;exact Int.le_trans (hs' (lo+i) (lo+(l+r) / 2) (by omega) (by omega) (by omega)) (Int.not_lt.mp hless)
  case ipost=>
   rintro c st'' ⟨rfl,l,r,rfl,hlk,hlo,hhi⟩;show wpS _ _ _ _ (do moveDown' (lo+k) (lo+l); pure (ForInStep.yield (none,()))) _ _;rw[moveDown'_eq];have hks:lo+k<(arrOf st'').size:=by rw[hB'.size]; exact hk
   refine wpS_bind (wpS_modify (wpS_pure ⟨rfl,hB'.setArr (bubble_perm _ _ _),hP'.trans (.bub hks (by omega) (by omega)),?_⟩));rw[show min (k+1) n=k+1 by omega];intro i j hl hij hj;show R ρ (bubble (arrOf st'') (lo+k) (lo+k - (lo+l))) i<=R ρ (bubble (arrOf st'') (lo+k) (lo+k - (lo+l))) j;rw[zfP hks (by omega),zfP hks (by omega),show lo+k - (lo+k - (lo+l))=lo+l by omega];have q1:∀i,lo<=i->i<lo+l->R ρ (arrOf st'') i<=R ρ (arrOf st'') (lo+k):=fun i h1 h2=>by
    have:=hlo (i - lo) (by omega); rwa [show lo+(i - lo)=i by omega] at this
   have q2:∀i,lo+l<=i->i<lo+k->R ρ (arrOf st'') (lo+k)<R ρ (arrOf st'') i:=fun i h1 h2=>by
    have:=hhi (i - lo) (by omega) (by omega); rwa [show lo+(i - lo)=i by omega] at this
   repeat' split
   all_goals first
    | (exfalso; omega)
    | exact Int.le_refl _
    | exact q1 _ (by omega) (by omega)
    | exact Int.le_of_lt (q2 _ (by omega) (by omega))
    | exact hs' _ _ (by omega) (by omega) (by omega)
end
end Tim
end
section
namespace Tim
open PySem PyProof.Rows
section
variable {prog:Program}{w:World}{A:Around}{E:Value->Shared->Prop}{s:Shared}{κ:SortKind}{a₀:Array Keyed}{ρ:Keyed->Int}
theorem zeV (C:Cmp prog w A s κ a₀ ρ) {st:SortSt}{Q:Unit->SortSt->Prop} (hB:B κ a₀ st) (hp:pendingOf st=#[]) (h1:1<=a₀.size) (h64:a₀.size<64)
  (h:∀st',B κ a₀ st'->Srt ρ (arrOf st') 0 a₀.size->Q () st'):wpS (model prog w) A E s sortRuns' Q st:=by
 rw[sortRuns'_eq];refine wpS_bind (wpS_get ?_);dsimp only;have hmr:minRun' a₀.size a₀.size 0=a₀.size:=by
  obtain⟨f,hf⟩:∃f,a₀.size=f+1:=⟨a₀.size - 1,by omega⟩;have:minRun' (f+1) a₀.size 0=a₀.size:=by rw[minRun'_succ,if_pos h64]; rfl
  rwa [<- hf] at this
 simp only[hB.size,hmr];refine wpS_bind (wpS_mono (wpS_forRange
  (I:=fun x c st'=>(x=0/\c=(none,0)/\B κ a₀ st'/\pendingOf st'=#[]) \/ (1<=x/\c=(none,a₀.size)/\B κ a₀ st'/\(pendingOf st').size<=1/\Srt ρ (arrOf st') 0 a₀.size))
  (Q:=fun c st'=>c=(none,a₀.size)/\B κ a₀ st'/\(pendingOf st').size<=1/\Srt ρ (arrOf st') 0 a₀.size) ?step ?fin (.inl ⟨rfl,rfl,hB,hp⟩)) ?post)
 case fin=>
  rintro c st' (⟨hx,_,_⟩ | ⟨_,hc,hD⟩)
  ·omega
  ·exact⟨hc,hD⟩
 case step=>
  rintro x c st' _ hx (⟨rfl,rfl,hB',hp'⟩ | ⟨hx1,rfl,hD⟩)
  ·dsimp only
   rw[if_neg (by omega)];simp only[Nat.sub_zero,Nat.min_self];refine wpS_bind (zeZ C (by omega) (by omega) hB' fun m st2 hB2 P2 m1 m2 sr2=>?_);dsimp only;have tl:∀st3,B κ a₀ st3->pendingOf st3=#[]->Srt ρ (arrOf st3) 0 a₀.size->B κ a₀ (setPending st3 ((pendingOf st3).push (0,a₀.size,0)))/\(pendingOf (setPending st3 ((pendingOf st3).push (0,a₀.size,0)))).size<=1/\Srt ρ (arrOf (setPending st3 ((pendingOf st3).push (0,a₀.size,0)))) 0 a₀.size:=
    fun st3 b p q=>⟨⟨b.perm,b.kind,b.failed⟩,by show ((pendingOf st3).push _).size<=1; rw[p]; exact Af 1,q⟩
   by_cases hlt:m<a₀.size
   ·rw[if_pos hlt]
    refine wpS_bind (wpS_lift (wpAny_rule ⟨rfl,?_⟩));refine wpS_bind (zdC C (by omega) m2 hB2 sr2 fun st3 hB3 P3 sr3=>?_);simp only[Bool.not_true,As,if_false];refine wpS_bind (wpS_get ?_);have hp3:pendingOf st3=#[]:=by rw[P3.pend,P2.pend]; exact hp'
    have hb:(pendingOf st3).back?=none:=by rw[hp3]; rfl
    rw[hb];dsimp only;simp only[Nat.zero_add] at sr3 ⊢;exact wpS_bind (wpS_modify (wpS_pure (.inr ⟨by omega,rfl,tl st3 hB3 hp3 sr3⟩)))
   ·rw[if_neg hlt]
    have hm:m=a₀.size:=by omega
    subst hm;refine wpS_bind (wpS_get ?_);have hp2:pendingOf st2=#[]:=by rw[P2.pend]; exact hp'
    have hb:(pendingOf st2).back?=none:=by rw[hp2]; rfl
    rw[hb];dsimp only;simp only[Nat.zero_add] at sr2 ⊢;exact wpS_bind (wpS_modify (wpS_pure (.inr ⟨by omega,rfl,tl st2 hB2 hp2 sr2⟩)))
  ·dsimp only
   rw[if_pos (Af _)];exact wpS_pure ⟨rfl,hD⟩
 case post=>
  rintro c st' ⟨rfl,hB',hs1,sr⟩;dsimp only;refine wpS_bind (wpS_mono (wpS_forRange (I:=fun _ c st''=>st''=st'/\c=(none,())) (Q:=fun c st''=>st''=st'/\c=(none,())) ?_ (fun _ _ hh=>hh) ⟨rfl,rfl⟩) ?_)
  ·rintro x c st'' _ _ ⟨rfl,rfl⟩
   refine wpS_bind (wpS_get ?_);rw[if_pos hs1];exact wpS_pure ⟨rfl,rfl⟩
  ·rintro c st'' ⟨rfl,rfl⟩
   exact wpS_pure (h _ hB' sr)
end
end Tim
end
section
namespace Srt
open PySem PyProof.Rows HT
theorem zfj:∀a:List Int,lexLt a a=false
 | []=>rfl
 | x::a=>by rw[zT,if_pos rfl]; exact zfj a
theorem zaM:∀{a b c:List Int},lexLt a b=true->lexLt b c=true->lexLt a c=true
 | [],[],_,h,_=>by cases h
 | [],_::_,[],_,h=>by cases h
 | [],_::_,_::_,_,_=>rfl
 | _::_,[],_,h,_=>by cases h
 | _::_,_::_,[],_,h=>by cases h
 | x::a,y::b,z::c,h1,h2=>by
  rw[zT] at h1 h2 ⊢
  by_cases e1:x=y
  ·rw[if_pos e1] at h1
   by_cases e2:y=z
   ·rw[if_pos e2] at h2
    rw[if_pos (e1.trans e2)];exact zaM h1 h2
   ·rw[if_neg e2] at h2
    rw[if_neg (by omega)];have:=of_decide_eq_true h2;exact decide_eq_true (by omega)
  ·rw[if_neg e1] at h1
   have q1:=of_decide_eq_true h1
   by_cases e2:y=z
   ·rw[if_neg (by omega)]
    exact decide_eq_true (by omega)
   ·rw[if_neg e2] at h2
    have q2:=of_decide_eq_true h2;rw[if_neg (by omega)];exact decide_eq_true (by omega)
theorem zhj:∀{a b:List Int},lexLt a b=false->lexLt b a=false->a=b
 | [],[],_,_=>rfl
 | [],_::_,h,_=>by cases h
 | _::_,[],_,h=>by cases h
 | x::a,y::b,h1,h2=>by
  rw[zT] at h1 h2
  by_cases e:x=y
  ·subst e
   rw[if_pos rfl] at h1 h2;rw[zhj h1 h2]
  ·rw[if_neg e] at h1
   rw[if_neg (Ne.symm e)] at h2;have:=of_decide_eq_false h1;have:=of_decide_eq_false h2;omega
def rk (ls:List (List Int)) (l:List Int):Int:=((ls.filter fun m=>lexLt m l).length:Nat)
theorem zlZ {ls:List (List Int)}{l m:List Int} (hl:l∈ls) (hm:m∈ls):decide (rk ls l<rk ls m)=lexLt l m:=by
 have mono:∀{a b:List Int},(∀x,lexLt x a=true->lexLt x b=true)->∀k:List (List Int),(k.filter fun x=>lexLt x a).length<=(k.filter fun x=>lexLt x b).length:=by
  intro a b hab k
  induction k with
  | nil=>exact Af _
  | cons x k ih=>
   rw[List.filter_cons,List.filter_cons]
   by_cases q:lexLt x a=true
   ·rw[if_pos q,if_pos (hab x q),Aw,Aw]; omega
   ·rw[if_neg q]
    split
    ·rw[Aw]; omega
    ·exact ih
 have strict:∀{a b:List Int},(∀x,lexLt x a=true->lexLt x b=true)->lexLt a b=true->∀k:List (List Int),a∈k->(k.filter fun x=>lexLt x a).length<(k.filter fun x=>lexLt x b).length:=by
  intro a b hab h k
  induction k with
  | nil=>intro q; cases q
  | cons x k ih=>
   intro hk;rw[List.filter_cons,List.filter_cons];rcases List.mem_cons.mp hk with e | e
   ·subst e
    rw[if_neg (by rw[zfj]; exact AA),if_pos h,Aw];have:=mono hab k;omega
   ·have:=ih e
    by_cases q:lexLt x a=true
    ·rw[if_pos q,if_pos (hab x q),Aw,Aw]; omega
    ·rw[if_neg q]
     split
     ·rw[Aw]; omega
     ·exact this
 unfold rk;cases q:lexLt l m with
 | true=>
  have:=strict (a:=l) (b:=m) (fun x hx=>zaM hx q) q ls hl;exact decide_eq_true (by omega)
 | false=>
  have:=mono (a:=m) (b:=l) (fun x hx=>by
   cases z:lexLt x l with
   | true=>rfl
   | false=>
    cases z2:lexLt l x with
    | true=>rw[zaM z2 hx] at q; cases q
    | false=>rw[zhj z z2] at hx; rw[hx] at q; cases q) ls
  exact decide_eq_false (by omega)
structure By (prog:Program) (w:World) (A:Around) (good:Heap->Prop) (us:List Value) (ls:List (List Int)):Prop where
 len:us.length=ls.length
 fn:∀(i j:Nat) u l m,us[i]?=some u->us[j]?=some u->ls[i]?=some l->ls[j]?=some m->l=m
 ask:2<=us.length->∃κ:SortKind,(∀(s:Shared) (Q:SortKind->Shared->Prop) (E:Value->Shared->Prop),good s.heap->Q κ s->wpAny (model prog w) A (keyKind' us.toArray) Q E s)/\
  ∀(i j:Nat) u v l m,us[i]?=some u->us[j]?=some v->ls[i]?=some l->ls[j]?=some m->∀(s:Shared) (Q:Bool->Shared->Prop) (E:Value->Shared->Prop),good s.heap->Q (lexLt l m) s->wpAny (model prog w) A (keyLt' κ u v) Q E s
open Classical in
noncomputable def lof (us:List Value) (ls:List (List Int)) (u:Value):List Int:=if h:∃l,∃i:Nat,us[i]?=some u/\ls[i]?=some l then h.choose else []
theorem zen {us:List Value}{ls:List (List Int)} (fn:∀(i j:Nat) u l m,us[i]?=some u->us[j]?=some u->ls[i]?=some l->ls[j]?=some m->l=m) {i:Nat}{u:Value}{l:List Int} (h1:us[i]?=some u) (h2:ls[i]?=some l):lof us ls u=l:=by
 unfold lof;have h:∃l,∃i:Nat,us[i]?=some u/\ls[i]?=some l:=⟨l,i,h1,h2⟩;rw[dif_pos h];obtain⟨j,e1,e2⟩:=h.choose_spec;exact fn j i u _ l e1 h1 e2 h2
noncomputable def zgl (us:List Value) (ls:List (List Int)) (p:Keyed):Int:=rk ls (lof us ls p.1)
section
variable {prog:Program}{w:World}{A:Around}{E:Value->Shared->Prop}{s:Shared}{good:Heap->Prop}{us vs:List Value}{ls:List (List Int)}
theorem zfx (h:us.length=vs.length) {p:Keyed} (hp:p∈(us.toArray.zip vs.toArray).toList):∃i:Nat,us[i]?=some p.1/\vs[i]?=some p.2:=by
 have e:(us.toArray.zip vs.toArray).toList=us.zip vs:=by simp
 rw[e] at hp;obtain⟨i,hi,e2⟩:=List.mem_iff_getElem.mp hp;rw[List.getElem_zip] at e2;rw[List.length_zip] at hi;refine⟨i,?_,?_⟩
 ·rw[Ai (by omega),<- e2]
 ·rw[Ai (by omega),<- e2]
theorem zmo (B:By prog w A good us ls) (hl:us.length=vs.length) (hg:good s.heap) {κ:SortKind} (h2:2<=us.length) (h64:us.length<64)
  (hk:∀(i j:Nat) u v l m,us[i]?=some u->us[j]?=some v->ls[i]?=some l->ls[j]?=some m->∀(s:Shared) (Q:Bool->Shared->Prop) (E:Value->Shared->Prop),good s.heap->Q (lexLt l m) s->wpAny (model prog w) A (keyLt' κ u v) Q E s)
  {Q:Unit->SortSt->Prop} (h:∀st',(arrOf st').Perm (us.toArray.zip vs.toArray)->failedOf st'=none->Tim.Srt (zgl us ls) (arrOf st') 0 vs.length->Q () st') :
  wpS (model prog w) A E s sortRuns' Q (SortSt.mk' κ (us.toArray.zip vs.toArray) #[] 7 none):=by
 have hz:(us.toArray.zip vs.toArray).size=vs.length:=by simp; omega
 refine Tim.zeV (κ:=κ) (a₀:=us.toArray.zip vs.toArray) (ρ:=zgl us ls) ⟨fun x y hx hy Q' E' hq=>?_⟩ ⟨Array.Perm.refl _,rfl,rfl⟩ rfl (by rw[hz]; omega) (by rw[hz]; omega) fun st' b sr=>h st' b.perm b.failed (by rw[<- hz]; exact sr);obtain⟨i,e1,_⟩:=zfx hl hx;obtain⟨j,e2,_⟩:=zfx hl hy;have hi:i<ls.length:=by rw[<- B.len]; exact (List.getElem?_eq_some_iff.mp e1).1
 have hj:j<ls.length:=by rw[<- B.len]; exact (List.getElem?_eq_some_iff.mp e2).1
 have f1:ls[i]?=some ls[i]:=Ai hi;have f2:ls[j]?=some ls[j]:=Ai hj;refine hk i j _ _ _ _ e1 e2 f1 f2 s Q' E' hg ?_;unfold zgl at hq;rw[zen B.fn e1 f1,zen B.fn e2 f2,zlZ (List.getElem_mem hi) (List.getElem_mem hj)] at hq;exact hq
theorem zipget {α β:Type}:∀(l:List α) (m:List β) (i:Nat),(l.zip m)[i]?=(l[i]?).bind fun x=>(m[i]?).map fun y=>(x,y)
 | [],m,i=>by simp
 | x::l,[],i=>by cases h:(x::l)[i]? <;> simp
 | x::l,y::m,0=>rfl
 | x::l,y::m,i+1=>by
  rw[List.zip_cons_cons,List.getElem?_cons_succ,List.getElem?_cons_succ,List.getElem?_cons_succ];exact zipget l m i
theorem zlV (B:By prog w A good us ls) (hl:us.length=vs.length) {xs:Array Keyed} (hp:xs.Perm (us.toArray.zip vs.toArray)) (hs:Tim.Srt (zgl us ls) xs 0 vs.length) :
  ∃ps:List (List Int×Value),ps.Perm (ls.zip vs)/\xs.toList.map (·.2)=ps.map (·.2)/\ps.Pairwise fun (a b:List Int×Value)=>HT.lexLt b.1 a.1=false:=by
 have pl:xs.toList.Perm (us.zip vs):=by
  have:=Array.perm_iff_toList_perm.mp hp
  simpa using this
 refine⟨xs.toList.map fun p=>(lof us ls p.1,p.2),?_,by rw[Ap]; rfl,?_⟩
 ·have e:(us.zip vs).map (fun p:Keyed=>(lof us ls p.1,p.2))=ls.zip vs:=by
   apply List.ext_getElem?;intro i;rw[Al,zipget,zipget];cases e1:us[i]? with
   | none=>
    have:ls[i]?=none:=List.getElem?_eq_none (by rw[<- B.len]; exact List.getElem?_eq_none_iff.mp e1);rw[this]; rfl
   | some u=>
    have hi:i<ls.length:=by rw[<- B.len]; exact (List.getElem?_eq_some_iff.mp e1).1
    have f1:ls[i]?=some ls[i]:=Ai hi;rw[f1];cases e2:vs[i]? with
    | none=>rfl
    | some v=>
     show some (lof us ls u,v)=some (ls[i],v);rw[zen B.fn e1 f1]
  rw[<- e];exact pl.map _
 ·rw[List.pairwise_map,List.pairwise_iff_getElem]
  intro i j hi hj hij;have hsz:xs.size=vs.length:=by
   have:=pl.length_eq;rw[A0,List.length_zip] at this;omega
  rw[A0] at hi hj;have q:=hs i j (AO _) (Nat.le_of_lt hij) (by omega);have a1:xs[i]?=some xs[i]:=getElem?_pos xs i hi;have a2:xs[j]?=some xs[j]:=getElem?_pos xs j hj;rw[Tim.R_at a1,Tim.R_at a2] at q;simp only[Array.getElem_toList];obtain⟨i',g1,_⟩:=zfx hl (p:=xs[i]) (by
   have:=pl.mem_iff.mp (show xs[i]∈xs.toList by simp)
   simpa using this)
  obtain⟨j',g2,_⟩:=zfx hl (p:=xs[j]) (by
   have:=pl.mem_iff.mp (show xs[j]∈xs.toList by simp)
   simpa using this)
  have hi':i'<ls.length:=by rw[<- B.len]; exact (List.getElem?_eq_some_iff.mp g1).1
  have hj':j'<ls.length:=by rw[<- B.len]; exact (List.getElem?_eq_some_iff.mp g2).1
  have f1:ls[i']?=some ls[i']:=Ai hi';have f2:ls[j']?=some ls[j']:=Ai hj';unfold zgl at q;rw[zen B.fn g1 f1,zen B.fn g2 f2] at q ⊢;have:=zlZ (ls:=ls) (List.getElem_mem hj') (List.getElem_mem hi');rw[<- this];exact decide_eq_false (by omega)
end
end Srt
end
section
namespace Srt
open PySem PyProof.Rows PySem.W
section
variable {prog:Program}{w:World}{A:Around}{E:Value->Shared->Prop}{s:Shared}{good:Heap->Prop}{us vs:List Value}{ls:List (List Int)}
theorem zkG {ns:List Int} (hi:IntsAre us ns):By prog w A (fun _=>True) us (ns.map fun n=>[n]):=by
 have hlen:=hi.length;have at_:∀(i:Nat) u l,us[i]?=some u->(ns.map fun n=>[n])[i]?=some l->∃n t,u=.int n t/\l=[n]:=fun i u l h1 h2=>by
  obtain⟨t,e⟩:=IntsAre.int_at hi i u h1;rw[Al] at h2;cases e2:ns[i]? with
  | none=>rw[e2] at h2; cases h2
  | some n=>
   rw[e2] at h2;have e3:ns.getD i 0=n:=by rw[List.getD_eq_getElem?_getD,e2]; rfl
   rw[e3] at e;exact⟨n,t,e,(Ao h2).symm⟩
 refine⟨by rw[Ab,hlen],fun i j u l m h1 h2 h3 h4=>?_,fun h2=>⟨oneType',fun s Q E _ hq=>?_,fun i j u v l m h1 h2 h3 h4 s Q E _ hq=>?_⟩⟩
 ·obtain⟨n,t,e1,rfl⟩:=at_ i u l h1 h3
  obtain⟨n',t',e2,rfl⟩:=at_ j u m h2 h4;rw[e1] at e2;cases e2
  rfl
 ·match us,hi,h2 with
  | [],_,h2=>simp at h2
  | [_],_,h2=>simp at h2
  | v₁::v₂::rest,hi,_=>
   rw[keyKind_ints hi];exact Ac hq
 ·obtain⟨n,t,rfl,rfl⟩:=at_ i u l h1 h3
  obtain⟨n',t',rfl,rfl⟩:=at_ j v m h2 h4;refine kat_lt_int ?_;have:HT.lexLt [n] [n']=decide (n<n'):=by
   rw[HT.zT]
   by_cases e:n=n'
   ·rw[if_pos e,HT.zbF]; exact (decide_eq_false (by omega)).symm
   ·rw[if_neg e]
  rw[this] at hq;exact hq
def IsPr (h:Heap) (u:Value) (l:List Int):Prop:=∃(a b:Addr) (n:Int) (t:Tok) (its:List Value) (ps:List Int),u=.ref a/\l=n::ps/\IsTup h a #[.int n t,.ref b]/\IsTup h b its.toArray/\IntsAre its ps
theorem IsTup.inj {h:Heap}{a:Addr}{xs ys:Array Value} (h1:IsTup h a xs) (h2:IsTup h a ys):xs=ys:=by
 obtain⟨o,e,_,n,d⟩:=h1;obtain⟨o',e',_,n',d'⟩:=h2;rw[e] at e'; cases e';rw[d] at d';injection d'
theorem IntsAre.inj {vs:List Value}{ns ms:List Int} (h:IntsAre vs ns) (g:IntsAre vs ms):ns=ms:=by
 induction h generalizing ms with
 | nil=>cases g; rfl
 | cons n t h ih=>cases g with | cons _ _ h'=>rw[ih h']
theorem IsPr.inj {h:Heap}{u:Value}{l m:List Int} (h1:IsPr h u l) (h2:IsPr h u m):l=m:=by
 obtain⟨a,b,n,t,its,ps,rfl,rfl,t1,t2,i1⟩:=h1;obtain⟨a',b',n',t',its',ps',e,rfl,t1',t2',i1'⟩:=h2;cases e;have:=Srt.IsTup.inj t1 t1';cases this;have e2:=Srt.IsTup.inj t2 t2';have e3:its=its':=by simpa using e2
 subst e3;rw[IntsAre.inj i1 i1']
theorem znk {x y:Value}{l m:List Int}{Q:Bool->Shared->Prop} (h1:IsPr s.heap x l) (h2:IsPr s.heap y m) (hu:A.units<cLine) (hq:Q (HT.lexLt l m) s):wpAny (model prog w) A (keyLt' (tuples' true) x y) Q E s:=by
 obtain⟨a,b,n,t,its,ps,rfl,rfl,t1,t2,i1⟩:=h1;obtain⟨a',b',n',t',its',ps',rfl,rfl,t1',t2',i1'⟩:=h2;obtain⟨o,e,hc,k,d⟩:=id t1;obtain⟨o',e',hc',k',d'⟩:=id t1';refine kat_lt e d e' d' ?_;show KatLex prog w A true (decide (2<2)) Q [(.int n t,.int n' t'),(.ref b,.ref b')] 0 s;rw[HT.zT] at hq;refine kat_cons (wpAny_mono (SeqAt.EqAt.int_int n t n' t' prog w (fun _ _=>False) _ ⟨rfl,rfl⟩:wpAny (model prog w) A (eqBool (.int n t) (.int n' t')) (fun e s'=>e=(n == n')/\s'=s) (fun _ _=>False) s) (fun e1 s1 he=>?_) fun _ _ z=>z);obtain⟨rfl,rfl⟩:=he
 by_cases en:n=n'
 ·have eb:(n == n')=true:=by simpa using en
  rw[eb];rw[if_pos en] at hq;refine kat_yes (kat_cons ?_);have ktup:∀{c:Addr} {cs:List Value} {qs:List Int},IsTup s1.heap c cs.toArray->IntsAre cs qs->AT (L2.zD prog w) s1.heap (qs.map Sum.inl) c:=fun {c cs qs} hc hi=>by
   obtain⟨o,e,hcl,k,d⟩:=hc;refine⟨o,cs.toArray,k,e,hcl,d,?_⟩;have:∀{cs:List Value} {qs:List Int},IntsAre cs qs->ItemsAre (L2.zD prog w) (qs.map Sum.inl) cs:=by
    intro cs qs hi
    induction hi with
    | nil=>exact .nil
    | cons n t h ih=>exact .cons (L2.zbv prog w n t) ih
   simpa using this hi
  refine wpAny_eqBool_tuple (knd:=L2.zD prog w) hu (ktup t2 i1) (ktup t2' i1') ?_
  by_cases ep:ps=ps'
  ·subst ep
   rw[decide_eq_true rfl];rw[zfj] at hq;exact kat_yes (kat_nil hq)
  ·have:¬ (ps.map Sum.inl:List L2.Key)=ps'.map Sum.inl:=fun z=>ep (List.map_inj_right (f:=(Sum.inl:Int->L2.Key)) (fun x y h=>Sum.inl.inj h) |>.mp z)
   rw[decide_eq_false this];refine kat_no ?_;show wpAny (model prog w) A (oneLt' false (.ref b) (.ref b')) Q (fun _ _=>False) s1;exact kat_one _ _ (HT.zgq t2 t2' (by simpa using i1) (by simpa using i1') hu hq)
 ·have eb:(n == n')=false:=by simpa using en
  rw[eb];rw[if_neg en] at hq;refine kat_no ?_;show wpAny (model prog w) A (oneLt' true (.int n t) (.int n' t')) Q (fun _ _=>False) s1;exact oneLt_int hq
theorem zif {h:Heap}:∀{us:List Value}{ls:List (List Int)},us.length=ls.length->(∀(i:Nat) u l,us[i]?=some u->ls[i]?=some l->IsPr h u l)->∃fs,KatTups h us fs/\fs.length=us.length/\∀f∈fs,∃n t,f=Value.int n t
 | [],[],_,_=>⟨[],.nil,rfl,fun f hf=>nomatch hf⟩
 | u::us,l::ls,hl,hp=>by
  obtain⟨fs,a1,a2,a3⟩:=zif (us:=us) (ls:=ls) (by simpa using hl) fun i u l h1 h2=>hp (i+1) u l (by simpa using h1) (by simpa using h2);obtain⟨a,b,n,t,its,ps,rfl,rfl,t1,t2,i1⟩:=hp 0 u l rfl rfl;obtain⟨o,e,hc,k,d⟩:=id t1;refine⟨.int n t::fs,.cons e hc d rfl a1,by simp[a2],fun f hf=>?_⟩;rcases List.mem_cons.mp hf with rfl | hf
  ·exact⟨n,t,rfl⟩
  ·exact a3 f hf
 | [],_::_,h,_=>by simp at h
 | _::_,[],h,_=>by simp at h
theorem zkk (hl:us.length=ls.length) (hu:A.units<cLine) (hg:∃h,good h) (hp:∀h,good h->∀(i:Nat) u l,us[i]?=some u->ls[i]?=some l->IsPr h u l):By prog w A good us ls:=by
 refine⟨hl,fun i j u l m h1 h2 h3 h4=>?_,fun h2=>⟨tuples' true,fun s Q E gs hq=>?_,fun i j u v l m h1 h2 h3 h4 s Q E gs hq=>?_⟩⟩
 ·obtain⟨h,gh⟩:=hg
  exact (hp h gh i u l h1 h3).inj (hp h gh j u m h2 h4)
 ·obtain⟨fs,a1,a2,a3⟩:=zif hl (hp _ gs)
  refine kat_kind (T:=.type "int") a1 (by omega) (fun f hf=>?_) (by decide) hq;obtain⟨n,t,rfl⟩:=a3 f hf;exact Looks.of_pure rfl
 ·exact znk (hp _ gs i u l h1 h3) (hp _ gs j v m h2 h4) hu hq
end
end Srt
end
section
namespace Srt
open PySem PyProof.Rows PySem.W
def Out (ls:List (List Int)) (vs out:List Value):Prop:=∃ps:List (List Int×Value),ps.Perm (ls.zip vs)/\out=ps.map (·.2)/\ps.Pairwise fun (a b:List Int×Value)=>HT.lexLt b.1 a.1=false
section
variable {prog:Program}{w:World}{A:Around}{E:Value->Shared->Prop}{s:Shared}{good:Heap->Prop}{us vs:List Value}{ls:List (List Int)}
theorem zhJ (hl:ls.length=vs.length) (hu:us.length=vs.length) (h2:vs.length<2):Out ls vs ((us.toArray.zip vs.toArray).map (·.2)).toList:=by
 have e:((us.toArray.zip vs.toArray).map (·.2)).toList=vs:=by
  rw[Array.toList_map,show (us.toArray.zip vs.toArray).toList=us.zip vs by simp,List.map_snd_zip (by omega)]
 rw[e];refine⟨ls.zip vs,List.Perm.refl _,by rw[List.map_snd_zip (by omega)],?_⟩;have hz:(ls.zip vs).length<2:=by rw[List.length_zip]; omega
 match ls.zip vs,hz with
 | [],_=>exact List.Pairwise.nil
 | [x],_=>simp
 | _::_::_,h=>simp only[Aw] at h; omega
theorem zf2 (B:By prog w A good us ls) (hl:us.length=vs.length) (h64:vs.length<64) (hg:good s.heap) {P:PySem.Fin->Shared->Prop}{G:Unit×SortSt->Sem PySem.Fin}
  (h:∀st',Out ls vs ((arrOf st').map (·.2)).toList->(arrOf st').size=vs.length->failedOf st'=none->wpAny (model prog w) A (G (PUnit.unit,st')) P E s) :
  wpAny (model prog w) A (if vs.toArray.size<2 then (pure general' >>= fun kind=>(if vs.toArray.size<2 then pure () else sortRuns').run (SortSt.mk' kind (us.toArray.zip vs.toArray) #[] 7 none) >>= G)
   else (keyKind' us.toArray >>= fun kind=>(if vs.toArray.size<2 then pure () else sortRuns').run (SortSt.mk' kind (us.toArray.zip vs.toArray) #[] 7 none) >>= G)) P E s:=by
 have hzs:(us.toArray.zip vs.toArray).size=vs.length:=by rw[Array.size_zip,Aj,Aj]; omega
 by_cases h2:vs.toArray.size<2
 ·rw[if_pos h2]
  refine Aa (Ac ?_);rw[if_pos h2];rw[StateT.run_pure];refine Aa (Ac ?_)
  try dsimp only
  rw[Aj] at h2;exact h (SortSt.mk' general' (us.toArray.zip vs.toArray) #[] 7 none) (zhJ (by rw[<- B.len]; exact hl) hl h2) hzs rfl
 ·rw[if_neg h2,if_neg h2]
  rw[Aj] at h2;obtain⟨κ,k1,k2⟩:=B.ask (by omega);refine Aa (k1 s _ E hg ?_);refine Aa (wpAny_mono (zmo (Q:=fun _ st'=>(arrOf st').Perm (us.toArray.zip vs.toArray)/\failedOf st'=none/\Tim.Srt (zgl us ls) (arrOf st') 0 vs.length) B hl hg (by omega) (by omega) k2 fun st' a1 a2 a3=>⟨a1,a2,a3⟩) ?_ fun _ _ e=>e);rintro⟨⟨⟩,st'⟩ s' ⟨rfl,hp,hf,hs⟩
  try dsimp only
  exact h st' (by
   obtain⟨ps,a1,a2,a3⟩:=zlV B hl hp hs;exact⟨ps,a1,by rw[Array.toList_map]; exact a2,a3⟩) (by rw[hp.size_eq]; exact hzs) hf
theorem zej {a:Addr}{n:Nat}{P:PySem.Fin->Shared->Prop} (ho:s.heap.get? a=some (seqObj "list" vs.toArray n)) (B:By prog w A good vs ls)
  (hg:∀h',(∀b o,b≠a->s.heap.get? b=some o->h'.get? b=some o)->good h') (hz:vs.length<=sizeLine) (h64:vs.length<64)
  (h:∀out:Array Value,Out ls vs out.toList->P (.done (.ret .none)) { s with heap:=sortedHeap s.heap a vs out }) :
  wpAny (model prog w) A (Builtin.«list.sort» ⟨[.ref a],[]⟩) P E s:=by
 rw[list_sort_plain];have ha:a<s.heap.objs.size:=Au ho;refine Aa (listItems_at ho rfl ?_);refine Aa (listUpdate_at ho rfl ?_ (by rw[Aj]; exact hz) (AO _));obtain⟨e1,ho1⟩:∃e1,(s.heap.update a (AK fun _=>#[])).get? a=some (seqObj "list" #[] e1):=⟨_,get?_update_seq ho (fun _=>#[])⟩;refine Aa (seqEpoch_at ho1 rfl ?_);refine Aa (wpAny_newTuple ?_ (by show vs.length<=_; exact hz));refine Aa (wpAny_newList ?_ (AO _));refine AW ?_;have ho6:(((s.heap.update a (AK fun _=>#[])).push (seqObj "tuple" vs.toArray 0)).push (seqObj "list" #[] 0)).get? a=some (seqObj "list" #[] e1):=by
  rw[Heap.get?_push_ne _ _ _ (by rw[size_push',Heap.size_update]; exact AE (Nat.lt_succ_of_lt ha)),Heap.get?_push_ne _ _ _ (by rw[Heap.size_update]; exact AE ha)];exact ho1
 show wpAny (model prog w) A _ P E { s with heap:=((s.heap.update a (AK fun _=>#[])).push (seqObj "tuple" vs.toArray 0)).push (seqObj "list" #[] 0) };dsimp only;refine zf2 (s:={ s with heap:=((s.heap.update a (AK fun _=>#[])).push (seqObj "tuple" vs.toArray 0)).push (seqObj "list" #[] 0) }) B rfl h64 (hg _ fun b o hb e=>Ae _ (Ae _ (by rw[Heap.get?_update_ne _ _ _ _ hb]; exact e))) fun st' ho hsz hf=>?_;dsimp only;refine Aa (seqEpoch_at ho6 rfl ?_);refine Aa (listUpdate_at ho6 rfl ?_ (AO _) (AG (Nat.le_of_eq ((Array.size_map ..).trans hsz)) (Nat.le_succ_of_le hz)));rw[hf];simp only[bne_self_eq_false,As,if_false];exact Ac (h _ ho)
theorem zeJ {l:Addr}{Q:Value->Shared->Prop} (hl:s.heap.IsList l vs.toArray) (B:By prog w A.in1.in1 good vs ls)
  (hg:∀h',(∀b o,s.heap.get? b=some o->h'.get? b=some o)->good h') (hz:vs.length<=sizeLine) (h64:vs.length<64)
  (h:∀out:Array Value,Out ls vs out.toList->Q (.ref (s.heap.objs.size+1)) { s with heap:=sortedAll s.heap vs out }) :
  wpAny (model prog w) A (call (.builtin "sorted") [.ref l]) Q E s:=by
 refine Calls.call_function_entry kind_sorted plain_sorted entry_sorted (args_sorted1 _) ?_;unfold Builtin.«sorted»;refine Aa (m:=checkCount "sorted" 1 1 _) (Ac ?_);refine Aa (collect_list hl ?_ hz);refine Aa (wpAny_newList ?_ hz);have hsz:((s.heap.push (seqObj "list" #[] 0)).update s.heap.objs.size (AK (·++vs.toArray))).objs.size=s.heap.objs.size+1:=by
  rw[Heap.size_update,size_push']
 have hoL:(((s.heap.push (seqObj "list" #[] 0)).update s.heap.objs.size (AK (·++vs.toArray))).push (seqObj "list" vs.toArray 0)).get? (s.heap.objs.size+1)=some (seqObj "list" vs.toArray 0):=by
  rw[<- hsz]; exact Aq _ rfl
 have keep:∀b o,s.heap.get? b=some o->(((s.heap.push (seqObj "list" #[] 0)).update s.heap.objs.size (AK (·++vs.toArray))).push (seqObj "list" vs.toArray 0)).get? b=some o:=fun b o q=>by
  have hlt:b<s.heap.objs.size:=Au q;rw[Heap.get?_push_ne _ _ _ (by rw[hsz]; exact AE (Nat.lt_succ_of_lt hlt)),Heap.get?_update_ne _ _ _ _ (AE hlt),Heap.get?_push_ne _ _ _ (AE hlt)];exact q
 show wpAny _ _ _ _ _ { s with heap:=((s.heap.push (seqObj "list" #[] 0)).update s.heap.objs.size (AK (·++vs.toArray))).push (seqObj "list" vs.toArray 0) };rw[hsz];refine Aa (AW (A2 slot_list_sort ⟨_,hoL,rfl⟩ entry_list_sort (zej (s:={ s with heap:=((s.heap.push (seqObj "list" #[] 0)).update s.heap.objs.size (AK (·++vs.toArray))).push (seqObj "list" vs.toArray 0) }) hoL B (fun h' hk=>hg h' fun b o q=>hk b o (AE (Nat.lt_succ_of_lt (Au q))) (keep b o q)) hz h64 fun out ho=>⟨_,rfl,?_⟩) (args_list_sort _)));exact Ac ⟨_,rfl,h out ho⟩
theorem zkQ {a kS:Addr}{keys:Array Value}{e e1:Nat}{st:SortSt}{P:PySem.Fin->Shared->Prop} (nk:s.heap.get? kS=some (seqObj "list" keys e)) (na:s.heap.get? a=some (seqObj "list" #[] e1)) (hka:kS≠a)
  (hks:keys.size<=sizeLine) (ho:Out ls vs ((arrOf st).map (·.2)).toList) (hsz:(arrOf st).size=vs.length) (hz:vs.length<=sizeLine) (hfl:failedOf st=none)
  (h:∀h' out c,(∀b o,b≠kS->b≠a->s.heap.get? b=some o->h'.get? b=some o)->h'.get? a=some (seqObj "list" out c)->(∃o,h'.get? kS=some o)->Out ls vs out.toList->h'.objs.size=s.heap.objs.size->P (.done (.ret .none)) { s with heap:=h' }) :
  wpAny (model prog w) A (ksk_tail a false e1 (.ref kS) st) P E s:=by
 have s1:=Heap.SameBut.update s.heap kS (AK fun _=>(#[]:Array Value));have na1:(s.heap.update kS (AK fun _=>(#[]:Array Value))).get? a=some (seqObj "list" #[] e1):=(s1.2 a hka.symm).trans na;have s2:=Heap.SameBut.update (s.heap.update kS (AK fun _=>(#[]:Array Value))) a (AK fun _=>(arrOf st).map (·.2));obtain⟨c2,hc2⟩:∃c2,((s.heap.update kS (AK fun _=>(#[]:Array Value))).update a (AK fun _=>(arrOf st).map (·.2))).get? a=some (seqObj "list" ((arrOf st).map (·.2)) c2):=
  ⟨_,get?_update_seq na1 fun _=>(arrOf st).map (·.2)⟩
 unfold ksk_tail
 try dsimp only
 simp only[As,if_false];refine Aa (listUpdate_at nk rfl ?_ hks (AO _));refine Aa (wpAny_letGo ?_);refine Aa (seqEpoch_at na1 rfl ?_);refine Aa (listUpdate_at na1 rfl ?_ (AO _) (AG (Nat.le_of_eq ((Array.size_map ..).trans hsz)) (Nat.le_succ_of_le hz)));rw[hfl];simp only[bne_self_eq_false,As,if_false];refine Ac (h _ _ c2 (fun b o h1 h2 q=>(s2.2 b h2).trans ((s1.2 b h1).trans q)) hc2 ⟨_,(s2.2 kS hka).trans (get?_update_seq nk fun _=>#[])⟩ ho (by rw[Heap.size_update,Heap.size_update]))
end
end Srt
end
section
namespace L2
open PySem PySem.Spec PyProof.Rows
def clOf (cells:List (Str×Addr)):List (Str×NameKind)->List (Str×Addr)->List (Str×Addr)
 | [],acc=>acc
 | (n,k)::r,acc=>if (k == .free)=true then clOf cells r ((n,(cells.lookup n).getD 0)::acc) else clOf cells r acc
theorem zhi {env:Env}:∀(names:List (Str×NameKind)) (acc:List (Str×Addr)),(∀x∈names,x.2=.free->∃c,env.cells.lookup x.1=some c)->
  (forIn names acc fun x (r:List (Str×Addr))=>if (x.2 == .free)=true then do let c <- cellOf env x.1; pure (ForInStep.yield ((x.1,c)::r)) else pure (ForInStep.yield r):Sem (List (Str×Addr)))=pure (clOf env.cells names acc)
 | [],acc,_=>rfl
 | (n,k)::r,acc,h=>by
  rw[List.forIn_cons];have ih:=fun a=>zhi (env:=env) r a fun x hx=>h x (Ar _ hx);unfold clOf
  by_cases hk:(k == NameKind.free)=true
  ·have hk':k=.free:=by cases k <;> first | rfl | cases hk
   obtain⟨c,hc⟩:=h (n,k) Am hk';simp only[hk,if_true];unfold cellOf;rw[hc];simp only[pure_bind,Option.getD_some];exact ih _
  ·simp only[hk,As,if_false,pure_bind]
   exact ih _
theorem zgy {scope:Scope}{env:Env} (h:∀x∈scope.names,x.2=.free->∃c,env.cells.lookup x.1=some c):closureFor scope env=pure (clOf env.cells scope.names []):=by
 rw[<- zhi scope.names [] h];unfold closureFor;simp
theorem ze8 {cells:List (Str×Addr)}{x:Str}{c:Addr}:∀{names:List (Str×NameKind)}{acc:List (Str×Addr)},(∀y∈names,y.2=.free->∃d,cells.lookup y.1=some d)->(∀p∈acc,cells.lookup p.1=some p.2)->(clOf cells names acc).lookup x=some c->cells.lookup x=some c
 | [],acc,_,ha,h=>ha (x,c) (PySem.mem_of_lookup h)
 | (n,k)::r,acc,hn,ha,h=>by
  unfold clOf at h;have hn':∀y∈r,y.2=.free->∃d,cells.lookup y.1=some d:=fun y hy=>hn y (Ar _ hy)
  by_cases hk:(k == NameKind.free)=true
  ·have hk':k=.free:=by cases k <;> first | rfl | cases hk
   obtain⟨d,hd⟩:=hn (n,k) Am hk';rw[if_pos hk] at h;refine ze8 hn' (fun p hp=>?_) h;rcases List.mem_cons.mp hp with rfl | hp
   ·show cells.lookup n=some ((cells.lookup n).getD 0)
    have hd':cells.lookup n=some d:=hd;rw[hd']; rfl
   ·exact ha p hp
  ·rw[if_neg hk] at h
   exact ze8 hn' ha h
theorem zaq {x:Str}{c:Addr}:∀{l:List (Str×Addr)},(x,c)∈l->∃d,l.lookup x=some d
 | [],h=>nomatch h
 | (y,d)::l,h=>by
  rw[Ba]
  by_cases e:x=y
  ·subst e; exact⟨d,by simp⟩
  ·have hb:(x == y)=false:=by simpa using e
   rw[hb];rcases List.mem_cons.mp h with q | q
   ·cases q; exact absurd rfl e
   ·exact zaq q
theorem zcn {cells:List (Str×Addr)}{x:Str}:∀{names:List (Str×NameKind)}{acc:List (Str×Addr)},((x,NameKind.free)∈names \/ ∃c,(x,c)∈acc)->∃c,(x,c)∈clOf cells names acc
 | [],acc,h=>h.elim (fun q=>nomatch q) id
 | (n,k)::r,acc,h=>by
  unfold clOf
  by_cases hk:(k == NameKind.free)=true
  ·rw[if_pos hk]
   refine zcn ?_;rcases h with h | ⟨c,h⟩
   ·rcases List.mem_cons.mp h with q | q
    ·cases q; exact .inr ⟨_,Am⟩
    ·exact .inl q
   ·exact .inr ⟨c,Ar _ h⟩
  ·rw[if_neg hk]
   refine zcn ?_;rcases h with h | h
   ·rcases List.mem_cons.mp h with q | q
    ·cases q; exact absurd rfl hk
    ·exact .inl q
   ·exact .inr h
def cxC (X:Cx) (scope:Scope) (N:List Str) (cl:List (Str×Addr)) (C:Addr) (s₀:Shared) (H₀:Hp) (ex:List Addr):Cx where
 prog:=X.prog
 w:=X.w
 K:=X.K
 mg:=X.mg
 base:=X.base
 A:=X.A
 N:=N
 s₀:=s₀
 H₀:=H₀
 env:=compEnvC scope cl C X.env
 outer:=X.stack
 stack:=X.stack
 ex:=ex
 fn:=fun _=>false
 calm:=X.calm
 pn:=X.pn
 xe:=fun _ _=>False
def PTL (X:Cx) (ifs:List Expr) (t:TT):Prop:=
 ∀(pins:List (Addr×Obj)) (s:Shared) (σ:St) (H:Hp) (Q:Bool->Hp->Prop),Inv X pins σ H s->t σ H Q->
  wpAny (model X.prog X.w) X.A (forIn ifs true fun c r=>if r=true then do let ok <- isTrue c X.env (eval c X.env); pure (ForInStep.yield ok) else pure (ForInStep.yield r)) (TP X pins σ Q) X.xe s
def tYes:TT:=fun _ H Q=>Q true H
theorem zN {X:Cx}:PTL X [] tYes:=fun _ _ _ H _ I h=>wpAny_tests_nil ⟨H,I,h⟩
theorem zbB {X:Cx}{c:Expr}{t:TT} (h:PT X c t):PTL X [c] t:=fun pins s σ H Q I hw=>wpAny_tests_one (h pins s σ H Q I hw)
def zhs (caps:List (Option Nat)) (σ:St):St:=caps.map fun c=>match c with
 | none=>none
 | some j=>(σ[j]?).getD none
def zaj (J:It) (g:TG) (tc:TT) (te:TE) (σ:St) (H1:Hp) (D:Addr) (Q:VK):Prop:=
 ∃W:Nat->Nat->St->Hp->Prop,(∃m,W 0 m σ (upd H1 D (.lst [])))/\
 ∀i m σ2 H2,W i m σ2 H2->(J.stop i H2/\Q (.ref D) H2) \/ (J.go i H2/\∀x H3,J.yld i H2 x H3->g x σ2 H3 fun σ3 H4=>tc σ3 H4 fun b H5=>
  if b=true then te σ3 H5 fun y H6=>∃ys m',H6 D=some (.lst ys)/\ys.length<sizeLine/\m'<m/\W (i+1) m' σ3 (upd H6 D (.lst (ys++[y])))
  else ∃m',m'<m/\W (i+1) m' σ3 H5)
def tLC (wi:TI) (caps:List (Option Nat)) (g:TG) (tc:TT) (te:TE):TE:=fun σ H Q=>wi σ H fun J H1=>∀D,H1 D=none->zaj J g tc te (zhs caps σ) H1 D Q
def zjq (N N':List Str) (caps:List (Option Nat)) (scope:Scope):Prop:=
 caps.length=N'.length/\∀i j:Nat,caps[i]?=some (some j)->∃x:Str,N'[i]?=some x/\N[j]?=some x/\scope.names.lookup x=some .free
section
variable {X:Cx}{scope:Scope}{N':List Str}{caps:List (Option Nat)}{tg iter elt:Expr}{ifs:List Expr}{wi:TI}{g:TG}{tc:TT}{te:TE}{pos:Pos}
theorem zcf {scope:Scope}{env:Env}{x:Str}:∀{names:List (Str×NameKind)},(names.lookup x=some .free \/ names.lookup x=some .cell)->
  ((names.map fun (n,k)=>if (k == NameKind.free && env.scope.kind == .function && env.kindOf n == some .cell) then (n,NameKind.cell) else (n,k)).lookup x=some .free \/
   (names.map fun (n,k)=>if (k == NameKind.free && env.scope.kind == .function && env.kindOf n == some .cell) then (n,NameKind.cell) else (n,k)).lookup x=some .cell)
 | [],h=>by simp at h
 | (n,k)::r,h=>by
  have ih:=@zcf scope env x r;show List.lookup x ((if (k == NameKind.free && env.scope.kind == .function && env.kindOf n == some .cell)=true then (n,NameKind.cell) else (n,k))::_)=_ \/ List.lookup x ((if (k == NameKind.free && env.scope.kind == .function && env.kindOf n == some .cell)=true then (n,NameKind.cell) else (n,k))::_)=_;cases hx:x == n with
  | true=>
   simp only[Ba,hx] at h
   by_cases hc:(k == NameKind.free && env.scope.kind == .function && env.kindOf n == some .cell)=true
   ·rw[if_pos hc]; simp[Ba,hx]
   ·rw[if_neg hc]; simp only[Ba,hx]; exact h
  | false=>
   simp only[Ba,hx] at h
   by_cases hc:(k == NameKind.free && env.scope.kind == .function && env.kindOf n == some .cell)=true
   ·rw[if_pos hc]; simp only[Ba,hx]; exact ih h
   ·rw[if_neg hc]; simp only[Ba,hx]; exact ih h
theorem zb5 {env:Env}{x:Str}{kd:NameKind}:∀{names:List (Str×NameKind)},(names.map fun (n,k)=>if (k == NameKind.free && env.scope.kind == .function && env.kindOf n == some .cell) then (n,NameKind.cell) else (n,k)).lookup x=some kd->
  ∃k',names.lookup x=some k'/\(kd=k' \/ (k'=.free/\kd=.cell))
 | [],h=>by simp at h
 | (n,k)::r,h=>by
  have ih:=@zb5 env x kd r;have h':List.lookup x ((if (k == NameKind.free && env.scope.kind == .function && env.kindOf n == some .cell)=true then (n,NameKind.cell) else (n,k))::_)=some kd:=h;cases hx:x == n with
  | true=>
   simp only[Ba,hx]
   by_cases hc:(k == NameKind.free && env.scope.kind == .function && env.kindOf n == some .cell)=true
   ·rw[if_pos hc] at h'
    simp only[Ba,hx] at h';cases h';have hk:k=.free:=by
     rw[AY,AY] at hc;cases k <;> first | rfl | exact absurd hc.1.1 (by decide)
    exact⟨k,rfl,.inr ⟨hk,rfl⟩⟩
   ·rw[if_neg hc] at h'
    simp only[Ba,hx] at h';cases h';exact⟨_,rfl,.inl rfl⟩
  | false=>
   simp only[Ba,hx]
   by_cases hc:(k == NameKind.free && env.scope.kind == .function && env.kindOf n == some .cell)=true
   ·rw[if_pos hc] at h'; simp only[Ba,hx] at h'; exact ih h'
   ·rw[if_neg hc] at h'; simp only[Ba,hx] at h'; exact ih h'
structure Left (X:Cx) (pins:List (Addr×Obj)) (σ:St) (H':Hp) (s4:Shared) (C:Addr):Prop where
 ns:∃m,s4.heap.Ns C m
 far:X.s₀.heap.objs.size<=C
 nl:C≠X.env.locals
 nc:∀x c,X.env.cells.lookup x=some c->c≠C
 np:∀p∈X.pn++pins,p.1≠C
 no:H' C=none
 back:∀h',AX C s4.heap h'->Inv X pins σ H' { s4 with heap:=h' }
theorem zee {use:Option (Value->Sem Unit)}{R:Value->Shared->Prop}{pp:Pos} (hc:X.calm=true) (hk:scope.kind=.function) (hcell:∀y∈scope.names,y.2≠.cell) (hnames:∀y∈scope.names,y.2=.local->scope.names.lookup y.1=some .local)
  (hfr:∀y∈scope.names,y.2=.free->X.env.kindOf y.1=some .cell \/ X.env.kindOf y.1=some .free) (hcap:zjq X.N N' caps scope)
  (hi:PI X tg iter wi) (hg:∀cl C s₀ H₀ ex,PG (cxC X scope N' cl C s₀ H₀ ex) tg g) (ht:∀cl C s₀ H₀ ex,PTL (cxC X scope N' cl C s₀ H₀ ex) ifs tc) (he:∀cl C s₀ H₀ ex,PE (cxC X scope N' cl C s₀ H₀ ex) elt te)
  (hs:∀x,foldedSetIterable iter X.env x=pure x) {pins:List (Addr×Obj)} {s:Shared} {σ:St} {H:Hp} {Q:VK} (I:Inv X pins σ H s) (h:tLC wi caps g tc te σ H Q)
  (fin:∀(D C:Addr) (H':Hp) (s4:Shared) (f:Flow),Left X pins σ H' s4 C->Q (.ref D) H'->compPost (model X.prog X.w) X.A X.xe use R (.ref D) C (.ok f) s4) :
  wpAny (model X.prog X.w) X.A (comprehension (.ListComp elt [⟨tg,iter,ifs,0⟩] scope pos) scope X.env pp (newList []) (firstAsync [⟨tg,iter,ifs,0⟩]) (firstIter [⟨tg,iter,ifs,0⟩] X.env) use) R X.xe s:=by
 have hcl:∀y∈scope.names,y.2=.free->∃c,X.env.cells.lookup y.1=some c:=fun y hy e=>I.ok.has y.1 (hfr y hy e);refine wpAny_comprehension_free (use:=use) rfl hs (zgy hcl) hk hnames ?_;refine thn (hi pins s σ H _ I h) fun xv s1 h1=>thn h1 fun itv s2 h2=>?_;obtain⟨it,fp,tn,J,H2,e,I2,T,st2,f2,q⟩:=h2;subst e;have hf2:H2 s2.heap.objs.size=none:=I2.hok.fresh (Af _);obtain⟨W,⟨m0,w0⟩,turn⟩:=q s2.heap.objs.size hf2;refine AZ (wpAny_newFunctionEnv hcell (by intro y hy; simp at hy) (fun h₁ hns₁ hsb₁=>?_) hk);dsimp only at hns₁ hsb₁ ⊢;generalize hD:s2.heap.objs.size=D at *;obtain⟨s3,e3⟩:∃s3:Shared,s3={ s2 with heap:=s2.heap.push { cls:=.type "list",dict:=none,data:=.seq ([]:List Value).toArray } }:=⟨_,rfl⟩;have h3:s3.heap=s2.heap.push { cls:=.type "list",dict:=none,data:=.seq ([]:List Value).toArray }:=by rw[e3]
 rw[<- h3] at hns₁ hsb₁ ⊢;have hD3:s3.heap.objs.size=D+1:=by rw[h3,Heap.size_push,hD]
 have I3:Inv X pins σ (upd H2 D (.lst [])) s3:=by
  rw[e3,<- hD];exact I2.lnew (t':=s2.toks) (ys:=[]) .nil (AO _)
 obtain⟨Xc,eX⟩:∃Xc,Xc=cxC X scope N' (clOf X.env.cells scope.names []) s3.heap.objs.size s3 (upd H2 D (.lst [])) fp:=⟨_,rfl⟩;have hg':PG Xc tg g:=by rw[eX]; exact hg _ _ _ _ _
 have ht':PTL Xc ifs tc:=by rw[eX]; exact ht _ _ _ _ _
 have he':PE Xc elt te:=by rw[eX]; exact he _ _ _ _ _
 have xP:Xc.prog=X.prog:=by rw[eX]; rfl
 have xw:Xc.w=X.w:=by rw[eX]; rfl
 have xK:Xc.K=X.K:=by rw[eX]; rfl
 have xA:Xc.A=X.A:=by rw[eX]; rfl
 have xc:Xc.calm=true:=by rw[eX]; exact hc
 have xe:Xc.env=compEnvC scope (clOf X.env.cells scope.names []) s3.heap.objs.size X.env:=by rw[eX]; rfl
 have xE:Xc.xe=fun _ _=>False:=by rw[eX]; rfl
 have hcin:∀x c,(clOf X.env.cells scope.names []).lookup x=some c->X.env.cells.lookup x=some c:=fun x c e=>ze8 hcl (fun p hp=>absurd hp (by simp)) e;have hfd:∀b∈fp,b≠D/\b<D:=fun b hb=>by
  obtain⟨ob,eb,_⟩:=T.obj 0 _ st2 b hb;have:=Au eb;rw[hD] at this;exact⟨AE this,this⟩
 have hfs:∀b∈frs X.stack,b<D:=fun b hb=>by
  obtain⟨_,ob,eb,_⟩:=I2.stack.mem hb;have:=Au eb;rw[hD] at this;exact this
 have hold:∀b o,s3.heap.get? b=some o->h₁.get? b=some o:=fun b o e=>by
  have hb:b≠s3.heap.objs.size:=AE (Au e);exact (hsb₁.2 b hb).trans (Ae _ e)
 have hCf:(upd H2 D (.lst [])) s3.heap.objs.size=none:=I3.hok.fresh (Af _);have Ic:Inv Xc pins (zhs caps σ) (upd H2 D (.lst [])) { s3 with heap:=h₁ }:=by
  have okc:Xc.Ok:=by
   rw[eX];refine⟨I.ok.mod,hk,I.ok.glob,I.ok.blt,Af _,fun x y c a b=>I.ok.inj x y c (hcin x c a) (hcin y c b),fun x hx=>?_,(fun x c a=>absurd a AA),I.ok.hd,I.ok.frames,.inl rfl,fun b hb=>⟨?_,fun x c e=>?_⟩,fun b o e=>?_,?_,fun b o e z=>?_,fun b hb z=>?_,?_,fun b hb=>?_⟩
   ·have hx':(relabel scope X.env).names.lookup x=some .cell \/ (relabel scope X.env).names.lookup x=some .free:=hx
    have key:∃k',scope.names.lookup x=some k'/\(k'=.free \/ k'=.cell):=by
     rcases hx' with q | q
     ·obtain⟨k',e1,e2⟩:=zb5 q
      rcases e2 with e2 | ⟨e2,_⟩
      ·exact⟨k',e1,.inr e2.symm⟩
      ·exact⟨k',e1,.inl e2⟩
     ·obtain⟨k',e1,e2⟩:=zb5 q
      rcases e2 with e2 | ⟨e2,_⟩
      ·exact⟨k',e1,.inl e2.symm⟩
      ·exact⟨k',e1,.inl e2⟩
    obtain⟨k',e1,e2⟩:=key;have hm:=PySem.mem_of_lookup e1;rcases e2 with rfl | rfl
    ·obtain⟨c,hc'⟩:=zcn (cells:=X.env.cells) (acc:=[]) (.inl hm)
     exact zaq hc'
    ·exact absurd rfl (hcell _ hm)
   ·show b≠s3.heap.objs.size
    exact AE (by rw[hD3]; exact Nat.lt_succ_of_lt (hfd b hb).2)
   ·exact (f2 b hb).2.2.2.2.1 x c (hcin x c e)
   ·exact I3.bs b o e
   ·exact AG I.ok.bsz I3.sz
   ·obtain⟨f,_,_,fx,_,_⟩:=f2 b z
    rcases fx with fx | fx
    ·exact I.ok.noex b o e fx
    ·have:=AM (Au e) I.ok.bsz
     omega
   ·rcases List.mem_cons.mp (I2.stkSub b z) with r | r
    ·exact (f2 b hb).2.1 r
    ·exact (f2 b hb).2.2.1 r
   ·exact I3.stack
   ·exact I3.stkFree b hb
  refine⟨okc,(by rw[eX]; rfl),I3.bare,?_,?_,fun x c e=>?_,?_,fun x c e=>?_,fun p hp=>?_,?_,?_⟩
  ·rw[eX]
   exact Un.kept hold
  ·rw[xe]
   refine⟨_,hns₁,fun i x v e1 e2 e3=>?_⟩;obtain⟨c1,c2⟩:=hcap;unfold zhs at e2;rw[Al] at e2;cases e4:caps[i]? with
   | none=>rw[e4] at e2; cases e2
   | some cc=>
    rw[e4] at e2;cases cc with
    | none=>cases e2
    | some j=>
     obtain⟨y,d1,d2,d3⟩:=c2 i j e4;have e1':N'[i]?=some x:=by rw[eX] at e1; exact e1
     rw[d1] at e1';have exy:y=x:=Ao e1';subst exy;have e5:σ[j]?=some (some v):=by
      simp only[A3,Option.some.injEq] at e2;cases e6:σ[j]? with
      | none=>rw[e6] at e2; cases e2
      | some ov=>rw[e6] at e2; simp only[Option.getD_some] at e2; rw[e2]
     have hm:=PySem.mem_of_lookup d3;have vis:Vis X.env.scope y:=by
      rcases hfr _ hm rfl with q | q
      ·exact .inr (.inl q)
      ·exact .inr (.inr q)
     obtain⟨m,_,hl⟩:=I3.loc;obtain⟨u,ru,lk⟩:=hl j y v d2 e5 vis;refine⟨u,ru,?_⟩;have lk2:∃c,X.env.cells.lookup y=some c/\s3.heap.IsCell c (some u):=by
      rcases lk with ⟨k1,_⟩ | ⟨_,c,k2,k3⟩
      ·rcases hfr _ hm rfl with q | q
       ·rw[k1] at q; cases q
       ·rw[k1] at q; cases q
      ·exact⟨c,k2,k3⟩
     obtain⟨c,k2,k3⟩:=lk2;obtain⟨d,hd'⟩:=zcn (cells:=X.env.cells) (acc:=[]) (.inl hm);obtain⟨d',hd2⟩:=zaq hd';have:c=d':=by
      have:=hcin y d' hd2;rw[k2] at this;exact Ao this
     subst this;refine .inr ⟨?_,c,hd2,k3.keeps hold⟩;have rl:=zcf (scope:=scope) (env:=X.env) (x:=y) (names:=scope.names) (.inl d3);rcases rl with q | q
     ·exact .inr q
     ·exact .inl q
  ·rw[xe] at e
   obtain⟨v,k3⟩:=I3.cell x c (hcin x c e);exact⟨v,k3.keeps hold⟩
  ·rw[xe]; exact hCf
  ·rw[xe] at e
   exact I3.freeC x c (hcin x c e)
  ·have hp':p∈X.pn++pins:=by rw[eX] at hp; exact hp
   obtain⟨a1,a2,a3,a4,a5⟩:=I3.pin p hp';refine⟨hold _ _ a1,a2,?_,?_,a5⟩
   ·rw[xe]
    show p.1≠s3.heap.objs.size;exact AE (Au a1)
   ·rw[eX]
    intro z;rcases List.mem_cons.mp (I3.stkSub p.1 z) with r | r
    ·exact a3 r
    ·exact a4 r
  ·rw[xP,xw]
   exact I3.hok.kept hold
  ·unfold zhs
   rw[Ab,hcap.1,eX]
   rfl
 have leave:∀{σ':St} {H':Hp} {s4:Shared} {h':Heap},Inv Xc pins σ' H' s4->AX s3.heap.objs.size s4.heap h'->Inv X pins σ H' { s4 with heap:=h' }:=fun {σ' H' s4 h'} I4 hs'=>by
  have hlt:∀b o,s2.heap.get? b=some o->b≠D/\b≠s3.heap.objs.size:=fun b o e=>by
   have hb:=Au e;rw[hD] at hb;exact⟨AE hb,AE (by rw[hD3]; exact Nat.lt_succ_of_lt hb)⟩
  have up3:∀b o,s2.heap.get? b=some o->s3.heap.get? b=some o:=fun b o e=>by rw[h3]; exact Ae _ e
  have base:Un (frs X.stack) fp (upd H2 D (.lst [])) H' s3.heap s4.heap:=by
   have:=I4.base;rw[eX] at this;exact this
  have hCn:H' s3.heap.objs.size=none:=by
   have:=I4.free;rw[xe] at this;exact this
  have os4:s4.os=s2.os:=by
   have:=I4.os;rw[eX] at this;rw[this];show s3.os=s2.os;rw[e3]
  refine I2.call' (s':={ s4 with heap:=h' }) (ch:=fp) os4 ⟨fun b o q n hb hx=>?_,fun b o q n hb hx=>?_,fun b o q n hx=>?_,fun b o q hx=>?_,fun b xs q=>?_,fun b o u q=>?_,fun b ps q=>?_⟩ ?_ I4.bare fun b hb=>?_
  ·obtain⟨n1,n2⟩:=hlt b o q
   exact (hs'.2 b n2).trans (base.keep b o (up3 b o q) (by rw[zk n1]; exact n) hb hx)
  ·obtain⟨n1,n2⟩:=hlt b o q
   obtain⟨sl,e⟩:=base.slot b o (up3 b o q) (by rw[zk n1]; exact n) hb hx;exact⟨sl,(hs'.2 b n2).trans e⟩
  ·obtain⟨n1,n2⟩:=hlt b o q
   exact base.free b o (up3 b o q) (by rw[zk n1]; exact n) hx
  ·obtain⟨n1,n2⟩:=hlt b o q
   obtain⟨o',e⟩:=base.there b o (up3 b o q) hx;exact⟨o',(hs'.2 b n2).trans e⟩
  ·exact base.tups b xs (by rw[zk (zj q hf2)]; exact q)
  ·exact base.frzs b o u (by rw[zk (zj q hf2)]; exact q)
  ·exact base.tbls b ps (by rw[zk (zj q hf2)]; exact q)
  ·intro b u e
   have hk4:=I4.hok b u e;rw[xP,xw] at hk4;refine hk4.stay (fun c v hc q=>(hs'.2 c ?_).trans q) (fun _ q=>q) fun _ _ q=>q;rintro rfl;rcases hc with z | z
   ·rw[<- z,hCn] at e; cases e
   ·rw[hCn] at z; cases z
  ·obtain⟨f0,f1,f3,f4,f5,f6⟩:=f2 b hb
   exact⟨f4,f1,f5,f6⟩
 have stat:∀{H':Hp},(∀b∈fp,H' b=none)->∀b∈fp,FpOk Xc pins H' b:=fun {H'} hn b hb=>by
  obtain⟨f0,f1,f3,f4,f5,f6⟩:=f2 b hb;refine⟨hn b hb,?_,?_,.inl (by rw[eX]; exact hb),fun x c e=>?_,fun p hp=>?_⟩
  ·rw[xe]
   show b≠s3.heap.objs.size;exact AE (by rw[hD3]; exact Nat.lt_succ_of_lt (hfd b hb).2)
  ·rw[eX]
   intro z;rcases List.mem_cons.mp (I2.stkSub b z) with r | r
   ·exact f1 r
   ·exact f3 r
  ·rw[xe] at e
   exact f5 x c (hcin x c e)
  ·rw[eX] at hp
   exact f6 p hp
 subst eX;have loop:∀n s',(∃i σ' H',Inv (cxC X scope N' (clOf X.env.cells scope.names []) s3.heap.objs.size s3 (upd H2 D (.lst [])) fp) pins σ' H' s'/\tn i s'.heap/\(∀b∈fp,H' b=none)/\W i n σ' H')->
   codeAny (model X.prog X.w) X.A (.compLoop (.ListComp elt [⟨tg,iter,ifs,0⟩] scope pos) 0 (.ref it) (.ref D) (compEnvC scope (clOf X.env.cells scope.names []) s3.heap.objs.size X.env)) (compPost (model X.prog X.w) X.A X.xe use R (.ref D) s3.heap.objs.size) s':=by
  intro n0 s0' hI0;refine codeAny_loop rfl (fun n s'=>∃i σ' H',Inv (cxC X scope N' (clOf X.env.cells scope.names []) s3.heap.objs.size s3 (upd H2 D (.lst [])) fp) pins σ' H' s'/\tn i s'.heap/\(∀b∈fp,H' b=none)/\W i n σ' H') (fun n s' hI=>?_) n0 hI0;obtain⟨i,σ',H',I',st',fr',w'⟩:=hI;show wpAny _ X.A ((compTurn (.ListComp elt [⟨tg,iter,ifs,0⟩] scope pos) 0 (.ref it) (.ref D) (compEnvC scope (clOf X.env.cells scope.names []) s3.heap.objs.size X.env)).onRaise (fun x=>do noteFrame x (compEnvC scope (clOf X.env.cells scope.names []) s3.heap.objs.size X.env); theTreesLotGoes x)) _ _ s';refine wpAny_noted ?_;rw[compTurn_list];refine Aa (wpAny_standAt (Aa ?_));rcases turn i n σ' H' w' with ⟨stop,qn⟩ | ⟨go,step⟩
  ·refine thn (T.done (cxC X scope N' (clOf X.env.cells scope.names []) s3.heap.objs.size s3 (upd H2 D (.lst [])) fp) rfl rfl rfl hc i pins s' σ' H' _ I' (stat fr') st' stop) fun r s4 ⟨hr,I4⟩=>?_
   subst hr;refine Ac ?_;obtain⟨m,hn,_⟩:=id I4.loc;refine fin D _ H' s4 _ ⟨⟨m,hn⟩,I3.sz,fun e=>?_,fun x c e=>?_,fun p hp=>AE (Au (I3.pin p hp).1),I4.free,fun h' hs'=>leave I4 hs'⟩ qn
   ·obtain⟨m3,hn3,_⟩:=I3.loc
    obtain⟨o3,_,_,ho3,_⟩:=hn3;exact absurd e.symm (AE (Au ho3))
   ·obtain⟨v,hv⟩:=I3.cell x c e
    obtain⟨o3,ho3,_⟩:=hv;exact AE (Au ho3)
  ·refine thn (T.item (cxC X scope N' (clOf X.env.cells scope.names []) s3.heap.objs.size s3 (upd H2 D (.lst [])) fp) rfl rfl rfl hc i pins s' σ' H' _ I' (stat fr') st' go) fun r s4 ⟨u,hr,h4⟩=>?_
   subst hr;refine Aa (thn h4 fun _ s5 ⟨x,H5,I5,r5,y5,st5,fr5⟩=>?_);have I5':=I5.pinned (stat fr5) (T.obj _ _ st5);refine Aa (wpAny_mono (hg' _ s5 σ' H5 x u _ I5' r5 (step x H5 y5)) (fun _ s6 h6=>?_) fun _ _ z=>z.elim);obtain⟨σ6,H6,I6,q6⟩:=h6;refine Aa (wpAny_mono (ht' _ s6 σ6 H6 _ I6 q6) (fun ok s7 h7=>?_) fun _ _ z=>z.elim);obtain⟨H7,I7,q7⟩:=h7;have again:∀{σ8:St} {H8:Hp} {s8:Shared} {m':Nat},Inv (cxC X scope N' (clOf X.env.cells scope.names []) s3.heap.objs.size s3 (upd H2 D (.lst [])) fp) (pins++zeL fp s5.heap) σ8 H8 s8->m'<n->W (i+1) m' σ8 H8->
     ∃m,m<n/\∃i σ' H',Inv (cxC X scope N' (clOf X.env.cells scope.names []) s3.heap.objs.size s3 (upd H2 D (.lst [])) fp) pins σ' H' s8/\tn i s8.heap/\(∀b∈fp,H' b=none)/\W i m σ' H':=fun {σ8 H8 s8 m'} I8 hm w8=>by
    refine⟨m',hm,i+1,σ8,H8,I8.unpinned,T.keep _ _ _ st5 fun b hb o e=>(I8.pin (b,o) (AJ _ (AJ _ (zbn hb e)))).1,fun b hb=>?_,w8⟩;obtain⟨o,e,d⟩:=T.obj _ _ st5 b hb;exact (I8.pin (b,o) (AJ _ (AJ _ (zbn hb e)))).2.1
   cases ok with
   | false=>
    obtain⟨m',hm,w7⟩:=q7;exact Ac ⟨rfl,again I7 hm w7⟩
   | true=>
    refine Aa (Aa (wpAny_mono (he' _ s7 σ6 H7 _ I7 q7) (fun v s8 h8=>?_) fun _ _ z=>z.elim));obtain⟨y,H8,I8,r8,ys,m',hD8,hl8,hm8,w8⟩:=h8;refine Aa (wpAny_mono (zaA (X:=cxC X scope N' (clOf X.env.cells scope.names []) s3.heap.objs.size s3 (upd H2 D (.lst [])) fp) _ s8 σ6 H8 (.ref D) [y] (.ref D) [v] (fun _ H9=>H9=upd H8 D (.lst (ys++[y]))) I8 rfl (.cons r8 .nil) ⟨D,ys,y,rfl,rfl,hD8,hl8,rfl⟩) (fun _ s9 h9=>?_) fun _ _ z=>z.elim);obtain⟨_,H9,I9,_,e9⟩:=h9;subst e9;exact Ac (Ac ⟨rfl,again I9 hm8 w8⟩)
 have start:∃i σ' H',Inv (cxC X scope N' (clOf X.env.cells scope.names []) s3.heap.objs.size s3 (upd H2 D (.lst [])) fp) pins σ' H' { s3 with heap:=h₁ }/\tn i ({ s3 with heap:=h₁ }:Shared).heap/\(∀b∈fp,H' b=none)/\W i m0 σ' H':=by
  refine⟨0,zhs caps σ,upd H2 D (.lst []),Ic,T.keep 0 _ _ st2 fun b hb o e=>hold b o (by rw[h3]; exact Ae _ e),fun b hb=>?_,w0⟩;rw[zk (hfd b hb).1];exact (f2 b hb).1
 have es:({ s2 with heap:=h₁,toks:=s2.toks+([]:List (Str×Value)).length }:Shared)={ s3 with heap:=h₁ }:=by rw[e3]; rfl
 show codeAny (model X.prog X.w) X.A _ _ ({ s2 with heap:=h₁,toks:=s2.toks+([]:List (Str×Value)).length }:Shared);rw[es];refine codeAny_compStart_list (loop m0 _ start) (T.self _ 0 _ _ _ ?_ (loop m0 _ start));exact T.keep 0 _ _ st2 fun b hb o e=>hold b o (by rw[h3]; exact Ae _ e)
theorem zkC (hc:X.calm=true) (hk:scope.kind=.function) (hcell:∀y∈scope.names,y.2≠.cell) (hnames:∀y∈scope.names,y.2=.local->scope.names.lookup y.1=some .local)
  (hfr:∀y∈scope.names,y.2=.free->X.env.kindOf y.1=some .cell \/ X.env.kindOf y.1=some .free) (hcap:zjq X.N N' caps scope)
  (hi:PI X tg iter wi) (hg:∀cl C s₀ H₀ ex,PG (cxC X scope N' cl C s₀ H₀ ex) tg g) (ht:∀cl C s₀ H₀ ex,PTL (cxC X scope N' cl C s₀ H₀ ex) ifs tc) (he:∀cl C s₀ H₀ ex,PE (cxC X scope N' cl C s₀ H₀ ex) elt te)
  (hs:∀x,foldedSetIterable iter X.env x=pure x:=by intro _; rfl):PE X (.ListComp elt [⟨tg,iter,ifs,0⟩] scope pos) (tLC wi caps g tc te):=by
 intro pins s σ H Q I h;rw[eval_ListComp];refine zee (use:=none) hc hk hcell hnames hfr hcap hi hg ht he hs I h fun D C H' s4 f L q=>?_;obtain⟨m,hn⟩:=L.ns;exact⟨m,hn,fun h' hs'=>⟨.ref D,H',L.back h' hs',rfl,q⟩⟩
end
end L2
end
section
namespace Zp
open PySem PySem.Spec PyProof.Rows
section
variable {prog:Program}{w:World}{A:Around}{E:Value->Shared->Prop}{s:Shared}
theorem ziu {it t:Addr}{i:Nat}{items:Array Value}{x:Value}{Q:Value->Shared->Prop} (hit:s.heap.IsTupleIter it t i) (ht:s.heap.IsTuple t items) (hx:items[i]?=some x)
  (hQ:∀h',h'.IsTupleIter it t (i+1)->AX it s.heap h'->Q x { s with heap:=h' }):wpAny (model prog w) A (Builtin.SmallTypes.nextOf (.ref it)) Q E s:=by
 obtain⟨o,ho,hc,hd⟩:=id hit;obtain⟨ol,hol,_,nl,hdl⟩:=ht;unfold Builtin.SmallTypes.nextOf;refine Aa (wpAny_callSpecial?_slot (name:=Str.ofString "__next__") hit.typeIs F.slot_tuple_iterator_next (A2 F.slot_tuple_iterator_next hit.typeIs F.entry_tuple_iterator_next ?_ (F.args_tuple_iterator_next_1 _)));show wpAny _ _ (field (.ref it) 0 >>= _) _ _ s;refine Aa (A9 ho hd (x:=.ref t) rfl ?_);show wpAny _ _ (if (Value.ref t == Value.none)=true then _ else _) _ _ s;rw[if_neg (show ¬ ((Value.ref t == Value.none)=true) from AA)];show wpAny _ _ (field (.ref it) 1 >>= _) _ _ s;refine Aa (A9 ho hd (x:=.int i 0) rfl ?_);show wpAny _ _ (seqItems? (.ref t) >>= _) _ _ s;refine Aa (wpAny_seqItems hol hdl ?_);simp only[Int.toNat_natCast,hx];refine Aa (wpAny_setField ho hd (by simp) (Ac ⟨x,rfl,Ac (hQ _ ?_ (Heap.SameBut.update ..))⟩));exact⟨_,Heap.get?_update_self _ ho (Obj.isFreed_of_fields (Obj.data_mapFields hd _)),(Obj.cls_mapFields ..).trans hc,by
  rw[Obj.data_mapFields hd]; simp[rawInt]⟩
theorem zkO {it t:Addr}{i:Nat}{items:Array Value}{Q:Value->Shared->Prop} (hh:A.handled=none) (hit:s.heap.IsTupleIter it t i) (ht:s.heap.IsTuple t items) (hx:items[i]?=none)
  (hE:∀h' e,Heap.ExtBut it s.heap h'->(∃o,h'.get? e=some o/\o.cls=.type "StopIteration")->E (.ref e) { s with heap:=h' }):wpAny (model prog w) A (Builtin.SmallTypes.nextOf (.ref it)) Q E s:=by
 obtain⟨o,ho,hc,hd⟩:=id hit;obtain⟨ol,hol,_,nl,hdl⟩:=ht;unfold Builtin.SmallTypes.nextOf;refine Aa (wpAny_callSpecial?_slot (name:=Str.ofString "__next__") hit.typeIs F.slot_tuple_iterator_next (A2 F.slot_tuple_iterator_next hit.typeIs F.entry_tuple_iterator_next ?_ (F.args_tuple_iterator_next_1 _)));show wpAny _ _ (field (.ref it) 0 >>= _) _ _ s;refine Aa (A9 ho hd (x:=.ref t) rfl ?_);show wpAny _ _ (if (Value.ref t == Value.none)=true then _ else _) _ _ s;rw[if_neg (show ¬ ((Value.ref t == Value.none)=true) from AA)];show wpAny _ _ (field (.ref it) 1 >>= _) _ _ s;refine Aa (A9 ho hd (x:=.int i 0) rfl ?_);show wpAny _ _ (seqItems? (.ref t) >>= _) _ _ s;refine Aa (wpAny_seqItems hol hdl ?_);simp only[Int.toNat_natCast,hx];refine Aa (wpAny_rule (Aa (wpAny_setField ho hd (by simp) ?_)));show wpAny _ _ (newExc (.type "StopIteration") [] >>= _) _ _ _;refine Aa ?_;simp only[newExc,newTuple];refine Aa (AZ ?_ (by size_fits));refine Aa (m:=firstArgMember _ _) (wpAny_of_eq (a:=Value.none) (by first | rfl | (simp only[firstArgMember]; rfl)) ?_);refine AZ ?_ (by size_fits);simp only[raiseNew];refine Aa (wpAny_handled ?_)
 first | rw[show A.in1.handled=none from hh] | rw[hh]
 refine Aa (Ac (wpAny_throw ?_));exact hE _ _ (((Heap.SameBut.update ..).extBut.push _).push _) ⟨_,Aq _ rfl,rfl⟩
end
theorem zjl {h h':Heap}{a:Addr}{items:Array Value} (x:h.IsTuple a items) (e:∀o,h.get? a=some o->h'.get? a=some o):h'.IsTuple a items:=let ⟨o,ho,r⟩:=x; ⟨o,e o ho,r⟩
theorem zeF {prog:Program}{w:World}{A:Around} (hh:A.handled=none) (it t:Addr) (hne:t≠it) (items:Array Value) :
  Draws prog w A it [it,t] items.size (fun i v=>items[i]?=some v) (fun i h=>h.IsTupleIter it t i/\h.IsTuple t items) where
 live:=fun _ _ st=>let ⟨o,ho,_⟩:=st.1; ⟨o,ho⟩
 frame:=fun _ _ _ st hk=>⟨st.1.at fun o e=>hk it (by simp) o e,zjl st.2 fun o e=>hk t (by simp) o e⟩
 item:=fun i s Q E hi st hQ=>by
  refine ziu st.1 st.2 (x:=items[i]) (by simp[hi]) fun h' hit' hs'=>?_;exact hQ _ h' s.toks (by simp[hi]) ⟨hit',st.2.extBut hs'.extBut hne⟩ hs'
 done:=fun s Q E st hE=>zkO hh st.1 st.2 (by simp) hE
structure Apart (z TI TO i1 i2:Addr) (fp1 fp2:List Addr):Prop where
 z1:z∉fp1
 z2:z∉fp2
 o1:TO∉fp1
 o2:TO∉fp2
 m1:i1∈fp1
 m2:i2∈fp2
 x12:i1∉fp2
 x21:i2∉fp1
 TIz:TI≠z
 TOz:TO≠z
 TITO:TI≠TO
 TIi1:TI≠i1
 TIi2:TI≠i2
section
variable {prog:Program}{w:World}{A:Around}{E:Value->Shared->Prop}{s:Shared}{z TI TO i1 i2:Addr}{fp1 fp2:List Addr}{n1 n2 i:Nat}{P1 P2:Nat->Value->Prop}{S1 S2:Nat->Heap->Prop}{a b:Value}
theorem zjp {Q:Value->Shared->Prop} (D1:Draws prog w A i1 fp1 n1 P1 S1) (D2:Draws prog w A i2 fp2 n2 P2 S2) (D:Apart z TI TO i1 i2 fp1 fp2)
  (hz:IsZip s.heap z TI TO .none) (hTI:IsPair s.heap TI (.ref i1) (.ref i2)) (hTO:IsPair s.heap TO a b) (h1:S1 i s.heap) (h2:S2 i s.heap) (l1:i<n1) (l2:i<n2)
  (hQ:∀x y h' tk,P1 i x->P2 i y->IsZip h' z TI TO (rawInt s.heap.objs.size)->IsPair h' TO x y->S1 (i+1) h'->S2 (i+1) h'->IsPair h' s.heap.objs.size x y->h'.objs.size=s.heap.objs.size+1->
   (∀c o,c≠z->c≠TO->c≠i1->c≠i2->s.heap.get? c=some o->h'.get? c=some o)->Q (.ref s.heap.objs.size) { s with heap:=h',toks:=tk }) :
  wpAny (model prog w) A (Builtin.«zip.__next__» ⟨[.ref z],[]⟩) (fun fin s'=>∃v,fin=.done (.ret v)/\Q v s') E s:=by
 have ne1:∀c∈fp1,c≠z:=fun c hc e=>D.z1 (e ▸ hc);have ne2:∀c∈fp2,c≠z:=fun c hc e=>D.z2 (e ▸ hc);have no1:∀c∈fp1,c≠TO:=fun c hc e=>D.o1 (e ▸ hc);have no2:∀c∈fp2,c≠TO:=fun c hc e=>D.o2 (e ▸ hc);have n12:∀c∈fp2,c≠i1:=fun c hc e=>D.x12 (e ▸ hc);have n21:∀c∈fp1,c≠i2:=fun c hc e=>D.x21 (e ▸ hc);have i1z:i1≠z:=ne1 _ D.m1;have i2z:i2≠z:=ne2 _ D.m2;have TOi1:TO≠i1:=(no1 _ D.m1).symm;have TOi2:TO≠i2:=(no2 _ D.m2).symm;show wpAny _ _ (field (.ref z) 2 >>= _) _ _ _;refine Aa (A9 hz rfl (x:=.bool false) rfl ?_);show wpAny _ _ (field (.ref z) 3 >>= _) _ _ _;refine Aa (A9 hz rfl (x:=.ref TI) rfl ?_);refine Aa (wpAny_seqItems hTI rfl ?_);show wpAny _ _ (Builtin.SmallTypes.ownedTupleIsFree (.ref z) >>= _) _ _ _;refine Aa ?_;unfold Builtin.SmallTypes.ownedTupleIsFree;refine Aa (A9 hz rfl (x:=.none) rfl (Ac ?_));simp only[if_true];refine Aa (wpAny_rule ?_);refine Aa (A9 hz rfl (x:=.ref TO) rfl ?_);refine Aa (A5 hz (by simp) fun g1 hz1 k1=>?_);replace hz1:IsZip g1 z TI TO .ellipsis:=hz1;refine Aa ?_;simp only[List.zipIdx_cons,List.zipIdx_nil,List.forIn_cons,List.forIn_nil];refine Aa (Aa (wpAny_onRaise ?_));show wpAny _ _ (Builtin.SmallTypes.nextOf (.ref i1) >>= _) _ _ _;refine Aa (D1.item i _ _ _ l1 (D1.frame _ _ _ h1 fun c hc o e=>k1.extBut c o (ne1 c hc) e) fun x g2 tk2 px s2 k2=>Ac ?_);have t2:IsPair g2 TO a b:=k2.extBut _ _ TOi1 (k1.extBut _ _ D.TOz hTO);refine Aa (wpAny_seqItems t2 rfl ?_);refine Aa (wpAny_updateSeq_pair t2 fun g3 t3 k3=>?_);replace t3:IsPair g3 TO x b:=t3;refine Aa (wpAny_letGo (Ac ?_));refine Aa (Aa (wpAny_onRaise ?_));show wpAny _ _ (Builtin.SmallTypes.nextOf (.ref i2) >>= _) _ _ _;refine Aa (D2.item i _ _ _ l2 (D2.frame _ _ _ h2 fun c hc o e=>k3.extBut c o (no2 c hc) (k2.extBut c o (n12 c hc) (k1.extBut c o (ne2 c hc) e))) fun y g4 tk4 py s4 k4=>Ac ?_);have t4:IsPair g4 TO x b:=k4.extBut _ _ TOi2 t3;refine Aa (wpAny_seqItems t4 rfl ?_);refine Aa (wpAny_updateSeq_pair t4 fun g5 t5 k5=>?_);replace t5:IsPair g5 TO x y:=t5;refine Aa (wpAny_letGo (Ac (Ac ?_)));refine Aa (wpAny_seqItems t5 rfl ?_);refine Aa (wpAny_newTuple ?_);have hsz:g5.objs.size=s.heap.objs.size:=by rw[k5.1,k4.1,k3.1,k2.1,k1.1]
 have z5:IsZip g5 z TI TO .ellipsis:=k5.extBut _ _ D.TOz.symm (k4.extBut _ _ i2z.symm (k3.extBut _ _ D.TOz.symm (k2.extBut _ _ i1z.symm hz1)));have kk:∀c o,c≠z->c≠TO->c≠i1->c≠i2->s.heap.get? c=some o->g5.get? c=some o:=fun c o c1 c2 c3 c4 e=>
  k5.extBut _ _ c2 (k4.extBut _ _ c4 (k3.extBut _ _ c2 (k2.extBut _ _ c3 (k1.extBut _ _ c1 e))))
 have d1:S1 (i+1) g5:=D1.frame _ _ _ s2 fun c hc o e=>k5.extBut c o (no1 c hc) (k4.extBut c o (n21 c hc) (k3.extBut c o (no1 c hc) e));have d2:S2 (i+1) g5:=D2.frame _ _ _ s4 fun c hc o e=>k5.extBut c o (no2 c hc) e;have zlt:z<g5.objs.size:=Au z5;have e1:∀c∈fp1,∀o,g5.get? c=some o->c<g5.objs.size:=fun c _ o e=>Au e;show wpAny _ _ (Builtin.SmallTypes.ownedTupleHandOut (.ref z) (.ref g5.objs.size) >>= _) _ _ _;refine Aa ?_;unfold Builtin.SmallTypes.ownedTupleHandOut;have z6:IsZip (g5.push { cls:=.type "tuple",data:=.seq #[x,y] }) z TI TO .ellipsis:=Ae _ z5;refine Aa (A5 z6 (by simp) fun g7 z7 k7=>?_);replace z7:IsZip g7 z TI TO (rawInt g5.objs.size):=z7;refine A5 z7 (by simp) fun g8 z8 k8=>?_;replace z8:IsZip g8 z TI TO (rawInt g5.objs.size):=z8;have up:∀c o,c≠z->g5.get? c=some o->g8.get? c=some o:=fun c o c1 e=>k8.extBut _ _ c1 (k7.extBut _ _ c1 (Ae _ e));have T8:IsPair g8 g5.objs.size x y:=k8.extBut _ _ (Nat.ne_of_gt zlt) (k7.extBut _ _ (Nat.ne_of_gt zlt) (Aq _ rfl));have sz8:g8.objs.size=g5.objs.size+1:=by rw[k8.1,k7.1,Heap.size_push]
 rw[hsz] at z8 T8 sz8;refine Ac ⟨_,rfl,?_⟩;show Q (.ref g5.objs.size) _;rw[hsz];exact hQ x y g8 _ px py z8 (up _ _ D.TOz t5) (D1.frame _ _ _ d1 fun c hc o e=>up c o (ne1 c hc) e) (D2.frame _ _ _ d2 fun c hc o e=>up c o (ne2 c hc) e) T8 sz8 fun c o c1 c2 c3 c4 e=>up c o c1 (kk c o c1 c2 c3 c4 e)
theorem zlm {Q:Fin->Shared->Prop} (D1:Draws prog w A i1 fp1 n1 P1 S1) (D2:Draws prog w A i2 fp2 n2 P2 S2) (D:Apart z TI TO i1 i2 fp1 fp2)
  (hz:IsZip s.heap z TI TO .none) (hTI:IsPair s.heap TI (.ref i1) (.ref i2)) (hTO:IsPair s.heap TO a b) (h1:S1 i s.heap) (h2:S2 i s.heap) (hend:i=n1 \/ (i<n1/\i=n2))
  (hE:∀h' e tk,(∀c o,c≠z->c≠TO->c≠i1->c≠i2->s.heap.get? c=some o->h'.get? c=some o)->(∃o,h'.get? e=some o/\o.cls=.type "StopIteration")->E (.ref e) { s with heap:=h',toks:=tk }) :
  wpAny (model prog w) A (Builtin.«zip.__next__» ⟨[.ref z],[]⟩) Q E s:=by
 have ne1:∀c∈fp1,c≠z:=fun c hc e=>D.z1 (e ▸ hc);have ne2:∀c∈fp2,c≠z:=fun c hc e=>D.z2 (e ▸ hc);have no1:∀c∈fp1,c≠TO:=fun c hc e=>D.o1 (e ▸ hc);have no2:∀c∈fp2,c≠TO:=fun c hc e=>D.o2 (e ▸ hc);have n12:∀c∈fp2,c≠i1:=fun c hc e=>D.x12 (e ▸ hc);have i1z:i1≠z:=ne1 _ D.m1;have i2z:i2≠z:=ne2 _ D.m2;have TOi1:TO≠i1:=(no1 _ D.m1).symm;show wpAny _ _ (field (.ref z) 2 >>= _) _ _ _;refine Aa (A9 hz rfl (x:=.bool false) rfl ?_);show wpAny _ _ (field (.ref z) 3 >>= _) _ _ _;refine Aa (A9 hz rfl (x:=.ref TI) rfl ?_);refine Aa (wpAny_seqItems hTI rfl ?_);show wpAny _ _ (Builtin.SmallTypes.ownedTupleIsFree (.ref z) >>= _) _ _ _;refine Aa ?_;unfold Builtin.SmallTypes.ownedTupleIsFree;refine Aa (A9 hz rfl (x:=.none) rfl (Ac ?_));simp only[if_true];refine Aa (wpAny_rule ?_);refine Aa (A9 hz rfl (x:=.ref TO) rfl ?_);refine Aa (A5 hz (by simp) fun g1 hz1 k1=>?_);replace hz1:IsZip g1 z TI TO .ellipsis:=hz1;refine Aa ?_;simp only[List.zipIdx_cons,List.zipIdx_nil,List.forIn_cons,List.forIn_nil];refine Aa (Aa (wpAny_onRaise ?_));have f1:=D1.frame _ _ _ h1 fun c hc o e=>k1.extBut c o (ne1 c hc) e;rcases hend with e0 | ⟨l1,e0⟩
 ·show wpAny _ _ (Builtin.SmallTypes.nextOf (.ref i1) >>= _) _ _ _
  refine Aa (D1.done _ _ _ (e0 ▸ f1) fun g2 e k2 he=>?_);obtain⟨oe,hoe,hce⟩:=he;have z2:IsZip g2 z TI TO .ellipsis:=k2 _ _ i1z.symm hz1;have ez:e≠z:=fun x=>by subst x; rw[z2] at hoe; cases hoe; simp at hce
  refine A5 z2 (by simp) fun g3 _ k3=>hE g3 e _ (fun c o c1 _ c3 _ x=>k3.extBut _ _ c1 (k2 _ _ c3 (k1.extBut _ _ c1 x))) ⟨oe,k3.extBut _ _ ez hoe,hce⟩
 ·show wpAny _ _ (Builtin.SmallTypes.nextOf (.ref i1) >>= _) _ _ _
  refine Aa (D1.item i _ _ _ l1 f1 fun x g2 tk2 px s2 k2=>Ac ?_);have t2:IsPair g2 TO a b:=k2.extBut _ _ TOi1 (k1.extBut _ _ D.TOz hTO);refine Aa (wpAny_seqItems t2 rfl ?_);refine Aa (wpAny_updateSeq_pair t2 fun g3 t3 k3=>?_);refine Aa (wpAny_letGo (Ac ?_));refine Aa (Aa (wpAny_onRaise ?_));have f2:S2 i g3:=D2.frame _ _ _ h2 fun c hc o e=>k3.extBut c o (no2 c hc) (k2.extBut c o (n12 c hc) (k1.extBut c o (ne2 c hc) e));show wpAny _ _ (Builtin.SmallTypes.nextOf (.ref i2) >>= _) _ _ _;refine Aa (D2.done _ _ _ (e0 ▸ f2) fun g4 e k4 he=>?_);obtain⟨oe,hoe,hce⟩:=he;have z4:IsZip g4 z TI TO .ellipsis:=k4 _ _ i2z.symm (k3.extBut _ _ D.TOz.symm (k2.extBut _ _ i1z.symm hz1));have ez:e≠z:=fun x=>by subst x; rw[z4] at hoe; cases hoe; simp at hce
  refine A5 z4 (by simp) fun g5 _ k5=>hE g5 e _ (fun c o c1 c2 c3 c4 x=>k5.extBut _ _ c1 (k4 _ _ c4 (k3.extBut _ _ c2 (k2.extBut _ _ c3 (k1.extBut _ _ c1 x))))) ⟨oe,k5.extBut _ _ ez hoe,hce⟩
end
theorem zii {prog:Program}{w:World}{A:Around}{z TI TO i1 i2:Addr}{fp1 fp2:List Addr}{n1 n2:Nat}{P1 P2:Nat->Value->Prop}{S1 S2:Nat->Heap->Prop}
  (D1:Draws prog w A.in1 i1 fp1 n1 P1 S1) (D2:Draws prog w A.in1 i2 fp2 n2 P2 S2) (D:Apart z TI TO i1 i2 fp1 fp2) :
  WalksT prog w A z (z::TI::TO::(fp1++fp2)) [z,TO,i1,i2] (min n1 n2) (fun i vals=>∃x y,P1 i x/\P2 i y/\vals=#[x,y])
   (fun i h=>IsZip h z TI TO .none/\IsPair h TI (.ref i1) (.ref i2)/\(∃a b,IsPair h TO a b)/\S1 i h/\S2 i h)
   (fun i T h=>IsZip h z TI TO (rawInt T)/\IsPair h TI (.ref i1) (.ref i2)/\(∃a b,IsPair h TO a b)/\S1 (i+1) h/\S2 (i+1) h/\T≠z/\T≠TO/\T≠i1/\T≠i2) where
 sub:=fun c hc=>by
  simp at hc ⊢;rcases hc with rfl | rfl | rfl | rfl
  ·simp
  ·simp
  ·exact .inr (.inr (.inr (.inl D.m1)))
  ·exact .inr (.inr (.inr (.inr D.m2)))
 frame:=fun i h h' hst hk=>by
  obtain⟨hz,hTI,⟨a,b,hTO⟩,h1,h2⟩:=hst;exact⟨hk z (by simp) _ hz,hk TI (by simp) _ hTI,⟨a,b,hk TO (by simp) _ hTO⟩,D1.frame _ _ _ h1 fun c hc o e=>hk c (by simp[hc]) o e,D2.frame _ _ _ h2 fun c hc o e=>hk c (by simp[hc]) o e⟩
 item:=fun i s Q E hi hst hQ=>by
  obtain⟨hz,hTI,⟨a,b,hTO⟩,h1,h2⟩:=hst;have hT:s.TypeIs (.ref z) "zip":=⟨_,hz,rfl⟩;unfold pyNext;refine Aa (wpAny_attempt (wpAny_callSpecial?_slot (name:=Str.ofString "__next__") hT F.slot_zip_next (A2 F.slot_zip_next hT F.entry_zip_next
   (zjp D1 D2 D hz hTI hTO h1 h2 (AM hi (Nat.min_le_left ..)) (AM hi (Nat.min_le_right ..)) fun x y h' tk px py a1 a2 a3 a4 a5 a6 hk=>Ac ?_) (F.args_zip_next_1 _))))
  have lt:∀{c o},s.heap.get? c=some o->s.heap.objs.size≠c:=fun e=>Nat.ne_of_gt (Au e);obtain⟨o1,l1⟩:=D1.live _ _ h1;obtain⟨o2,l2⟩:=D2.live _ _ h2;exact hQ s.heap.objs.size #[x,y] h' tk ⟨_,_,px,py,rfl⟩ (Af _) ⟨_,a5,rfl,_,rfl⟩ ⟨a1,hk _ _ D.TIz D.TITO D.TIi1 D.TIi2 hTI,⟨_,_,a2⟩,a3,a4,lt hz,lt hTO,lt l1,lt l2⟩
   fun c o hc e=>hk c o (fun x=>hc (by simp[x])) (fun x=>hc (by simp[x])) (fun x=>hc (by simp[x])) (fun x=>hc (by simp[x])) e
 go:=fun elts k pos i T s Q E hm hQ=>by
  obtain⟨hz,hTI,⟨a,b,hTO⟩,h1,h2,_⟩:=hm;refine wpAny_letOwnedTupleGo_zip hz fun h' hz' hs'=>hQ h' ⟨hz',hs'.extBut _ _ D.TIz hTI,⟨a,b,hs'.extBut _ _ D.TOz hTO⟩,
   D1.frame _ _ _ h1 fun c hc o e=>hs'.extBut c o (fun q=>D.z1 (q ▸ hc)) e,D2.frame _ _ _ h2 fun c hc o e=>hs'.extBut c o (fun q=>D.z2 (q ▸ hc)) e⟩ fun c o hc e=>hs'.extBut _ _ (fun x=>hc (by simp[x])) e
 apart:=fun i T h hm hT=>by
  obtain⟨_,_,_,_,_,t1,t2,t3,t4⟩:=hm;simp at hT;rcases hT with rfl | rfl | rfl | rfl
  ·exact t1 rfl
  ·exact t2 rfl
  ·exact t3 rfl
  ·exact t4 rfl
 done:=fun s Q E hst hQ=>by
  obtain⟨hz,hTI,⟨a,b,hTO⟩,h1,h2⟩:=hst;have hT:s.TypeIs (.ref z) "zip":=⟨_,hz,rfl⟩;have hend:min n1 n2=n1 \/ (min n1 n2<n1/\min n1 n2=n2):=by omega
  unfold pyNext;refine Aa (wpAny_attempt (wpAny_callSpecial?_slot (name:=Str.ofString "__next__") hT F.slot_zip_next
   (A2 F.slot_zip_next hT F.entry_zip_next (zlm D1 D2 D hz hTI hTO h1 h2 hend fun h' e tk hk he=>?_) (F.args_zip_next_1 _))))
  obtain⟨o,ho,hc⟩:=he;refine Aa (wpAny_isInstance (T:="StopIteration") (b:=true) ⟨o,ho,hc⟩ isSubtype_stop ?_);exact Ac (hQ _ tk fun c o hc e=>hk c o (fun x=>hc (by simp[x])) (fun x=>hc (by simp[x])) (fun x=>hc (by simp[x])) (fun x=>hc (by simp[x])) e)
 self:=fun i s Q E hst hQ=>wpAny_pyIter_zip hst.1 hQ
end Zp
end
section
namespace L2
open PySem PySem.Spec PyProof.Rows
section
variable {X:Cx}{pins:List (Addr×Obj)}{σ:St}{H:Hp}{s:Shared}{h':Heap}
theorem Inv.turneds {t':Nat}{ch:List Addr} (I:Inv X pins σ H s) (hf:∀b∈ch,FpOk X pins H b) (k:∀b o,b∉ch->s.heap.get? b=some o->h'.get? b=some o):Inv X pins σ H { s with heap:=h',toks:=t' }:=by
 have nit:∀b u,H b=some u->b∉ch:=fun b u e z=>by have:=(hf b z).1; rw[this] at e; cases e
 refine I.step (g':=s.gens) (d':=s.drawn) (ch:=ch) (fun b hb=>?_) (fun b o _ _ hc e _=>k b o hc e) (fun b o _ _ hc e _=>⟨o.slots,k b o hc e⟩) (fun _ _ _ _ n=>n)
  (fun b o hc e=>⟨o,k b o hc e⟩) (fun _ _ e=>e) (fun _ _ _ e=>e) (fun b ps e=>⟨#[],by rw[e]; simp⟩) (fun m hm=>?_) (fun b u e=>?_) I.bare
 ·obtain⟨f0,f1,f2,f3,f4,f5⟩:=hf b hb
  exact⟨f3,f1,f4,f5⟩
 ·obtain⟨o,es,ep,ho,r⟩:=hm
  exact⟨o,es,ep,k _ o (fun z=>(hf _ z).2.1 rfl) ho,r⟩
 ·refine (I.hok b u e).stay (fun c v hc q=>k c v ?_ q) (fun _ q=>q) fun _ _ q=>q
  rcases hc with z | z
  ·rw[z]; exact nit b u e
  ·exact nit c _ z
theorem Inv.adopt {a:Addr}{o:HO} (I:Inv X pins σ H s) (hn:H a=none) (h1:X.s₀.heap.objs.size<=a) (h2:a≠X.env.locals) (h3:∀x c,X.env.cells.lookup x=some c->c≠a) (h4:∀p∈X.pn++pins,p.1≠a)
  (new:zJ X.prog X.w (upd H a o) s.heap a o):Inv X pins σ (upd H a o) s:=by
 refine I.step (h':=s.heap) (g':=s.gens) (t':=s.toks) (d':=s.drawn) (ch:=[a]) (fun b hb=>?_) (fun b o _ _ hc e _=>e) (fun b o _ _ hc e _=>⟨o.slots,e⟩) (fun b o hc e n=>?_)
  (fun b o hc e=>⟨o,e⟩) (fun b xs e=>?_) (fun b o u e=>?_) (fun b ps e=>⟨#[],?_⟩) (fun m hm=>hm) (fun b u e=>?_) I.bare
 ·have e:b=a:=by simpa using hb
  subst e;exact⟨.inr h1,h2,h3,h4⟩
 ·rw[zk (fun z=>hc (by simp[z]))]; exact n
 ·rw[zk (zj e hn)]; exact e
 ·rw[zk (zj e hn)]; exact e
 ·rw[zk (zj e hn),e]; simp
 ·by_cases hb:b=a
  ·subst hb; rw[upd_same] at e; cases e; exact new
  ·rw[zk hb] at e
   exact (I.hok b u e).stay (fun _ _ _ q=>q) (fun c q=>by rw[zk (zj q hn)]; exact q) fun c xs q=>by rw[zk (zj q hn)]; exact q
theorem Inv.grown {t':Nat}{ch:List Addr}{a:Addr}{o:HO} (I:Inv X pins σ H s) (hf:∀b∈ch,FpOk X pins H b) (k:∀b o,b∉ch->s.heap.get? b=some o->h'.get? b=some o) (hp:s.heap.objs.size<=a)
  (new:zJ X.prog X.w (upd H a o) h' a o):Inv X pins σ (upd H a o) { s with heap:=h',toks:=t' }:=by
 have I1:Inv X pins σ H { s with heap:=h',toks:=t' }:=I.turneds hf k;obtain⟨f0,f1,f2,f3,f4,f5⟩:=I.fpOk hp (I.hok.fresh hp);exact I1.adopt f0 (AG I.sz hp) f1 f4 f5 new
theorem zir {b t:Addr}{o:Obj} (I:Inv X pins σ H s) (f:FpOk X pins H b) (hk:X.K.lookup t=some o):t≠b:=by
 intro z;subst z;have e:=I.ok.mod.kin t o hk;rcases f.2.2.2.1 with q | q
 ·exact I.ok.noex t o e q
 ·exact absurd (AM (Au (I.ok.bs t o e).1) q) (Nat.lt_irrefl _)
theorem zkm {b t:Addr}{xs:List V} (I:Inv X pins σ H s) (f:FpOk X pins H b) (h:SqT X.K H t xs):t≠b:=by
 rcases h with (h | ⟨o,h⟩) | ⟨o,_,_,hk,_⟩
 ·exact zj h f.1
 ·exact zj h f.1
 ·exact zir I f hk
theorem zlS {b t:Addr}{xs:List V} (I:Inv X pins σ H s) (f:FpOk X pins H b) (h:SqL X.K H t xs):t≠b:=by
 rcases h with (h | ⟨o,h⟩) | ⟨o,_,_,hk,_⟩
 ·exact zj h f.1
 ·exact zj h f.1
 ·exact zir I f hk
end
theorem zfN {P:Program}{w:World}{K:Ad}{J:It}{fp wr:List Addr}{it:Addr}{tn:Nat->Heap->Prop}{elts:List Expr}{k:Nat}{pos:Pos} (mem:it∈fp)
  (obj:∀i h,tn i h->∀b∈fp,∃o,h.get? b=some o/\∀v,o.data≠.cell v) (keep:∀i h h',tn i h->(∀b∈fp,∀o,h.get? b=some o->h'.get? b=some o)->tn i h') (hw:∀b∈wr,b∈fp)
  (W:∀(X:Cx),X.prog=P->X.w=w->X.K=K->X.calm=true->∀(i:Nat) (pins:List (Addr×Obj)) (s:Shared) (σ:St) (H:Hp),Inv X pins σ H s->(∀b∈fp,FpOk X pins H b)->tn i s.heap->(J.go i H \/ J.stop i H)->
   ∃(fp':List Addr) (n:Nat) (Pt:Nat->Array Value->Prop) (S:Nat->Heap->Prop) (Mid:Nat->Addr->Heap->Prop),WalksT P w X.A it fp' wr n Pt S Mid/\S i s.heap/\(∀j h,S j h->tn j h)/\
    (J.go i H->i<n/\∀vals,Pt i vals->∃xs:List V,Vals xs vals.toList/\xs.length<=sizeLine/\∀p,H p=none->J.yld i H (.ref p) (upd H p (.tup xs)))/\(J.stop i H->i=n))
  (self:∀(A:Around) (i:Nat) (s:Shared) (Q:Value->Shared->Prop) (E:Value->Shared->Prop),tn i s.heap->Q (.ref it) s->wpAny (model P w) A (pyIter (.ref it)) Q E s) :
  Turn P w K (.Tuple elts k pos) J fp it tn where
 mem:=mem
 obj:=obj
 keep:=keep
 item:=by
  intro X hP hw' hK hc i pins s σ H E I hf st hg;obtain⟨fp',n,Pt,S,Mid,WT,st',tnS,g,_⟩:=W X hP hw' hK hc i pins s σ H I hf st (.inl hg);obtain⟨hi,hv⟩:=g hg;subst hP hw' hK;refine WT.item i s _ _ hi st' fun T vals h' tk hp hT htup hm hk=>⟨.ref T,rfl,?_⟩;obtain⟨xs,rv,hz,hy⟩:=hv vals hp;have I1:Inv X pins σ (upd H T (.tup xs)) { s with heap:=h',toks:=tk }:=I.grown (ch:=wr) (fun b hb=>hf b (hw b hb)) hk hT (show zJ X.prog X.w _ h' T (.tup xs) from ⟨hz,vals.toList,rv,by have q:IsTup h' T vals:=htup; simpa using q⟩);have ltT:∀b∈fp,b≠T:=fun b hb=>by
   obtain⟨o,e,_⟩:=obj i _ st b hb;exact AE (AM (Au e) hT)
  have hf1:∀b∈fp,FpOk X pins (upd H T (.tup xs)) b:=fun b hb=>by
   obtain⟨f0,fr⟩:=hf b hb;exact⟨by rw[zk (ltT b hb)]; exact f0,fr⟩
  refine WT.go elts k pos i T _ _ _ hm fun h'' st'' hk''=>?_;have I2:Inv X pins σ (upd H T (.tup xs)) { s with heap:=h'',toks:=tk }:=I1.turneds (s:={ s with heap:=h',toks:=tk }) (t':=tk) (ch:=wr) (fun b hb=>hf1 b (hw b hb)) hk'';exact⟨.ref T,_,I2,rfl,hy T (I.hok.fresh hT),tnS _ _ st'',fun b hb=>(hf1 b hb).1⟩
 done:=by
  intro X hP hw' hK hc i pins s σ H E I hf st hg;obtain⟨fp',n,Pt,S,Mid,WT,st',tnS,_,g⟩:=W X hP hw' hK hc i pins s σ H I hf st (.inr hg);subst hP hw' hK;have e:=g hg;subst e;exact WT.done s _ _ st' fun h' tk hk=>⟨rfl,I.turneds (ch:=wr) (fun b hb=>hf b (hw b hb)) hk⟩
 self:=self
def Itz (K:Ad) (t1 t2:Addr):It:=
 ⟨fun i H=>∃xs ys,SqT K H t1 xs/\SqT K H t2 ys/\i<min xs.length ys.length,
  fun i H v H'=>∃p x y,v=.ref p/\H p=none/\H'=upd H p (.tup [x,y])/\(∀xs,SqT K H t1 xs->xs[i]?=some x)/\∀ys,SqT K H t2 ys->ys[i]?=some y,
  fun i H=>∃xs ys,SqT K H t1 xs/\SqT K H t2 ys/\i=min xs.length ys.length⟩
theorem two_line:(2:Nat)<=sizeLine:=by rw[sizeLine_eq]; decide
theorem zjn {P:Program}{w:World}{K:Ad}{elts:List Expr}{k:Nat}{pos:Pos} (t1 t2 z TI TO i1 i2:Addr) (hd:TI≠z/\TO≠z/\TI≠TO/\TI≠i1/\TI≠i2/\z≠i1/\z≠i2/\TO≠i1/\TO≠i2/\i1≠i2) :
  Turn P w K (.Tuple elts k pos) (Itz K t1 t2) [z,TI,TO,i1,i2] z (fun i h=>IsZip h z TI TO .none/\IsPair h TI (.ref i1) (.ref i2)/\(∃a b,IsPair h TO a b)/\h.IsTupleIter i1 t1 i/\h.IsTupleIter i2 t2 i):=by
 obtain⟨d1,d2,d3,d4,d5,d6,d7,d8,d9,d10⟩:=hd;refine zfN (wr:=[z,TO,i1,i2]) (by simp) (fun i h st b hb=>?_) (fun i h h' st kk=>?_) (fun b hb=>?_) (fun X hP hw hK hc i pins s σ H I hf st hgs=>?_) fun A i s Q E st h=>wpAny_pyIter_zip st.1 h
 ·obtain⟨a1,a2,⟨a,b',a3⟩,⟨o4,a4,_,e4⟩,⟨o5,a5,_,e5⟩⟩:=st
  simp at hb;rcases hb with rfl | rfl | rfl | rfl | rfl
  ·exact⟨_,a1,fun v z=>by cases z⟩
  ·exact⟨_,a2,fun v z=>by cases z⟩
  ·exact⟨_,a3,fun v z=>by cases z⟩
  ·exact⟨_,a4,fun v z=>by rw[e4] at z; cases z⟩
  ·exact⟨_,a5,fun v z=>by rw[e5] at z; cases z⟩
 ·obtain⟨a1,a2,⟨a,b',a3⟩,a4,a5⟩:=st
  exact⟨kk z (by simp) _ a1,kk TI (by simp) _ a2,⟨a,b',kk TO (by simp) _ a3⟩,a4.at fun o e=>kk i1 (by simp) o e,a5.at fun o e=>kk i2 (by simp) o e⟩
 ·simp at hb ⊢
  rcases hb with rfl | rfl | rfl | rfl <;> simp
 ·subst hP hw hK
  have hd:∃xs ys,SqT X.K H t1 xs/\SqT X.K H t2 ys:=by
   rcases hgs with ⟨xs,ys,a,b,_⟩ | ⟨xs,ys,a,b,_⟩
   ·exact⟨xs,ys,a,b⟩
   ·exact⟨xs,ys,a,b⟩
  obtain⟨xs,ys,q1,q2⟩:=hd;obtain⟨us,r1,p1,_⟩:=I.tuple q1;obtain⟨ws,r2,p2,_⟩:=I.tuple q2;have hl1:=r1.length;have hl2:=r2.length;have hh:=I.ok.hd hc;obtain⟨a1,a2,a3,a4,a5⟩:=st;have f:=fun b hb=>zkm I (hf b hb) q1;have f':=fun b hb=>zkm I (hf b hb) q2;have AP:Zp.Apart z TI TO i1 i2 [i1,t1] [i2,t2]:=by
   refine⟨?_,?_,?_,?_,by simp,by simp,?_,?_,d1,d2,d3,d4,d5⟩
   ·simp; exact⟨d6,(f z (by simp)).symm⟩
   ·simp; exact⟨d7,(f' z (by simp)).symm⟩
   ·simp; exact⟨d8,(f TO (by simp)).symm⟩
   ·simp; exact⟨d9,(f' TO (by simp)).symm⟩
   ·simp; exact⟨d10,(f' i1 (by simp)).symm⟩
   ·simp; exact⟨d10.symm,(f i2 (by simp)).symm⟩
  have WZ:=Zp.zii (prog:=X.prog) (w:=X.w) (A:=X.A) (Zp.zeF (A:=X.A.in1) hh i1 t1 (f i1 (by simp)) us.toArray) (Zp.zeF (A:=X.A.in1) hh i2 t2 (f' i2 (by simp)) ws.toArray) AP;refine⟨_,_,_,_,_,WZ,⟨a1,a2,a3,⟨a4,p1⟩,⟨a5,p2⟩⟩,fun j h st=>⟨st.1,st.2.1,st.2.2.1,st.2.2.2.1.1,st.2.2.2.2.1⟩,fun g=>?_,fun g=>?_⟩
  ·obtain⟨xs',ys',q1',q2',hi⟩:=g
   have e1:=I.tuple_inj q1' q1;have e2:=I.tuple_inj q2' q2;subst e1 e2;refine⟨by simpa[<- hl1,<- hl2] using hi,fun vals hp=>?_⟩;obtain⟨x,y,px,py,rfl⟩:=hp;have px':us[i]?=some x:=by simpa using px
   have py':ws[i]?=some y:=by simpa using py
   have lx:i<xs'.length:=by omega
   have ly:i<ys'.length:=by omega
   have gx:xs'[i]?=some xs'[i]:=by simp[lx]
   have gy:ys'[i]?=some ys'[i]:=by simp[ly]
   obtain⟨u,e3,ru⟩:=r1.get gx;obtain⟨u',e4,ru'⟩:=r2.get gy;rw[px'] at e3; cases e3;rw[py'] at e4; cases e4;refine⟨[xs'[i],ys'[i]],.cons ru (.cons ru' .nil),two_line,fun p hp=>⟨p,_,_,rfl,hp,rfl,fun zs hz=>?_,fun zs hz=>?_⟩⟩
   ·rw[I.tuple_inj hz q1]; exact gx
   ·rw[I.tuple_inj hz q2]; exact gy
  ·obtain⟨xs',ys',q1',q2',hi⟩:=g
   have e1:=I.tuple_inj q1' q1;have e2:=I.tuple_inj q2' q2;subst e1 e2
   simpa[<- hl1,<- hl2] using hi
theorem zjy (l1 l2:Addr) (xs ys:Array Value) :
  Meets (Builtin.«zip.__new__» ⟨[.type "zip",.ref l1,.ref l2],[]⟩) (fun _ R s=>s.heap.IsTuple l1 xs/\s.heap.IsTuple l2 ys/\
   ∀h',IsZip h' (s.heap.objs.size+4) (s.heap.objs.size+2) (s.heap.objs.size+3) .none->IsPair h' (s.heap.objs.size+2) (.ref s.heap.objs.size) (.ref (s.heap.objs.size+1))->
   IsPair h' (s.heap.objs.size+3) .none .none->h'.IsTupleIter s.heap.objs.size l1 0->h'.IsTupleIter (s.heap.objs.size+1) l2 0->
   (∀c o,s.heap.get? c=some o->h'.get? c=some o)->R (.ok (.ret (.ref (s.heap.objs.size+4)))) { s with heap:=h' }):=
 .of_wp fun prog w A R s h=>by
  obtain⟨hp,g,d,tk,os⟩:=s; obtain⟨hl1,hl2,h⟩:=h;have hsub:=sub_zip;have hL1:Heap.IsTuple (Shared.heap ⟨hp,g,d,tk,os⟩) l1 xs:=hl1;have hL2:Heap.IsTuple (Shared.heap ⟨hp.push { cls:=.type "tuple_iterator",data:=.fields #[.ref l1,.int 0 0] },g,d,tk,os⟩) l2 ys:=Heap.IsTuple.push hl2 _
  wp_walk using wpAny_pyIter_tuple hL1,wpAny_pyIter_tuple hL2
  refine⟨_,rfl,?_⟩;dsimp only at h ⊢;have z1:∀(h:Heap) (o:Obj),(h.push o).objs.size=h.objs.size+1:=fun h o=>Heap.size_push ..;simp only[z1,Nat.add_assoc,Nat.reduceAdd];refine h _ ?_ ?_ ?_ ?_ ?_ fun c o x=>Ae _ (Ae _ (Ae _ (Ae _ (Ae _ x))))
  ·exact Heap.get?_push_at (by simp only[z1]) rfl
  ·exact Ae _ (Ae _ (Heap.get?_push_at (by simp only[z1]) rfl))
  ·exact Ae _ (Heap.get?_push_at (by simp only[z1]) rfl)
  ·exact⟨_,Ae _ (Ae _ (Ae _ (Ae _ (Aq _ rfl)))),rfl,rfl⟩
  ·exact⟨_,Ae _ (Ae _ (Ae _ (Heap.get?_push_at (by simp only[z1]) rfl))),rfl,rfl⟩
section
variable {X:Cx}{elts:List Expr}{k:Nat}{tpos:Pos}
def iZip (K:Ad) (ta:TA):TI:=fun σ H R=>ta σ H fun vs H1=>∃t1 t2,vs=[.ref t1,.ref t2]/\(∃xs,SqT K H1 t1 xs)/\(∃ys,SqT K H1 t2 ys)/\R (Itz K t1 t2) H1
theorem zlM {a b:Expr}{ta:TA}{p pos:Pos} (hg:Gl X "zip") (hm:X.mg "zip"=none) (hv:AS "zip"=some (.type "zip")) (ha:PA X [a,b] ta) (hs:starEach [a,b] X.env=[(false,eval a X.env),(false,eval b X.env)]:=by rfl) (hs2:starEach [b] X.env=[(false,eval b X.env)]:=by rfl) :
  PI X (.Tuple elts k tpos) (.Call (.Name "zip" p) [a,b] [] pos) (iZip X.K ta):=by
 intro pins s σ H R I h;refine Call_ (zb9 I hg hm hv (PyProof.Rows.callWith_type1 (thn (ha pos pins s σ H _ I h) fun us s1 ⟨vs,H1,I1,r1,q1⟩=>?_) (by rw[hs,hs2]) (by rw[hs2]; rfl)));obtain⟨t1,t2,e,⟨xs,q1⟩,⟨ys,q2⟩,q⟩:=q1;subst e;obtain⟨u,u',rfl,ru,ru'⟩:=vals2 r1;cases ru;cases ru';obtain⟨is1,_,p1,_⟩:=I1.tuple q1;obtain⟨is2,_,p2,_⟩:=I1.tuple q2;refine callType_new F.called_zip (by decide) (F.typeCall_zip_2 _ _) (F.newCall_zip_2 _ _) (fun obj=>F.args_object_init_3 obj _ _) F.entry_zip_new (zjy t1 t2 is1.toArray is2.toArray) ⟨p1,p2,fun h' a1 a2 a3 a4 a5 kk=>?_⟩;refine⟨⟨_,a1,rfl⟩,wpAny_pyIter_zip a1 ?_⟩;have I2:Inv X pins σ H1 { s1 with heap:=h' }:=I1.kept (t':=s1.toks) kk;refine⟨s1.heap.objs.size+4,[s1.heap.objs.size+4,s1.heap.objs.size+2,s1.heap.objs.size+3,s1.heap.objs.size,s1.heap.objs.size+1],_,_,H1,rfl,I2,zjn t1 t2 _ _ _ _ _ (by refine⟨?_,?_,?_,?_,?_,?_,?_,?_,?_,?_⟩ <;> (intro z; have z':(_:Nat)=_:=z; omega)),⟨a1,a2,⟨_,_,a3⟩,a4,a5⟩,fun b hb=>?_,q⟩;have hb':s1.heap.objs.size<=b:=by
  simp only[List.mem_cons,List.not_mem_nil,or_false] at hb;rcases hb with rfl | rfl | rfl | rfl | rfl
  ·exact Nat.le_add_right _ _
  ·exact Nat.le_add_right _ _
  ·exact Nat.le_add_right _ _
  ·exact Af _
  ·exact Nat.le_add_right _ _
 exact I1.fpOk hb' (I1.hok.fresh hb')
end
end L2
end
section
namespace L2
open PySem PySem.Spec PyProof.Rows
def Ite (K:Ad) (a:Addr):It:=
 ⟨fun i H=>∃xs,SqL K H a xs/\i<xs.length,
  fun i H v H'=>∃p x,v=.ref p/\H p=none/\H'=upd H p (.tup [.int i,x])/\∀xs,SqL K H a xs->xs[i]?=some x,
  fun i H=>∃xs,SqL K H a xs/\i=xs.length⟩
theorem zhR {P:Program}{w:World}{K:Ad}{elts:List Expr}{k:Nat}{pos:Pos} (a e it:Addr) (hd:e≠it) :
  Turn P w K (.Tuple elts k pos) (Ite K a) [e,it] e (fun i h=>(∃old,IsEnum h e it i old)/\h.IsListIter it a i):=by
 refine zfN (wr:=[e,it]) (by simp) (fun i h st b hb=>?_) (fun i h h' st kk=>?_) (fun b hb=>hb) (fun X hP hw hK hc i pins s σ H I hf st hgs=>?_) fun A i s Q E st h=>?_
 ·obtain⟨⟨old,a1⟩,⟨o4,a4,_,e4⟩⟩:=st
  simp at hb;rcases hb with rfl | rfl
  ·exact⟨_,a1,fun v z=>by cases z⟩
  ·exact⟨_,a4,fun v z=>by rw[e4] at z; cases z⟩
 ·obtain⟨⟨old,a1⟩,a4⟩:=st
  exact⟨⟨old,kk e (by simp) _ a1⟩,a4.at fun o q=>kk it (by simp) o q⟩
 ·subst hP hw hK
  have hd':∃xs,SqL X.K H a xs:=by
   rcases hgs with ⟨xs,q,_⟩ | ⟨xs,q,_⟩
   ·exact⟨xs,q⟩
   ·exact⟨xs,q⟩
  obtain⟨xs,q1⟩:=hd';obtain⟨us,r1,p1,_⟩:=I.list q1;have hl1:=r1.length;have hh:=I.ok.hd hc;obtain⟨a1,a4⟩:=st;have f:=fun b hb=>zlS I (hf b hb) q1;have WZ:=WalksT.enumerateD (prog:=X.prog) (w:=X.w) (A:=X.A) (Draws.list (A:=X.A.in1) hh it a (f it (by simp)) us.toArray) e hd (by simp; exact⟨hd,(f e (by simp)).symm⟩) (by simp);refine⟨_,_,_,_,_,WZ,⟨a1,a4,p1.isList⟩,fun j h st=>⟨st.1,st.2.1⟩,fun g=>?_,fun g=>?_⟩
  ·obtain⟨xs',q1',hi⟩:=g
   have e1:=I.list_inj q1' q1;subst e1;refine⟨by simpa[<- hl1] using hi,fun vals hp=>?_⟩;obtain⟨t,x,px,rfl⟩:=hp;have px':us[i]?=some x:=by simpa using px
   have gx:xs'[i]?=some xs'[i]:=by simp[hi]
   obtain⟨u,e3,ru⟩:=r1.get gx;rw[px'] at e3; cases e3;refine⟨[.int i,xs'[i]],.cons ⟨_,rfl⟩ (.cons ru .nil),two_line,fun p hp=>⟨p,_,rfl,hp,rfl,fun zs hz=>?_⟩⟩;rw[I.list_inj hz q1]; exact gx
  ·obtain⟨xs',q1',hi⟩:=g
   have e1:=I.list_inj q1' q1;subst e1
   simpa[<- hl1] using hi
 ·obtain⟨⟨old,a1⟩,_⟩:=st
  exact wpAny_pyIter_enum a1 h
section
variable {X:Cx}{elts:List Expr}{k:Nat}{tpos:Pos}
def zna (K:Ad) (ta:TA):TI:=fun σ H R=>ta σ H fun vs H1=>∃a,vs=[.ref a]/\(∃xs,SqL K H1 a xs)/\R (Ite K a) H1
theorem zio {a:Expr}{ta:TA}{p pos:Pos} (hg:Gl X "enumerate") (hm:X.mg "enumerate"=none) (hv:AS "enumerate"=some (.type "enumerate")) (ha:PA X [a] ta) (hs:starEach [a] X.env=[(false,eval a X.env)]:=by rfl) :
  PI X (.Tuple elts k tpos) (.Call (.Name "enumerate" p) [a] [] pos) (zna X.K ta):=by
 intro pins s σ H R I h;refine Call_ (zb9 I hg hm hv (PyProof.Rows.callWith_type1 (thn (ha pos pins s σ H _ I h) fun us s1 ⟨vs,H1,I1,r1,q1⟩=>?_) hs rfl));obtain⟨a',e,⟨xs,q1⟩,q⟩:=q1;subst e;obtain⟨u,rfl,ru⟩:=vals1 r1;cases ru;obtain⟨is1,_,p1,_⟩:=I1.list q1;refine call_enumerate_list p1.isList fun h' a1 a2 a3 kk=>?_;refine wpAny_pyIter_enum a1 ?_;have I2:Inv X pins σ H1 { s1 with heap:=h' }:=I1.kept (t':=s1.toks) kk;refine⟨s1.heap.objs.size+1,[s1.heap.objs.size+1,s1.heap.objs.size],_,_,H1,rfl,I2,zhR a' _ _ (by intro z; have z':(_:Nat)=_:=z; omega),⟨⟨_,a1⟩,a2⟩,fun b hb=>?_,q⟩;have hb':s1.heap.objs.size<=b:=by
  simp only[List.mem_cons,List.not_mem_nil,or_false] at hb;rcases hb with rfl | rfl
  ·exact Nat.le_add_right _ _
  ·exact Af _
 exact I1.fpOk hb' (I1.hok.fresh hb')
theorem zjP {K:Ad}{a:Addr}{xs:List V}{g:TG}{tb:TS}{D:Ends}{σ:St}{H:Hp} (Pv:Nat->St->Hp->Prop) (h0:Pv 0 σ H) (hl:∀i σ H,i<=xs.length->Pv i σ H->SqL K H a xs)
  (hs:∀i x p σ H,xs[i]?=some x->Pv i σ H->H p=none->g (.ref p) σ (upd H p (.tup [.int i,x])) fun σ2 H2=>tb { D with nx:=Pv (i+1),ct:=Pv (i+1),bk:=D.nx } σ2 H2) (hd:∀σ H,Pv xs.length σ H->D.nx σ H) :
  ∃W:Nat->Nat->St->Hp->Prop,(∃m,W 0 m σ H)/\∀i m σ H,W i m σ H->
   ((Ite K a).stop i H/\D.nx σ H) \/ ((Ite K a).go i H/\∃N:St->Hp->Prop,(∀σ' H',N σ' H'->∃m',m'<m/\W (i+1) m' σ' H')/\∀x H',(Ite K a).yld i H x H'->g x σ H' fun σ2 H2=>tb { D with nx:=N,ct:=N,bk:=D.nx } σ2 H2):=by
 refine⟨fun i m σ H=>m=xs.length - i/\i<=xs.length/\Pv i σ H,⟨xs.length,by simp,AO _,h0⟩,?_⟩;rintro i m σ H ⟨rfl,hi,p⟩;have q:=hl i σ H hi p
 by_cases hlt:i<xs.length
 ·refine .inr ⟨⟨xs,q,hlt⟩,Pv (i+1),fun σ' H' p'=>⟨xs.length - (i+1),by omega,rfl,hlt,p'⟩,fun x H' y=>?_⟩
  obtain⟨pp,x',rfl,hp,rfl,y⟩:=y;exact hs i x' pp σ _ (y xs q) p hp
 ·have e:i=xs.length:=by omega
  subst e;exact .inl ⟨⟨xs,q,rfl⟩,hd σ H p⟩
theorem bools_of:∀{bs:List Bool}{us:List Value},Vals (bs.map V.bl) us->LSm.BoolsAre us bs
 | [],_,.nil=>.nil
 | b::bs,_,.cons r t=>by cases r; exact .cons b (bools_of t)
theorem zdO (hc:X.calm=true):zaS X (.builtin "all") (fun xs H Q=>∃(l:Addr) (bs:List Bool),xs=[.ref l]/\SqL X.K H l (bs.map V.bl)/\Q (.bl (bs.all id)) H):=by
 intro pins s σ H xs us Q I r h;obtain⟨l,bs,rfl,hq,q⟩:=h;obtain⟨u,rfl,ru⟩:=vals1 r;cases ru;obtain⟨its,r1,p1,_⟩:=I.list hq;have hh:=I.ok.hd hc;have hl:=p1.isList;have hb:=bools_of r1;have hlt:l<s.heap.objs.size:=by obtain⟨_,e,_⟩:=hl; exact Au e
 refine call_all_walk (wpAny_pyIter_list hl ?_);refine⟨s.heap.objs.size,[s.heap.objs.size,l],[s.heap.objs.size],its.toArray.size,_,_,fun i=>(bs[i]?).getD true,rfl,Walks.list (A:=X.A.in1) hh _ l (AE hlt) its.toArray,
  ⟨⟨_,Aq _ rfl,rfl,rfl⟩,hl.push _⟩,fun i v s' Q' E' hP hQ=>?_,fun h' tk hk=>?_⟩
 ·obtain⟨b,e,rfl⟩:=hb.get i v (by simpa using hP)
  simp only[e,Option.getD_some] at hQ;exact wpAny_truthy_bool hQ
 ·have e:((A7 its.toArray.size).all fun i=>(bs[i]?).getD true)=bs.all id:=by
   rw[Aj,hb.length]; exact LSm.range_all bs
  rw[e];exact⟨.bl _,H,I.kept (LSm.kept_iter hk),rfl,q⟩
theorem zf6 (hc:X.calm=true):zaS X (.builtin "any") (fun xs H Q=>∃(l:Addr) (bs:List Bool),xs=[.ref l]/\SqL X.K H l (bs.map V.bl)/\Q (.bl (bs.any id)) H):=by
 intro pins s σ H xs us Q I r h;obtain⟨l,bs,rfl,hq,q⟩:=h;obtain⟨u,rfl,ru⟩:=vals1 r;cases ru;obtain⟨its,r1,p1,_⟩:=I.list hq;have hh:=I.ok.hd hc;have hl:=p1.isList;have hb:=bools_of r1;have hlt:l<s.heap.objs.size:=by obtain⟨_,e,_⟩:=hl; exact Au e
 refine call_any_walk (wpAny_pyIter_list hl ?_);refine⟨s.heap.objs.size,[s.heap.objs.size,l],[s.heap.objs.size],its.toArray.size,_,_,fun i=>(bs[i]?).getD false,rfl,Walks.list (A:=X.A.in1) hh _ l (AE hlt) its.toArray,
  ⟨⟨_,Aq _ rfl,rfl,rfl⟩,hl.push _⟩,fun i v s' Q' E' hP hQ=>?_,fun h' tk hk=>?_⟩
 ·obtain⟨b,e,rfl⟩:=hb.get i v (by simpa using hP)
  simp only[e,Option.getD_some] at hQ;exact wpAny_truthy_bool hQ
 ·have e:((A7 its.toArray.size).any fun i=>(bs[i]?).getD false)=bs.any id:=by
   rw[Aj,hb.length]; exact LSm.range_any bs
  rw[e];exact⟨.bl _,H,I.kept (LSm.kept_iter hk),rfl,q⟩
end
section
variable {K:Ad}{a:Addr}{xs:List V}{g:TG}{tc:TT}{te:TE}{σ:St}{H1:Hp}{Q:VK}{D:Addr}
def CWd (n:Nat) (Pv:Nat->St->List V->Hp->Prop) (i m:Nat) (σ:St) (H:Hp):Prop:=m=n - i/\i<=n/\∃ys,ys.length<=i/\Pv i σ ys H
def CPut (n:Nat) (Pv:Nat->St->List V->Hp->Prop) (D:Addr) (i:Nat) (σ3:St):VK:=fun y H6=>∃ys m',H6 D=some (.lst ys)/\ys.length<sizeLine/\m'<n - i/\CWd n Pv (i+1) m' σ3 (upd H6 D (.lst (ys++[y])))
def CSkip (n:Nat) (Pv:Nat->St->List V->Hp->Prop) (i:Nat) (σ3:St) (H5:Hp):Prop:=∃m',m'<n - i/\CWd n Pv (i+1) m' σ3 H5
theorem cput {n:Nat}{Pv:Nat->St->List V->Hp->Prop}{i:Nat}{σ3:St}{ys:List V}{y:V}{H6:Hp} (hn:n<=sizeLine) (hi:i<n) (hl:ys.length<=i) (e:H6 D=some (.lst ys)) (p:Pv (i+1) σ3 (ys++[y]) (upd H6 D (.lst (ys++[y])))):CPut n Pv D i σ3 y H6:=
 ⟨ys,n - (i+1),e,by omega,by omega,rfl,hi,ys++[y],by simp; omega,p⟩
theorem cskip {n:Nat}{Pv:Nat->St->List V->Hp->Prop}{i:Nat}{σ3:St}{ys:List V}{H5:Hp} (hi:i<n) (hl:ys.length<=i) (p:Pv (i+1) σ3 ys H5):CSkip n Pv i σ3 H5:=
 ⟨n - (i+1),by omega,rfl,hi,ys,by omega,p⟩
theorem zbx {J:It} (n:Nat) (Pv:Nat->St->List V->Hp->Prop) (h0:Pv 0 σ [] (upd H1 D (.lst [])))
  (hstop:∀σ ys H,Pv n σ ys H->J.stop n H) (hgo:∀i σ ys H,i<n->Pv i σ ys H->J.go i H)
  (hs:∀i σ ys H x H',i<n->ys.length<=i->Pv i σ ys H->J.yld i H x H'->g x σ H' fun σ3 H4=>tc σ3 H4 fun b H5=>if b=true then te σ3 H5 (CPut n Pv D i σ3) else CSkip n Pv i σ3 H5)
  (hd:∀σ ys H,Pv n σ ys H->Q (.ref D) H):zaj J g tc te σ H1 D Q:=by
 refine⟨CWd n Pv,⟨n,by simp,AO _,[],Af _,h0⟩,?_⟩;rintro i m σ2 H2 ⟨rfl,hi,ys,hl,p⟩
 by_cases hlt:i<n
 ·exact .inr ⟨hgo i σ2 ys H2 hlt p,fun x H3 y=>hs i σ2 ys H2 x H3 hlt hl p y⟩
 ·have e:i=n:=by omega
  subst e;exact .inl ⟨hstop σ2 ys H2 p,hd σ2 ys H2 p⟩
theorem zL (Pv:Nat->St->List V->Hp->Prop) (h0:Pv 0 σ [] (upd H1 D (.lst []))) (hl:∀i σ ys H,Pv i σ ys H->SqL K H a xs)
  (hs:∀i σ ys H x,xs[i]?=some x->i<xs.length->ys.length<=i->Pv i σ ys H->g x σ H fun σ3 H4=>tc σ3 H4 fun b H5=>if b=true then te σ3 H5 (CPut xs.length Pv D i σ3) else CSkip xs.length Pv i σ3 H5)
  (hd:∀σ ys H,Pv xs.length σ ys H->Q (.ref D) H):zaj (Itl K a) g tc te σ H1 D Q:=by
 refine zbx xs.length Pv h0 (fun σ ys H p=>⟨xs,hl _ _ _ _ p,Af _⟩) (fun i σ ys H hi p=>⟨xs,xs[i],hl _ _ _ _ p,by simp[hi]⟩) (fun i σ ys H x H' hi hy p y=>?_) hd;obtain⟨e,y⟩:=y;subst e;exact hs i σ ys _ x (y xs (hl _ _ _ _ p)) hi hy p
theorem zfY (Pv:Nat->St->List V->Hp->Prop) (h0:Pv 0 σ [] (upd H1 D (.lst []))) (hl:∀i σ ys H,Pv i σ ys H->SqT K H a xs)
  (hs:∀i σ ys H x,xs[i]?=some x->i<xs.length->ys.length<=i->Pv i σ ys H->g x σ H fun σ3 H4=>tc σ3 H4 fun b H5=>if b=true then te σ3 H5 (CPut xs.length Pv D i σ3) else CSkip xs.length Pv i σ3 H5)
  (hd:∀σ ys H,Pv xs.length σ ys H->Q (.ref D) H):zaj (Itt K a) g tc te σ H1 D Q:=by
 refine zbx xs.length Pv h0 (fun σ ys H p=>⟨xs,hl _ _ _ _ p,Af _⟩) (fun i σ ys H hi p=>⟨xs,xs[i],hl _ _ _ _ p,by simp[hi]⟩) (fun i σ ys H x H' hi hy p y=>?_) hd;obtain⟨e,y⟩:=y;subst e;exact hs i σ ys _ x (y xs (hl _ _ _ _ p)) hi hy p
theorem zc8 {lo:Int}{n:Nat} (Pv:Nat->St->List V->Hp->Prop) (h0:Pv 0 σ [] (upd H1 D (.lst [])))
  (hs:∀i σ ys H,i<n->ys.length<=i->Pv i σ ys H->g (.int (lo+i)) σ H fun σ3 H4=>tc σ3 H4 fun b H5=>if b=true then te σ3 H5 (CPut n Pv D i σ3) else CSkip n Pv i σ3 H5)
  (hd:∀σ ys H,Pv n σ ys H->Q (.ref D) H):zaj (Itr lo n) g tc te σ H1 D Q:=by
 refine zbx n Pv h0 (fun σ ys H p=>Af _) (fun i σ ys H hi p=>hi) (fun i σ ys H x H' hi hy p y=>?_) hd;obtain⟨e,y⟩:=y;subst e y;exact hs i σ ys _ hi hy p
theorem ziD {t1 t2:Addr}{ys:List V} (Pv:Nat->St->List V->Hp->Prop) (h0:Pv 0 σ [] (upd H1 D (.lst []))) (hl:∀i σ zs H,Pv i σ zs H->SqT K H t1 xs/\SqT K H t2 ys)
  (hs:∀i σ zs H p x y,xs[i]?=some x->ys[i]?=some y->i<min xs.length ys.length->zs.length<=i->Pv i σ zs H->H p=none->g (.ref p) σ (upd H p (.tup [x,y])) fun σ3 H4=>tc σ3 H4 fun b H5=>if b=true then te σ3 H5 (CPut (min xs.length ys.length) Pv D i σ3) else CSkip (min xs.length ys.length) Pv i σ3 H5)
  (hd:∀σ zs H,Pv (min xs.length ys.length) σ zs H->Q (.ref D) H):zaj (Itz K t1 t2) g tc te σ H1 D Q:=by
 refine zbx (min xs.length ys.length) Pv h0 (fun σ zs H p=>⟨xs,ys,(hl _ _ _ _ p).1,(hl _ _ _ _ p).2,rfl⟩) (fun i σ zs H hi p=>⟨xs,ys,(hl _ _ _ _ p).1,(hl _ _ _ _ p).2,hi⟩) (fun i σ zs H v H' hi hy p y=>?_) hd;obtain⟨pp,x,y',rfl,hp,rfl,y1,y2⟩:=y;exact hs i σ zs H pp x y' (y1 xs (hl _ _ _ _ p).1) (y2 ys (hl _ _ _ _ p).2) hi hy p hp
end
end L2
end
section
namespace Dk
open PySem PySem.Spec PyProof.Rows
def IsD (h:Heap) (d:Addr) (es:Array DictEntry) (ep:Nat):Prop:=∃o,h.get? d=some o/\o.ExactDict/\o.data=.dict es ep
theorem IsD.at {h h':Heap}{d:Addr}{es:Array DictEntry}{ep:Nat} (x:IsD h d es ep) (k:∀o,h.get? d=some o->h'.get? d=some o):IsD h' d es ep:=let ⟨o,ho,r⟩:=x; ⟨o,k o ho,r⟩
theorem IsD.lt {h:Heap}{d:Addr}{es:Array DictEntry}{ep:Nat} (x:IsD h d es ep):d<h.objs.size:=let ⟨_,ho,_⟩:=x; Au ho
section
variable {prog:Program}{w:World}{A:Around}{E:Value->Shared->Prop}{s:Shared}{it d:Addr}{i ep:Nat}{es:Array DictEntry}
theorem IsD.typeIs (x:IsD s.heap d es ep):s.TypeIs (.ref d) "dict":=let ⟨o,ho,r⟩:=x; ⟨o,ho,r.1.1⟩
theorem iter {Q:Value->Shared->Prop} (hd:(d == sysModules)=false) (hm:IsD s.heap d es ep)
  (hQ:Q (.ref s.heap.objs.size) { s with heap:=s.heap.push { cls:=.type "dict_keyiterator",data:=.fields #[.ref d,.int 0 0,.int es.size 0,.int ep 0] } }):wpAny (model prog w) A (pyIter (.ref d)) Q E s:=by
 have hT:=hm.typeIs;obtain⟨o,ho,hc,hdat⟩:=id hm;refine wpAny_pyIter_slot hT PySem.F.slot_dict_iter (A2 PySem.F.slot_dict_iter hT PySem.F.entry_dict_iter ?_ (PySem.F.args_dict_iter_1 _));unfold Builtin.«dict.__iter__»;refine Aa ?_;unfold Builtin.Dict.dictSlotNone;refine Aa (wpAny_notOrdered_dict hT ?_);show wpAny _ _ (pure (Value.ref d)) _ _ s;refine Ac ?_;show wpAny _ _ (Builtin.Dict.showsAll d >>= _) _ _ s;unfold Builtin.Dict.showsAll;rw[if_neg (by rw[hd]; exact AA)];refine Aa (Ac ?_);refine Aa (wpAny_dictEntries ho hdat ?_);refine Aa (wpAny_dictEpoch ho hdat ?_);refine Aa (AZ (Ac ⟨_,rfl,"dict_keyiterator",_,⟨_,Aq _ rfl,rfl⟩,PySem.F.slot_dict_keyiterator_next.lookup,?_⟩))
 simpa[rawInt] using hQ
theorem item {Q:Option Value->Shared->Prop} (hit:s.heap.IsKeyIter it d i es.size ep) (hm:IsD s.heap d es ep) (hx:i<es.size)
  (hQ:∀h',h'.IsKeyIter it d (i+1) es.size ep->AX it s.heap h'->Q (some es[i].key) { s with heap:=h' }):wpAny (model prog w) A (pyNext (.ref it)) Q E s:=by
 obtain⟨o,ho,hc,hd⟩:=id hit;obtain⟨od,hod,hcd,hdd⟩:=id hm;unfold pyNext;refine Aa (wpAny_attempt (wpAny_callSpecial?_slot (name:=Str.ofString "__next__") hit.typeIs PySem.F.slot_dict_keyiterator_next
  (A2 PySem.F.slot_dict_keyiterator_next hit.typeIs PySem.F.entry_dict_keyiterator_next ?_ (PySem.F.args_dict_keyiterator_next_1 _))))
 refine Aa (Ac ?_);refine Aa ?_;refine Aa ?_
 first | refine Aa (wpAny_typeNameOfWhole_keyiter hit.typeIs (Ac ?_)) | refine Aa (wpAny_typeNameOf_keyiter hit.typeIs (Ac ?_))
 refine Aa (wpAny_fieldsOf ho hd ?_);have hown:Builtin.Dict_items.ownsTuple "dict_keyiterator"=false:=by decide
 simp only[hown,As,if_false];show wpAny _ _ (if (Value.ref d == Value.none)=true then _ else _) _ _ s;rw[if_neg (show ¬ ((Value.ref d == Value.none)=true) from AA)];refine Aa (Ac ?_);refine Aa (wpAny_dictEntries hod hdd ?_);rw[if_neg (by simp)];refine Aa (Ac ?_);refine Aa (wpAny_dictEpoch hod hdd ?_);rw[if_neg (by simp)];refine Ac ?_;simp only[show ¬ ((i:Int)<0) from by omega,if_false,Int.toNat_natCast,Array.getElem?_eq_getElem hx];refine Aa ?_
 first | refine Aa (wpAny_typeNameOfWhole_keyiter hit.typeIs (Ac ?_)) | refine Aa (wpAny_typeNameOf_keyiter hit.typeIs (Ac ?_))
 refine Aa (wpAny_isOneOf_keyiter hit.typeIs ?_);show wpAny _ _ (setField (.ref it) 1 (rawInt ((i:Int)+1)) >>= _) _ _ s;refine Aa (wpAny_setField ho hd (by simp) ?_);have hit':(s.heap.update it (Obj.mapFields (·.setIfInBounds 1 (rawInt ((i:Int)+1))))).IsKeyIter it d (i+1) es.size ep:=
  ⟨_,Heap.get?_update_self _ ho (Obj.isFreed_of_fields (Obj.data_mapFields hd _)),(Obj.cls_mapFields ..).trans hc,by rw[Obj.data_mapFields hd]; simp[rawInt]⟩
 refine Aa (AW ?_);refine Aa (wpAny_isOneOf_keyiter (s:={ s with heap:=s.heap.update it (Obj.mapFields (·.setIfInBounds 1 (rawInt ((i:Int)+1)))) }) hit'.typeIs ?_);show wpAny _ _ (pure es[i].key) _ _ _;exact Ac (Ac ⟨_,rfl,Ac (hQ _ hit' (Heap.SameBut.update ..))⟩)
theorem done {Q:Option Value->Shared->Prop} (hh:A.handled=none) (hit:s.heap.IsKeyIter it d es.size es.size ep) (hm:IsD s.heap d es ep)
  (hQ:∀h',Heap.ExtBut it s.heap h'->Q none { s with heap:=h' }):wpAny (model prog w) A (pyNext (.ref it)) Q E s:=by
 obtain⟨o,ho,hc,hd⟩:=id hit;obtain⟨od,hod,hcd,hdd⟩:=id hm;unfold pyNext;refine Aa (wpAny_attempt (wpAny_callSpecial?_slot (name:=Str.ofString "__next__") hit.typeIs PySem.F.slot_dict_keyiterator_next
  (A2 PySem.F.slot_dict_keyiterator_next hit.typeIs PySem.F.entry_dict_keyiterator_next ?_ (PySem.F.args_dict_keyiterator_next_1 _))))
 refine Aa (Ac ?_);refine Aa ?_;refine Aa ?_
 first | refine Aa (wpAny_typeNameOfWhole_keyiter hit.typeIs (Ac ?_)) | refine Aa (wpAny_typeNameOf_keyiter hit.typeIs (Ac ?_))
 refine Aa (wpAny_fieldsOf ho hd ?_);have hown:Builtin.Dict_items.ownsTuple "dict_keyiterator"=false:=by decide
 simp only[hown,As,if_false];show wpAny _ _ (if (Value.ref d == Value.none)=true then _ else _) _ _ s;rw[if_neg (show ¬ ((Value.ref d == Value.none)=true) from AA)];refine Aa (Ac ?_);refine Aa (wpAny_dictEntries hod hdd ?_);rw[if_neg (by simp)];refine Aa (Ac ?_);refine Aa (wpAny_dictEpoch hod hdd ?_);rw[if_neg (by simp)];refine Ac ?_;simp only[show ¬ ((es.size:Int)<0) from by omega,if_false,Int.toNat_natCast,Array.getElem?_eq_none (Af es.size)];refine Aa ?_
 first | refine Aa (wpAny_typeNameOfWhole_keyiter hit.typeIs (Ac ?_)) | refine Aa (wpAny_typeNameOf_keyiter hit.typeIs (Ac ?_))
 show wpAny _ _ (setField (.ref it) 0 .none >>= _) _ _ s;refine Aa (wpAny_setField ho hd (by simp) ?_);show wpAny _ _ (newExc (.type "StopIteration") [] >>= _) _ _ _;refine Aa ?_;simp only[newExc,newTuple];refine Aa (AZ ?_ (by size_fits));refine Aa (m:=firstArgMember _ _) (wpAny_of_eq (a:=Value.none) (by first | rfl | (simp only[firstArgMember]; rfl)) ?_);refine AZ ?_ (by size_fits);simp only[raiseNew];refine Aa (wpAny_handled ?_);rw[show A.in1.handled=none from hh];refine Aa (Ac (wpAny_throw ?_));refine Aa (wpAny_isInstance (T:="StopIteration") (b:=true) ⟨_,Aq _ rfl,rfl⟩ isSubtype_stop ?_);exact Ac (hQ _ (((Heap.SameBut.update ..).extBut.push _).push _))
theorem walks (hh:A.handled=none) (I d:Addr) (hne:d≠I) (es:Array DictEntry) (ep:Nat) :
  Walks prog w A I [I,d] [I] es.size (fun i v=>∃e,es[i]?=some e/\v=e.key) (fun i h=>h.IsKeyIter I d i es.size ep/\IsD h d es ep) where
 sub:=fun b hb=>by simp at hb ⊢; exact .inl hb
 frame:=fun i h h' st k=>⟨let ⟨o,ho,r⟩:=st.1; ⟨o,k I (by simp) o ho,r⟩,st.2.at fun o e=>k d (by simp) o e⟩
 item:=fun i s Q E hi st hQ=>item st.1 st.2 hi fun h' st' sb=>hQ _ h' s.toks ⟨es[i],by simp[hi],rfl⟩ ⟨st',st.2.at fun o e=>(sb.2 d hne).trans e⟩ fun b o hb e=>(sb.2 b (fun z=>hb (by simp[z]))).trans e
 done:=fun s Q E st hQ=>done hh st.1 st.2 fun h' eb=>hQ h' s.toks fun b o hb e=>eb b o (fun z=>hb (by simp[z])) e
 self:=fun i s Q E st hQ=>wpAny_pyIter_keyiter st.1 hQ
theorem src (lo:(d == sysModules)=false):PySem.W.KdlSrc prog w "dict" d d es.size (fun i v=>∃e,es[i]?=some e/\v=e.key) (fun h=>IsD h d es ep) where
 type:=fun _ hm=>hm.typeIs
 there:=fun _ hm=>⟨hm.lt,hm.lt⟩
 keep:=fun _ _ hm hk=>hm.at fun o e=>hk d (.inl rfl) o e
 notList:=by decide
 notTuple:=by decide
 hint:=fun _ _ _ _ hm hq=>PySem.W.kdl_hint_dict hm.typeIs hq
 iter:=fun _ s hh hm=>⟨_,_,(fun _ _ hq=>iter lo hm hq),walks hh _ d (AE hm.lt) es ep,⟨⟨_,Aq _ rfl,rfl,rfl⟩,hm.at fun o e=>Ae _ e⟩⟩
end
end Dk
namespace L2
open PySem PySem.Spec PyProof.Rows
section
variable {X:Cx}
theorem zlN {P:Program}{w:World}{k:Key}{u:Value} (h:(zD P w).is k u=true):RelV (kV k) u:=by
 rcases keyIs_shape h with ⟨i,t,rfl,rfl⟩ | ⟨x,t,rfl,rfl⟩
 ·exact⟨t,rfl⟩
 ·exact⟨t,rfl⟩
theorem za6 (hc:X.calm=true):zaS X (.type "list") (fun xs H Q=>∃a kvs,xs=[.ref a]/\H a=some (.dT kvs)/\
  ∀(bs:List Addr),Paired (fun (p:List Key×V) b=>H b=some (.tup (p.1.map kV))) kvs bs->∀l,H l=none->Q (.ref l) (upd H l (.lst (bs.map V.ref)))):=by
 intro pins s σ H xs us Q I r h;obtain⟨a,kvs,rfl,hq,q⟩:=h;obtain⟨u,rfl,ru⟩:=vals1 r;cases ru;obtain⟨z,y,ys,rel,o,es,ep,h1,h2,h3,h4,h5⟩:=(show zJ X.prog X.w H s.heap a (.dT kvs) from I.hok a _ hq);have hl:es.size=kvs.length:=by
  have:=congrArg List.length h4;rw[Ab,<- AN rel] at this
  simpa using this
 refine PySem.W.kdl_call (Dk.src (ep:=ep) (es:=es) y) (I.ok.hd hc) ⟨o,h1,h2,h3⟩ (by rw[hl]; exact z) fun h' tk acc c' kk e it=>?_;obtain⟨n1,n2⟩:=it;have pb:Paired (fun (p:List Key×V) b=>H b=some (.tup (p.1.map kV))) kvs (ys.map (·.2.1)):=by
  have:∀{l:List (List Key×V)} {m:List (List Key×Addr×Value)},KT H l m->Paired (fun (p:List Key×V) b=>H b=some (.tup (p.1.map kV))) l (m.map (·.2.1)):=by
   intro l m q
   induction q with
   | nil=>exact .nil
   | cons hq t ih=>exact .cons hq.2.1 ih
  exact this rel
 have ea:acc.toList=(ys.map (·.2.1)).map Value.ref:=by
  apply List.ext_getElem?;intro i;have hy:ys.length=acc.size:=by rw[n1,hl]; exact (AN rel).symm
  by_cases hi:i<acc.size
  ·obtain⟨e',g1,g2⟩:=n2 i acc[i] (by simp[hi])
   have g3:es.toList[i]?=some e':=by simpa using g1
   rw[h4,Al] at g3;have g4:ys[i]?=some ys[i]:=by simp[hy,hi]
   rw[g4] at g3;simp only[A3,Option.some.injEq] at g3;simp only[Al,g4,A3,AR,Array.getElem?_eq_getElem hi];rw[g2,<- g3]
   rfl
  ·have g1:acc.toList.length<=i:=by simp; omega
   have g2:((ys.map (·.2.1)).map Value.ref).length<=i:=by simp[hy]; omega
   rw[List.getElem?_eq_none g1,List.getElem?_eq_none g2]
 have vv:Vals ((ys.map (·.2.1)).map V.ref) acc.toList:=by
  rw[ea];generalize ys.map (·.2.1)=bs
  induction bs with
  | nil=>exact .nil
  | cons b bs ih=>exact .cons rfl ih
 refine⟨.ref s.heap.objs.size,_,I.laid kk (Af _) (show zJ X.prog X.w _ h' _ (.lst ((ys.map (·.2.1)).map V.ref)) from ⟨?_,acc.toList,c',vv,by simpa using e⟩),rfl,q _ pb _ (I.hok.fresh (Af _))⟩;simp only[Ab];rw[<- AN rel];exact z
theorem zer (hc:X.calm=true):zaS X (.type "list") (fun xs H Q=>∃a kvs,xs=[.ref a]/\H a=some (.dK kvs)/\∀l,H l=none->Q (.ref l) (upd H l (.lst (kvs.map fun kv=>kV kv.1)))):=by
 intro pins s σ H xs us Q I r h;obtain⟨a,kvs,rfl,hq,q⟩:=h;obtain⟨u,rfl,ru⟩:=vals1 r;cases ru;obtain⟨z,y,vs,rel,dd⟩:=zmS I.hok hq;obtain⟨ep,dd⟩:=dd.dictAt;have hl:=rel.length;refine PySem.W.kdl_call (PySem.W.kdl_dict (knd:=zD X.prog X.w) (kvs:=vs) (ep:=ep) y) (I.ok.hd hc) dd (by rw[<- hl]; exact z) fun h' tk acc c' kk e it=>?_;obtain⟨n1,n2⟩:=it;have vv:Vals (kvs.map fun kv=>kV kv.1) acc.toList:=by
  have key:∀{l:List (Key×V)} {m:List (Key×Value)} {as:List Value},KV l m->as.length=m.length->(∀(i:Nat) v,as[i]?=some v->∃k x,m[i]?=some (k,x)/\(zD X.prog X.w).is k v=true)->Vals (l.map fun kv=>kV kv.1) as:=by
   intro l m as q
   induction q generalizing as with
   | nil=>intro h1 _; cases as with
    | nil=>exact .nil
    | cons _ _=>simp at h1
   | @cons p q' ps qs hq t ih=>
    intro h1 h2;cases as with
    | nil=>simp at h1
    | cons v as=>
     obtain⟨k,x,g1,g2⟩:=h2 0 v rfl;simp only[List.getElem?_cons_zero,Option.some.injEq] at g1;refine .cons ?_ (ih (by simpa using h1) fun i v e=>by simpa using h2 (i+1) v (by simpa using e));have:p.1=k:=by rw[hq.1,g1]
     show RelV (kV p.1) v;rw[this];exact zlN g2
  exact key rel (by simpa using n1) fun i v e=>n2 i v (by simpa using e)
 refine⟨.ref s.heap.objs.size,_,I.laid kk (Af _) (show zJ X.prog X.w _ h' _ (.lst (kvs.map fun kv=>kV kv.1)) from ⟨?_,acc.toList,c',vv,by simpa using e⟩),rfl,q _ (I.hok.fresh (Af _))⟩
 simpa using z
end
end L2
end
section
namespace L2
open PySem PySem.Spec PyProof.Rows
def Tp (H:Hp) (a:Addr) (ps:List Int):Prop:=H a=some (.tup (ps.map V.int))
abbrev Tps (H:Hp) (as:List Addr) (pss:List (List Int)):Prop:=Paired (fun a ps=>Tp H a ps) as pss
theorem Same.tp {H H':Hp}{a:Addr}{ps:List Int} (e:Same H H') (h:Tp H a ps):Tp H' a ps:=e _ _ h
theorem Same.tps {H H':Hp}{as:List Addr}{pss:List (List Int)} (e:Same H H') (h:Tps H as pss):Tps H' as pss:=Paired.mapP h fun _ _ q=>e.tp q
theorem Same.new {H:Hp}{a:Addr}{o:HO} (h:H a=none):Same H (upd H a o):=fun b u e=>by rw[zk (zj e h)]; exact e
theorem Same.then {H H1:Hp}{a:Addr}{o:HO} (e:Same H H1) (h:H a=none):Same H (upd H1 a o):=fun b u q=>by rw[zk (zj q h)]; exact e b u q
theorem Tps.length {H:Hp}{as:List Addr}{pss:List (List Int)} (h:Tps H as pss):as.length=pss.length:=AN h
theorem Tps.get {H:Hp}:∀{as:List Addr}{pss:List (List Int)}{i:Nat}{a:Addr},Tps H as pss->as[i]?=some a->∃ps,pss[i]?=some ps/\Tp H a ps
 | _,_,_,_,.nil,e=>by simp at e
 | _,_,0,_,.cons r _,e=>by simp at e; subst e; exact⟨_,rfl,r⟩
 | _,_,i+1,a,.cons _ t,e=>by
  obtain⟨u,h1,h2⟩:=Tps.get (i:=i) (a:=a) t (by simpa using e);exact⟨u,by simpa using h1,h2⟩
theorem Tps.snoc {H:Hp}{as:List Addr}{pss:List (List Int)}{a:Addr}{ps:List Int} (h:Tps H as pss) (q:Tp H a ps):Tps H (as++[a]) (pss++[ps]):=by
 induction h with
 | nil=>exact .cons q .nil
 | cons r t ih=>exact .cons r ih
theorem Tps.append {H:Hp}{as bs:List Addr}{pss qss:List (List Int)} (h:Tps H as pss) (q:Tps H bs qss):Tps H (as++bs) (pss++qss):=by
 induction h with
 | nil=>exact q
 | cons r t ih=>exact .cons r ih
theorem Tps.take {H:Hp}:∀{as:List Addr}{pss:List (List Int)} (n:Nat),Tps H as pss->Tps H (as.take n) (pss.take n)
 | _,_,0,_=>.nil
 | _,_,_+1,.nil=>.nil
 | _,_,n+1,.cons r t=>.cons r (Tps.take n t)
theorem Tps.drop {H:Hp}:∀{as:List Addr}{pss:List (List Int)} (n:Nat),Tps H as pss->Tps H (as.drop n) (pss.drop n)
 | _,_,0,r=>r
 | _,_,_+1,.nil=>.nil
 | _,_,n+1,.cons _ t=>Tps.drop n t
theorem vals_refs:∀{as:List Addr}{us:List Value},Vals (as.map V.ref) us->us=as.map Value.ref
 | [],_,.nil=>rfl
 | a::as,_,.cons r t=>by cases r; rw[vals_refs t]; rfl
theorem zfb {α:Type} (f:α->Addr):∀l:List α,Vals (l.map fun q=>V.ref (f q)) (l.map fun q=>Value.ref (f q))
 | []=>.nil
 | a::l=>.cons rfl (zfb f l)
section
variable {X:Cx}
theorem zfJ {prog:Program}{w:World}{h:Heap}{c:Addr}{cs:List Value}{qs:List Int} (hc:IsTup h c cs.toArray) (hi:IntsAre cs qs):AT (zD prog w) h (qs.map Sum.inl) c:=by
 obtain⟨o,e,hcl,k,d⟩:=hc;refine⟨o,cs.toArray,k,e,hcl,d,?_⟩;have:∀{cs:List Value} {qs:List Int},IntsAre cs qs->ItemsAre (zD prog w) (qs.map Sum.inl) cs:=by
  intro cs qs hi
  induction hi with
  | nil=>exact .nil
  | cons n t h ih=>exact .cons (zbv prog w n t) ih
 simpa using this hi
theorem zai {ps qs:List Int}:(ps.map Sum.inl:List Key)=qs.map Sum.inl ↔ ps=qs:=
 ⟨fun z=>(List.map_inj_right (f:=(Sum.inl:Int->Key)) (fun x y h=>Sum.inl.inj h)).mp z,fun z=>by rw[z]⟩
theorem zln {pins:List (Addr×Obj)}{σ:St}{H:Hp}{s:Shared}{A:Around}{a b:Addr}{ps qs:List Int} (I:Inv X pins σ H s) (ha:Tp H a ps) (hb:Tp H b qs) (hu:A.units<cLine) :
  SeqAt.EqAt A s (.ref a) (.ref b) (decide (ps=qs)):=by
 intro prog w E Q h;obtain⟨its,r1,p1,_⟩:=I.tuple (SqT.of ha);obtain⟨its2,r2,p2,_⟩:=I.tuple (SqT.of hb);refine wpAny_eqBool_tuple (knd:=zD prog w) hu (zfJ p1 (intsAre_of r1)) (zfJ p2 (intsAre_of r2)) ?_;rw[show decide ((ps.map Sum.inl:List Key)=qs.map Sum.inl)=decide (ps=qs) from by simp only[zai]];exact h
def zlk:R2:=fun x y H Q=>∃a b xs ys,x=.ref a/\y=.ref b/\H a=some (.tup xs)/\H b=some (.tup ys)/\xs.length+ys.length<=sizeLine/\∀p H',Same H H'->H' p=some (.tup (xs++ys))->Q (.ref p) H'
theorem zdj:OpR X (binaryOp .Add) zlk:=by
 intro pins s σ H x y v u Q I rx ry h;obtain⟨a,b,xs,ys,rfl,rfl,ha,hb,hz,q⟩:=h;cases rx;cases ry;obtain⟨its,r1,p1,_⟩:=I.tuple (SqT.of ha);obtain⟨its2,r2,p2,_⟩:=I.tuple (SqT.of hb)
 by_cases hx:xs=[]
 ·subst hx
  have e1:=r1.nil_iff.mpr rfl;subst e1;obtain⟨⟨cls,dd,data,sl⟩,ho,hc,n,hd⟩:=id p1;obtain⟨⟨cls2,dd2,data2,sl2⟩,ho2,hc2,n2,hd2⟩:=id p2;simp only at hc hd hc2 hd2;subst hc hd hc2 hd2;exact concat_meets ⟨_,ho,rfl⟩ ⟨_,ho2,rfl⟩ noFill_tuple_add seq_tuple_add PySem.F.slot_tuple_add PySem.F.entry_tuple_add (PySem.F.args_tuple_add_2 _ _)
   (tuple_addW0 a b (List.toArray []) its2.toArray n n2 dd dd2 sl sl2 (by simp)) ⟨ho,ho2,.ref b,H,I,rfl,q b H (Same.refl H) (by simpa using hb)⟩
 ·refine HT.zls p1 p2 (fun z=>hx (r1.nil_iff.mp z)) (fun z=>⟨.ref a,H,I,rfl,q a H (Same.refl H) ?_⟩) (fun z=>?_) (by rw[<- r1.length,<- r2.length]; exact hz)
  ·rw[r2.nil_iff.mp z,List.append_nil]; exact ha
  ·have hf:=I.hok.fresh (Af s.heap.objs.size)
   refine⟨.ref s.heap.objs.size,_,I.laid (t':=s.toks) (o:=.tup (xs++ys)) (fun b ob q=>Ae _ q) (Af _) ?_,rfl,q _ _ (Same.new hf) upd_same⟩;exact⟨by rw[Ah]; exact hz,_,r1.append r2,IsTup.new _ _⟩
def rInT (neg:Bool) (K:Ad):R2:=fun x y H Q=>∃a l ps as pss,x=.ref a/\y=.ref l/\Tp H a ps/\SqL K H l (as.map V.ref)/\Tps H as pss/\Q (.bl (if neg then !decide (ps∈pss) else decide (ps∈pss))) H
def eqH (H:Hp) (ps:List Int) (u:Value):Bool:=match u with
 | .ref b=>(match H b with | some (.tup xs)=>decide (xs=ps.map V.int) | _=>false)
 | _=>false
theorem zjC {ps qs:List Int}:(ps.map V.int:List V)=qs.map V.int ↔ ps=qs:=
 ⟨fun z=>(List.map_inj_right (f:=V.int) (fun x y h=>V.int.inj h)).mp z,fun z=>by rw[z]⟩
theorem zgS {H:Hp}{b:Addr}{ps qs:List Int} (h:Tp H b qs):eqH H ps (.ref b)=decide (qs=ps):=by
 show (match H b with | some (.tup xs)=>decide (xs=ps.map V.int) | _=>false)=_;rw[show H b=some (.tup (qs.map V.int)) from h];simp only[zjC]
theorem zhl {H:Hp}{ps:List Int}{as:List Addr}{pss:List (List Int)} (h:Tps H as pss):(as.map Value.ref).any (eqH H ps)=decide (ps∈pss):=by
 induction h with
 | nil=>simp
 | @cons a qs as pss r t ih=>
  rw[Av,List.any_cons,ih,zgS r]
  by_cases e:qs=ps
  ·subst e; simp
  ·have:¬ ps=qs:=fun z=>e z.symm
   simp[e,this]
theorem zff {pins:List (Addr×Obj)}{σ:St}{H:Hp}{s:Shared}{A:Around}{a:Addr}{ps:List Int} (I:Inv X pins σ H s) (ha:Tp H a ps) (hu:A.units<cLine) :
  ∀{as:List Addr} {pss:List (List Int)},Tps H as pss->∀u∈as.map Value.ref,SeqAt.EqAt A s u (.ref a) (eqH H ps u):=by
 intro as pss h
 induction h with
 | nil=>intro u hu; simp at hu
 | @cons b qs as pss r t ih=>
  intro u hm;rw[Av] at hm;rcases List.mem_cons.mp hm with rfl | hm
  ·rw[zgS r]; exact zln I r ha hu
  ·exact ih u hm
theorem zhD (hu:X.A.in1.units<cLine):OpR X (compareOp .In) (rInT false X.K):=by
 intro pins s σ H x y v u Q I rx ry h;obtain⟨a,l,ps,as,pss,rfl,rfl,ha,hl,hp,q⟩:=h;cases rx;cases ry;obtain⟨its,r,pl,hz⟩:=I.list hl;obtain rfl:=vals_refs r;refine SeqAt.in_listAt (eqH H ps) pl.isList (fun w hw=>zff I ha hu hp w (by simpa using hw)) ⟨.bl _,H,I,rfl,?_⟩;rw[show (as.map Value.ref).toArray.any (eqH H ps)=(as.map Value.ref).any (eqH H ps) by simp,zhl hp];exact q
theorem zeg (hu:X.A.in1.units<cLine):OpR X (compareOp .NotIn) (rInT true X.K):=by
 intro pins s σ H x y v u Q I rx ry h;obtain⟨a,l,ps,as,pss,rfl,rfl,ha,hl,hp,q⟩:=h;cases rx;cases ry;obtain⟨its,r,pl,hz⟩:=I.list hl;obtain rfl:=vals_refs r;refine SeqAt.notIn_listAt (eqH H ps) pl.isList (fun w hw=>zff I ha hu hp w (by simpa using hw)) ⟨.bl _,H,I,rfl,?_⟩;rw[show (as.map Value.ref).toArray.any (eqH H ps)=(as.map Value.ref).any (eqH H ps) by simp,zhl hp];exact q
theorem zaT {pins:List (Addr×Obj)}{σ:St}{H:Hp}{s:Shared}{a:Addr}{ps:List Int} (I:Inv X pins σ H s) (ha:Tp H a ps):Reads s.heap (.ref a) (.tuple (ps.map A1)) []:=by
 obtain⟨its,r,p,_⟩:=I.tuple (SqT.of ha);obtain⟨o,ho,hc,n,hd⟩:=id p;exact .tuple ho hc hd ((PySem.W.ke_carried (intsAre_of r)).reads s.heap)
theorem zg9 {pins:List (Addr×Obj)}{σ:St}{H:Hp}{s:Shared} (I:Inv X pins σ H s):∀{as:List Addr}{pss:List (List Int)},Tps H as pss->ReadsAll s.heap (as.map Value.ref) (pss.map fun ps=>PyData.tuple (ps.map A1)) []:=by
 intro as pss h
 induction h with
 | nil=>exact .nil
 | cons r t ih=>exact .cons (as:=[]) (bs:=[]) (zaT I r) ih
theorem zbm {pins:List (Addr×Obj)}{σ:St}{H:Hp}{s:Shared}{l:Addr}{as:List Addr}{pss:List (List Int)} (I:Inv X pins σ H s) (hl:SqL X.K H l (as.map V.ref)) (h:Tps H as pss) :
  Reads s.heap (.ref l) (.list (pss.map fun ps=>PyData.tuple (ps.map A1))) [l]:=by
 obtain⟨its,r,p,_⟩:=I.list hl;obtain rfl:=vals_refs r;obtain⟨o,ho,hc,n,hd⟩:=p.isList;exact .list ho hc hd (by simpa using zg9 I h)
theorem zcI (ps:List Int):PyData.canLay0 (.tuple (ps.map A1))=true:=by simp[PyData.canLay0,PySem.W.ke_canLayAll0]
theorem zfv (ps:List Int):PyData.depth (.tuple (ps.map A1))=1:=by simp[PyData.depth,PySem.W.ke_depthAll]
theorem zbT (ps:List Int):SeqAt.shaped (.tuple (ps.map A1))=true:=by
 simp[SeqAt.shaped,zcI,zfv]
theorem zd6:∀pss:List (List Int),PyData.canLayAll0 (pss.map fun ps=>PyData.tuple (ps.map A1))=true
 | []=>rfl
 | ps::r=>by rw[Av,PyData.canLayAll0,zcI,zd6 r]; rfl
theorem zfs:∀pss:List (List Int),PyData.depthAll (pss.map fun ps=>PyData.tuple (ps.map A1))<=1
 | []=>AO _
 | ps::r=>by rw[Av,PyData.depthAll,zfv]; exact Nat.max_le.mpr ⟨Af _,zfs r⟩
theorem zba (pss:List (List Int)):SeqAt.shaped (.list (pss.map fun ps=>PyData.tuple (ps.map A1)))=true:=by
 have:=zfs pss;have e:PyData.depth (.list (pss.map fun ps=>PyData.tuple (ps.map A1)))<=64:=by rw[PyData.depth]; omega
 unfold SeqAt.shaped;rw[decide_eq_true e,PyData.canLay0,zd6]
 rfl
theorem zdo:∀pss qss:List (List Int),sameAll (pss.map fun ps=>PyData.tuple (ps.map A1)) (qss.map fun ps=>PyData.tuple (ps.map A1))=decide (pss=qss)
 | [],[]=>by simp[sameAll]
 | [],_::_=>by simp[sameAll]
 | _::_,[]=>by simp[sameAll]
 | a::r,b::t=>by
  simp only[Av,sameAll,same,PySem.W.ke_sameAll,zdo r t]
  by_cases h:a=b <;> by_cases h':r=t <;> simp[h,h']
theorem zfG (ps:List Int):(Shape.tuples .int).has (.tuple (ps.map A1))=true:=by simp[Shape.has]
theorem zc2 (pss:List (List Int)):(Shape.list (.tuples .int)).has (.list (pss.map fun ps=>PyData.tuple (ps.map A1)))=true:=by simp[Shape.has]
def rEqT (neg:Bool) (K:Ad):R2:=fun x y H Q=>(∃a b ps qs,x=.ref a/\y=.ref b/\Tp H a ps/\Tp H b qs/\Q (.bl (if neg then !decide (ps=qs) else decide (ps=qs))) H) \/
 (∃l m as bs pss qss,x=.ref l/\y=.ref m/\SqL K H l (as.map V.ref)/\Tps H as pss/\SqL K H m (bs.map V.ref)/\Tps H bs qss/\Q (.bl (if neg then !decide (pss=qss) else decide (pss=qss))) H)
theorem zmD (hu:X.A.units+64<cLine):OpR X (compareOp .Eq) (rEqT false X.K):=by
 intro pins s σ H x y v u Q I rx ry h;rcases h with ⟨a,b,ps,qs,rfl,rfl,ha,hb,q⟩ | ⟨l,m,as,bs,pss,qss,rfl,rfl,hl,hp,hm,hq,q⟩
 ·cases rx
  cases ry;refine eq_dataH_same (zaT I ha) (zaT I hb) (zbT _) (zbT _) hu (SeqAt.noMix_of_shape (.tuples .int) rfl _ _ (zfG _) (zfG _)) ?_;rw[show same (.tuple (ps.map A1)) (.tuple (qs.map A1))=decide (ps=qs) from by simp only[same]; exact PySem.W.ke_sameAll ps qs];exact⟨.bl _,H,I,rfl,q⟩
 ·cases rx
  cases ry;refine eq_dataH_same (zbm I hl hp) (zbm I hm hq) (zba _) (zba _) hu (SeqAt.noMix_of_shape (.list (.tuples .int)) rfl _ _ (zc2 _) (zc2 _)) ?_;rw[show same (.list (pss.map fun ps=>PyData.tuple (ps.map A1))) (.list (qss.map fun ps=>PyData.tuple (ps.map A1)))=decide (pss=qss) from by simp only[same]; exact zdo pss qss];exact⟨.bl _,H,I,rfl,q⟩
theorem zh7 (hu:X.A.units+64<cLine):OpR X (compareOp .NotEq) (rEqT true X.K):=by
 intro pins s σ H x y v u Q I rx ry h;rcases h with ⟨a,b,ps,qs,rfl,rfl,ha,hb,q⟩ | ⟨l,m,as,bs,pss,qss,rfl,rfl,hl,hp,hm,hq,q⟩
 ·cases rx
  cases ry;refine ne_dataH_same (zaT I ha) (zaT I hb) (zbT _) (zbT _) hu (SeqAt.noMix_of_shape (.tuples .int) rfl _ _ (zfG _) (zfG _)) ?_;rw[show same (.tuple (ps.map A1)) (.tuple (qs.map A1))=decide (ps=qs) from by simp only[same]; exact PySem.W.ke_sameAll ps qs];exact⟨.bl _,H,I,rfl,q⟩
 ·cases rx
  cases ry;refine ne_dataH_same (zbm I hl hp) (zbm I hm hq) (zba _) (zba _) hu (SeqAt.noMix_of_shape (.list (.tuples .int)) rfl _ _ (zc2 _) (zc2 _)) ?_;rw[show same (.list (pss.map fun ps=>PyData.tuple (ps.map A1))) (.list (qss.map fun ps=>PyData.tuple (ps.map A1)))=decide (pss=qss) from by simp only[same]; exact zdo pss qss];exact⟨.bl _,H,I,rfl,q⟩
def zk3:V->List V->Hp->VK->Prop:=fun x vs H Q=>∃l xs i y,x=.ref l/\vs=[.int i,y]/\H l=some (.lst xs)/\0<=i/\i<=xs.length/\xs.length<sizeLine/\Q .non (upd H l (.lst (xs.take i.toNat++y::xs.drop i.toNat)))
theorem zem:MtM X "list.insert" zk3:=by
 intro pins s σ H x vs v us Q I rx rv h;obtain⟨l,xs,i,y,rfl,rfl,hH,h0,hi,hz,q⟩:=h;cases rx;obtain⟨u,u',rfl,ru,ru'⟩:=rv.two;obtain⟨t,rfl⟩:=ru;obtain⟨z,its,n,r,hl,e⟩:=I.lstM hH;have hzl:sizeLine<2 ^ 62:=by rw[sizeLine_eq]; decide
 have hf:Builtin.List.listFitsIndex i=true:=by
  unfold Builtin.List.listFitsIndex;simp only[AY,decide_eq_true_eq];constructor <;> omega
 refine call_meets F.slot_list_insert ⟨_,e,rfl⟩ F.entry_list_insert (F.args_list_insert_3 _ _ _) (PySem.AutoSeq1.list_insert_list_int_val_1 l its.toArray n i t u' (by simp[hf]) (by rw[Aj]; omega)) ⟨e,?_⟩;refine⟨.non,_,I.lset (its':=its.take i.toNat++u'::its.drop i.toNat) (t':=s.toks) hH e ?_ ((r.take _).append (.cons ru' (r.drop _))) ?_,rfl,q⟩
 ·have hk:(if i<0 then (i+(its.toArray.size:Int)).toNat else min i.toNat its.toArray.size)=i.toNat:=by
   rw[if_neg (by omega),Aj];omega
  dsimp only;rw[hk];simp;exact An (by rw[List.length_drop]; exact Af _)
 ·rw[Ah,Aw,AC,List.length_drop]
  omega
theorem zdm:zaS X (.type "int") (fun xs H Q=>∃x n,xs=[.str x]/\PySem.intText? x=some n/\x.length<=640/\Q (.int n) H):=by
 intro pins s σ H xs us Q I r h;obtain⟨x,n,rfl,hn,hl,q⟩:=h;obtain⟨u,rfl,t,rfl⟩:=vals1 r;exact PySem.W.KIN.call_text hn hl ⟨.int n,H,I.tok _,⟨_,rfl⟩,q⟩
end
end L2
end
section
namespace L2
open PySem PySem.Spec PyProof.Rows
section
variable {X:Cx}{pins:List (Addr×Obj)}{σ:St}{H:Hp}{s:Shared}
theorem zd8 {A:Around} (h:A.units+64<cLine):A.in1.in1.units<cLine:=by show A.units+1+1<cLine; omega
theorem in1_units {A:Around} (h:A.units+64<cLine):A.in1.units<cLine:=by show A.units+1<cLine; omega
theorem zch:zaS X (.builtin "sorted") (fun xs H Q=>∃(l:Addr) (ns:List Int),xs=[.ref l]/\SqL X.K H l (ns.map V.int)/\ns.length<64/\∀(D:Addr) (ms:List Int),ms.Perm ns->ms.Pairwise (·<=·)->H D=none->Q (.ref D) (upd H D (.lst (ms.map V.int)))):=by
 intro pins s σ H xs us Q I r h;obtain⟨l,ns,rfl,hq,h64,q⟩:=h;obtain⟨u,rfl,ru⟩:=vals1 r;cases ru;obtain⟨its,r1,p1,hz⟩:=I.list hq;have hi:IntsAre its ns:=intsAre_of r1;have hlen:=r1.length;rw[Ab] at hlen hz;refine Srt.zeJ (ls:=ns.map fun n=>[n]) (good:=fun _=>True) p1.isList (Srt.zkG hi) (fun _ _=>trivial) (by omega) (by omega) fun out ho=>?_;obtain⟨ps,hp,ho,hs⟩:=ho;have all:∀p∈ps,∃n t,p.1=[n]/\p.2=Value.int n t:=fun p hp'=>by
  obtain⟨i,e⟩:=List.mem_iff_getElem?.mp (hp.mem_iff.mp hp');rw[Srt.zipget,Al] at e;cases e1:ns[i]? with
  | none=>rw[e1] at e; simp at e
  | some n=>
   obtain⟨t,e2⟩:=hi.get i n e1;rw[e1,e2] at e;simp only[A3,Option.bind_some,Option.some.injEq] at e;subst e;exact⟨n,t,rfl,rfl⟩
 have vv:∀ps:List (List Int×Value),(∀p∈ps,∃n t,p.1=[n]/\p.2=Value.int n t)->Vals ((ps.map fun p=>p.1.headD 0).map V.int) (ps.map (·.2)):=by
  intro ps
  induction ps with
  | nil=>intro _; exact .nil
  | cons p ps ih=>
   intro h;obtain⟨n,t,e1,e2⟩:=h p Am;refine .cons ?_ (ih fun q hq=>h q (Ar _ hq));show RelV (V.int (p.1.headD 0)) p.2;rw[e1,e2];exact⟨t,rfl⟩
 have pm:(ps.map fun p=>p.1.headD 0).Perm ns:=by
  have h1:=hp.map (fun p:List Int×Value=>p.1.headD 0);have e:((ns.map fun n=>[n]).zip its).map (fun p:List Int×Value=>p.1.headD 0)=ns:=by
   rw[show (fun p:List Int×Value=>p.1.headD 0)=(fun l:List Int=>l.headD 0) ∘ Prod.fst from rfl,<- Ap,List.map_fst_zip (by rw[Ab]; omega),Ap];exact List.map_id' ns
  rw[e] at h1;exact h1
 have pw:(ps.map fun p=>p.1.headD 0).Pairwise (·<=·):=by
  rw[List.pairwise_map];refine hs.imp_of_mem fun {p q} h1 h2 h3=>?_;obtain⟨n,t,e1,_⟩:=all p h1;obtain⟨m,t',e2,_⟩:=all q h2;rw[e1,e2,HT.zT] at h3;rw[e1,e2];show n<=m
  by_cases e:m=n
  ·omega
  ·rw[if_neg e] at h3
   have:=of_decide_eq_false h3;omega
 obtain⟨e,he⟩:=sortedAll_at s.heap its out;refine⟨.ref (s.heap.objs.size+1),_,I.laid (t':=s.toks) (fun _ _=>sortedAll_old) (Nat.le_succ _) (show zJ X.prog X.w _ _ _ (.lst ((ps.map fun p=>p.1.headD 0).map V.int)) from ⟨?_,out.toList,e,?_,?_⟩),rfl,q _ _ pm pw (I.hok.fresh (Nat.le_succ _))⟩
 ·rw[Ab,pm.length_eq]; exact hz
 ·rw[ho]; exact vv ps all
 ·simpa using he
def PrAt (H:Hp) (p:Addr) (l:List Int):Prop:=∃n b ps,l=n::ps/\H p=some (.tup [.int n,.ref b])/\Tp H b ps
theorem zmw {p:Addr}{l:List Int} (I:Inv X pins σ H s) (h:PrAt H p l):Srt.IsPr s.heap (.ref p) l:=by
 obtain⟨n,b,ps,rfl,h1,h2⟩:=h;obtain⟨its,r1,p1,_⟩:=I.tuple (SqT.of (K:=X.K) h1);obtain⟨u,u',rfl,⟨t,rfl⟩,ru'⟩:=vals2 r1;cases ru';obtain⟨its2,r2,p2,_⟩:=I.tuple (SqT.of (K:=X.K) h2);exact⟨p,b,n,t,its2,ps,rfl,rfl,p1,p2,intsAre_of r2⟩
theorem zlo {h h':Heap}{u:Value}{l:List Int} (k:∀b o,h.get? b=some o->h'.get? b=some o) (x:Srt.IsPr h u l):Srt.IsPr h' u l:=by
 obtain⟨a,b,n,t,its,ps,e1,e2,⟨o,ho,hc⟩,⟨o',ho',hc'⟩,i⟩:=x;exact⟨a,b,n,t,its,ps,e1,e2,⟨o,k _ _ ho,hc⟩,⟨o',k _ _ ho',hc'⟩,i⟩
theorem za9 {α β:Type}{R:α->β->Prop}{l:List α}{m:List β} (p:Paired R l m):∀(i:Nat) x y,l[i]?=some x->m[i]?=some y->R x y:=by
 induction p with
 | nil=>intro i x y h; simp at h
 | cons r t ih=>
  intro i x y h1 h2;cases i with
  | zero=>simp at h1 h2; subst h1 h2; exact r
  | succ i=>exact ih i x y (by simpa using h1) (by simpa using h2)
def addrOf:Value->Addr
 | .ref a=>a
 | _=>0
theorem zcF (hu:X.A.units+64<cLine):zaS X (.builtin "sorted") (fun xs H Q=>∃(l:Addr) (as:List Addr) (ls:List (List Int)),xs=[.ref l]/\SqL X.K H l (as.map V.ref)/\Paired (PrAt H) as ls/\ls.length<64/\
  ∀(D:Addr) (qs:List (List Int×Addr)),qs.Perm (ls.zip as)->qs.Pairwise (fun a b=>HT.lexLt b.1 a.1=false)->H D=none->Q (.ref D) (upd H D (.lst (qs.map fun q=>V.ref q.2)))):=by
 intro pins s σ H xs us Q I r h;obtain⟨l,as,ls,rfl,hq,hp,h64,q⟩:=h;obtain⟨u,rfl,ru⟩:=vals1 r;cases ru;obtain⟨its,r1,p1,hz⟩:=I.list hq;have hlen:=r1.length;obtain rfl:=vals_refs r1;rw[Ab] at hlen hz;have hla:=AN hp;have hpr:∀h:Heap,(∀b o,s.heap.get? b=some o->h.get? b=some o)->∀(i:Nat) u l,(as.map Value.ref)[i]?=some u->ls[i]?=some l->Srt.IsPr h u l:=fun h hk i u l h1 h2=>by
  rw[Al] at h1;cases e:as[i]? with
  | none=>rw[e] at h1; simp at h1
  | some a=>
   rw[e] at h1;obtain rfl:=Ao h1;exact zlo hk (zmw I (za9 hp i a l e h2))
 refine Srt.zeJ (ls:=ls) (good:=fun h=>∀b o,s.heap.get? b=some o->h.get? b=some o) p1.isList (Srt.zkk (by rw[Ab]; exact hla) (zd8 hu) ⟨s.heap,fun _ _ e=>e⟩ hpr) (fun h' hk=>hk) (by rw[Ab]; exact hz) (by rw[Ab]; omega) fun out ho=>?_;obtain⟨ps,hpm,ho,hs⟩:=ho;have all:∀p∈ps,p.2=Value.ref (addrOf p.2):=fun p hp'=>by
  have:=(List.of_mem_zip (hpm.mem_iff.mp hp':(p.1,p.2)∈ls.zip (as.map Value.ref))).2;obtain⟨a,_,e⟩:=List.mem_map.mp this;rw[<- e]; rfl
 have pm:(ps.map fun p=>(p.1,addrOf p.2)).Perm (ls.zip as):=by
  have h1:=hpm.map (fun p:List Int×Value=>(p.1,addrOf p.2));have e:(ls.zip (as.map Value.ref)).map (fun p:List Int×Value=>(p.1,addrOf p.2))=ls.zip as:=by
   rw[List.zip_map_right,Ap];exact (A6 fun p _=>rfl).trans (List.map_id' _)
  rw[e] at h1;exact h1
 obtain⟨e,he⟩:=sortedAll_at s.heap (as.map Value.ref) out;have ex:out.toList=((ps.map fun p=>(p.1,addrOf p.2)).map fun q=>Value.ref q.2):=by
  rw[ho,Ap];exact A6 fun p hp'=>all p hp'
 refine⟨.ref (s.heap.objs.size+1),_,I.laid (t':=s.toks) (fun _ _=>sortedAll_old) (Nat.le_succ _) (show zJ X.prog X.w _ _ _ (.lst ((ps.map fun p=>(p.1,addrOf p.2)).map fun q=>V.ref q.2)) from ⟨?_,out.toList,e,?_,?_⟩),rfl,q _ _ pm ?_ (I.hok.fresh (Nat.le_succ _))⟩
 ·rw[Ab,pm.length_eq,List.length_zip]; omega
 ·rw[ex]
  exact zfb (fun q:List Int×Addr=>q.2) _
 ·simpa using he
 ·rw[List.pairwise_map]; exact hs
def ziF:Sp:=fun vs H Q _=>∃a ps,vs=[.ref a]/\Tp H a ps/\∀p,H p=none->Q (.ref p) (upd H p (.tup [.int ps.length,.ref a]))
theorem zjV {b:Addr} (h:FpOk X pins H b):∀c∈[b],FpOk X pins H c:=fun c hc=>by rw[List.mem_singleton.mp hc]; exact h
theorem zcC {H':Hp}{b:Addr} (f:FpOk X pins H b) (hn:H' b=none):FpOk X pins H' b:=⟨hn,f.2⟩
theorem zj2 {b:Addr} (I:Inv X pins σ H s) (f:FpOk X pins H b):b∉frs X.stack:=fun hb=>by
 rcases List.mem_cons.mp (I.stkSub b hb) with e | e
 ·exact f.2.1 e
 ·exact f.2.2.1 e
theorem zgA {k:Nat}{f l:Addr}{fd:FuncData}{as:List Addr}{pss:List (List Int)}{x:Str}{Q:Value->Shared->Prop} (F:FnOk X.prog X.w X.K X.mg X.base CX0 k f fd [x] ziF) (hr:Room (k+2) X.A) (hb:Binds X.K fd [x] [])
  (I:Inv X pins σ H s) (hl:SqL X.K H l (as.map V.ref)) (ht:Tps H as pss) (h64:pss.length<64)
  (h:∀D H' (qs:List (List Int×Addr)) s',Inv X pins σ H' s'->Same H H'->H D=none->H' D=some (.lst (qs.map fun q=>V.ref q.2))->qs.Perm (pss.zip as)->
   qs.Pairwise (fun a b=>HT.lexLt ((b.1.length:Int)::b.1) ((a.1.length:Int)::a.1)=false)->Q (.ref D) s') :
  wpAny (model X.prog X.w) X.A (call (.builtin "sorted") [.ref l] [(Str.ofString "key",.ref f)]) Q X.xe s:=by
 have hu:X.A.units+64<cLine:=hr.units;obtain⟨its,r1,p1,hz⟩:=I.list hl;have hlen:=r1.length;obtain rfl:=vals_refs r1;have hla:=ht.length;rw[Ab] at hlen hz;have hzm:(as.map Value.ref).length<=sizeLine:=by rw[Ab]; exact hz
 generalize hvs:as.map Value.ref=vs at p1 hzm;have hvl:vs.length=as.length:=by rw[<- hvs,Ab]
 refine call_function_entry_kw kind_sorted plain_sorted entry_sorted (ksk_s1 _ _) ?_;unfold Builtin.«sorted»;refine Aa (m:=checkCount "sorted" 1 1 _) (Ac ?_);refine Aa (collect_list p1.isList ?_ hzm);refine Aa (wpAny_newList ?_ hzm);have hsz:((s.heap.push (seqObj "list" #[] 0)).update s.heap.objs.size (AK (·++vs.toArray))).objs.size=s.heap.objs.size+1:=by
  rw[Heap.size_update,size_push']
 have hoL:(((s.heap.push (seqObj "list" #[] 0)).update s.heap.objs.size (AK (·++vs.toArray))).push (seqObj "list" vs.toArray 0)).get? (s.heap.objs.size+1)=some (seqObj "list" vs.toArray 0):=by
  rw[<- hsz]; exact Aq _ rfl
 have keep:∀b o,s.heap.get? b=some o->(((s.heap.push (seqObj "list" #[] 0)).update s.heap.objs.size (AK (·++vs.toArray))).push (seqObj "list" vs.toArray 0)).get? b=some o:=fun b o q=>by
  have hlt:b<s.heap.objs.size:=Au q;rw[Heap.get?_push_ne _ _ _ (by rw[hsz]; exact AE (Nat.lt_succ_of_lt hlt)),Heap.get?_update_ne _ _ _ _ (AE hlt),Heap.get?_push_ne _ _ _ (AE hlt)];exact q
 show wpAny _ _ _ _ _ { s with heap:=((s.heap.push (seqObj "list" #[] 0)).update s.heap.objs.size (AK (·++vs.toArray))).push (seqObj "list" vs.toArray 0) };rw[hsz];generalize hA:((s.heap.push (seqObj "list" #[] 0)).update s.heap.objs.size (AK (·++vs.toArray))).push (seqObj "list" vs.toArray 0)=hpA at hoL keep ⊢;have I1:Inv X pins σ H { s with heap:=hpA }:=I.kept (t':=s.toks) keep;have hfD:FpOk X pins H (s.heap.objs.size+1):=I.fpOk (Nat.le_succ _) (I.hok.fresh (Nat.le_succ _));generalize hD:s.heap.objs.size+1=D at hoL hfD ⊢;have hDlt:D<hpA.objs.size:=Au hoL;refine Aa (AW (wpAny_call_entry_kw slot_list_sort ⟨_,hoL,rfl⟩ entry_list_sort ?body (ksk_l1 _ _)))
 case body=>
  show wpAny (model X.prog X.w) X.A.in1.in1 (Builtin.«list.sort» ⟨[.ref D],[(Str.ofString "key",.ref f)]⟩) _ _ _;rw[ksk_t1];unfold ksk_tree;refine Aa (listItems_at hoL rfl ?_);refine Aa (listUpdate_at hoL rfl ?_ (by rw[Aj]; exact hzm) (AO _));obtain⟨e1,ho1⟩:∃e1,(hpA.update D (AK fun _=>(#[]:Array Value))).get? D=some (seqObj "list" #[] e1):=⟨_,get?_update_seq hoL fun _=>#[]⟩;refine Aa (seqEpoch_at ho1 rfl ?_);refine Aa (wpAny_newTuple ?_ (by show vs.length<=_; exact hzm));refine Aa (wpAny_newList ?_ (AO _));refine AW ?_;have I2:Inv X pins σ H { s with heap:=hpA.update D (AK fun _=>(#[]:Array Value)) }:=
   Inv.turneds (s:={ s with heap:=hpA }) (t':=s.toks) (ch:=[D]) I1 (zjV hfD) fun b o hb q=>by rw[Heap.get?_update_ne _ _ _ _ (fun z=>hb (by simp[z]))]; exact q
  have I3:Inv X pins σ H { s with heap:=((hpA.update D (AK fun _=>(#[]:Array Value))).push (seqObj "tuple" vs.toArray 0)) }:=I2.kept (t':=s.toks) fun b u q=>Ae _ q;have hfK:FpOk X pins H ((hpA.update D (AK fun _=>(#[]:Array Value))).push (seqObj "tuple" vs.toArray 0)).objs.size:=I3.fpOk (Af _) (I3.hok.fresh (Af _));have hKD:((hpA.update D (AK fun _=>(#[]:Array Value))).push (seqObj "tuple" vs.toArray 0)).objs.size≠D:=by
   rw[size_push',Heap.size_update]; omega
  have I4:Inv X pins σ H { s with heap:=(((hpA.update D (AK fun _=>(#[]:Array Value))).push (seqObj "tuple" vs.toArray 0)).push (seqObj "list" #[] 0)) }:=I3.kept (t':=s.toks) fun b u q=>Ae _ q;have hK4:(((hpA.update D (AK fun _=>(#[]:Array Value))).push (seqObj "tuple" vs.toArray 0)).push (seqObj "list" #[] 0)).get? ((hpA.update D (AK fun _=>(#[]:Array Value))).push (seqObj "tuple" vs.toArray 0)).objs.size=some (seqObj "list" #[] 0):=Aq _ rfl;have hD4:(((hpA.update D (AK fun _=>(#[]:Array Value))).push (seqObj "tuple" vs.toArray 0)).push (seqObj "list" #[] 0)).get? D=some (seqObj "list" #[] e1):=Ae _ (Ae _ ho1);show wpAny (model X.prog X.w) X.A.in1.in1 (ksk_rest D (.ref f) false vs.toArray e1 (.ref ((hpA.update D (AK fun _=>(#[]:Array Value))).push (seqObj "tuple" vs.toArray 0)).objs.size)) _ _ { s with heap:=((hpA.update D (AK fun _=>(#[]:Array Value))).push (seqObj "tuple" vs.toArray 0)).push (seqObj "list" #[] 0) };generalize ((hpA.update D (AK fun _=>(#[]:Array Value))).push (seqObj "tuple" vs.toArray 0)).objs.size=kS at *;generalize ((hpA.update D (AK fun _=>(#[]:Array Value))).push (seqObj "tuple" vs.toArray 0)).push (seqObj "list" #[] 0)=hp4 at *;unfold ksk_rest;refine Aa (wpAny_rule ?_)
  first
   | rw[List.forIn_toArray]
   | (rw[<- Array.forIn_toList]; simp only[List.toList_toArray])
  refine Aa (ksk_fold (fun i s'=>∃Hk kA e ks,Inv X pins σ Hk s'/\Same H Hk/\Hk D=none/\Hk kS=none/\s'.heap.get? kS=some (seqObj "list" kA e)/\s'.heap.get? D=some (seqObj "list" #[] e1)/\kA.toList=ks.map Value.ref/\ks.length=i/\
    ∀(j:Nat) p,ks[j]?=some p->∃a ps,as[j]?=some a/\pss[j]?=some ps/\Hk p=some (.tup [.int ps.length,.ref a])) vs 0 _
   ⟨H,#[],0,[],I4,Same.refl H,hfD.1,hfK.1,hK4,hD4,rfl,rfl,fun j p e=>by simp at e⟩ ?step ?done)
  case step=>
   rintro j v s' hv ⟨Hk,kA,e,ks,Ik,sk,hkD,hkK,nk,na,ekA,hj,hks⟩;simp only[Nat.zero_add] at hj ⊢;have hjl:j<as.length:=by rw[<- hvl]; exact (List.getElem?_eq_some_iff.mp hv).1
   have ea:as[j]?=some as[j]:=Ai hjl;obtain⟨ps,eps,hps⟩:=ht.get ea;have ev:v=.ref as[j]:=by
    rw[<- hvs,Al,ea] at hv;exact (Ao hv).symm
   subst ev;refine Aa (wpAny_attempt (wpAny_call (codeAny_mono (F.run X.A.in1.in1 X.stack s' Hk ⟨[.ref as[j]],[]⟩ [.ref as[j]] [.ref as[j]] (fun v H'=>∃p,v=.ref p/\Hk p=none/\H'=upd Hk p (.tup [.int ps.length,.ref as[j]])) E0
    (Room.in1 (Room.in1 hr)) Ik.env0.in1.in1 (hb s' [.ref as[j]] Ik.kIn rfl) (.cons rfl .nil) ⟨as[j],ps,rfl,sk.tp hps,fun p hp=>⟨p,rfl,hp,rfl⟩⟩) fun r s'' hq=>?_)))
   cases r with
   | error e=>exact False.elim hq
   | ok fl=>
    cases fl with
    | next=>exact False.elim hq
    | brk=>exact False.elim hq
    | cont=>exact False.elim hq
    | ret u=>
     obtain⟨v,H',os,bare,un,hok,ru,p,rfl,hp,rfl⟩:=hq;cases ru;have I5:Inv X pins σ (upd Hk p (.tup [.int ps.length,.ref as[j]])) s'':=Ik.call' os un hok bare (fun b z=>nomatch z);have fD:=zcC hfD hkD;have fK:=zcC hfK hkK;have na':=un.keep D _ na hkD (zj2 Ik fD) (by simp);have nk':=un.keep kS _ nk hkK (zj2 Ik fK) (by simp);have hD':=un.free D _ na hkD (by simp);have hK':=un.free kS _ nk hkK (by simp)
     try dsimp only
     have hkz:kA.size=j:=by rw[<- A0,ekA,Ab,hj]
     obtain⟨c2,hc2⟩:∃c2,(s''.heap.update kS (AK (·.push (.ref p)))).get? kS=some (seqObj "list" (kA.push (.ref p)) c2):=⟨_,get?_update_seq nk' (·.push (.ref p))⟩;have s1:=Heap.SameBut.update s''.heap kS (AK (·.push (.ref p)));have fK':=zcC hfK hK';have I6:Inv X pins σ (upd Hk p (.tup [.int ps.length,.ref as[j]])) { s'' with heap:=s''.heap.update kS (AK (·.push (.ref p))) }:=
      I5.turneds (t':=s''.toks) (ch:=[kS]) (zjV fK') fun b o hb q=>(s1.2 b (fun z=>hb (by simp[z]))).trans q
     refine Aa (listUpdate_at nk' rfl ?_ (by omega) (AG (Nat.le_of_eq (Array.size_push ..)) (by omega)));refine Ac ⟨rfl,_,kA.push (.ref p),c2,ks++[p],I6,sk.then (by exact sk.free hp),hD',hK',hc2,(s1.2 D hKD.symm).trans na',by rw[Array.toList_push,ekA,Ag]; rfl,by rw[Ah,hj]; rfl,fun i p' e'=>?_⟩
     by_cases hi:i<ks.length
     ·rw[List.getElem?_append_left hi] at e'
      obtain⟨a,ps',x1,x2,x3⟩:=hks i p' e';exact⟨a,ps',x1,x2,by rw[zk (zj x3 hp)]; exact x3⟩
     ·rw[List.getElem?_append_right (by omega)] at e'
      have h0:i - ks.length=0:=by
       rcases Nat.eq_zero_or_pos (i - ks.length) with z | z
       ·exact z
       ·rw[List.getElem?_eq_none (by simp only[Aw,List.length_nil]; omega)] at e'; cases e'
      rw[h0] at e';obtain rfl:p=p':=by simpa using e'
      have hij:i=j:=by omega
      subst hij;exact⟨_,ps,ea,eps,upd_same⟩
  case done=>
   rintro s' ⟨Hk,kA,e,ks,Ik,sk,hkD,hkK,nk,na,ekA,hj,hks⟩;simp only[Nat.zero_add] at hj
   try dsimp only
   refine Aa (listItems_at nk rfl ?_);unfold ksk_end
   try dsimp only
   simp only[As,if_false];have ekl:kA=(ks.map Value.ref).toArray:=by rw[<- ekA,Array.toArray_toList]
   subst ekl;have hpr:∀(i:Nat) u l,(ks.map Value.ref)[i]?=some u->(pss.map fun ps=>(ps.length:Int)::ps)[i]?=some l->Srt.IsPr s'.heap u l:=fun i u l h1 h2=>by
    rw[Al] at h1 h2;cases ek:ks[i]? with
    | none=>rw[ek] at h1; simp at h1
    | some p=>
     obtain⟨a,ps,x1,x2,x3⟩:=hks i p ek;rw[ek] at h1;rw[x2] at h2;obtain rfl:=Ao h1;obtain rfl:=Ao h2;obtain⟨ps',y1,y2⟩:=ht.get x1;rw[x2] at y1;obtain rfl:=Ao y1;exact zmw Ik ⟨_,a,ps,rfl,x3,sk.tp y2⟩
   refine Srt.zf2 (us:=ks.map Value.ref) (vs:=vs) (ls:=pss.map fun ps=>(ps.length:Int)::ps) (good:=fun h=>h=s'.heap) (Srt.zkk (by rw[Ab,Ab,hj,hvl]; exact hla) (zd8 hu) ⟨_,rfl⟩ (by rintro h rfl; exact hpr)) (by rw[Ab,hj]) (by omega) rfl fun st' ho hst hf=>?_;refine Srt.zkQ (ls:=pss.map fun ps=>(ps.length:Int)::ps) (vs:=vs) nk na hKD (by rw[Aj,Ab]; omega) ho hst hzm hf fun h' out c kk hDo hKo hOut hsz'=>⟨_,rfl,?_⟩;refine Ac ⟨_,rfl,?_⟩;obtain⟨ps,hpm,hout,hs⟩:=hOut;subst hvs;have I7:Inv X pins σ Hk { s' with heap:=h' }:=Ik.turneds (t':=s'.toks) (ch:=[kS,D]) (fun b hb=>by
     simp only[List.mem_cons,List.not_mem_nil,or_false] at hb;rcases hb with rfl | rfl
     ·exact zcC hfK hkK
     ·exact zcC hfD hkD) fun b o hb q=>kk b o (fun z=>hb (by simp[z])) (fun z=>hb (by simp[z])) q
   have all:∀p∈ps,∃a qs,p.2=Value.ref a/\p.1=((qs:List Int).length:Int)::qs:=fun p hp'=>by
    obtain⟨h1,h2⟩:=List.of_mem_zip (hpm.mem_iff.mp hp':(p.1,p.2)∈_);obtain⟨a,_,ea⟩:=List.mem_map.mp h2;obtain⟨qs,_,eq⟩:=List.mem_map.mp h1;exact⟨a,qs,ea.symm,eq.symm⟩
   have pm:(ps.map fun p=>(p.1.tail,addrOf p.2)).Perm (pss.zip as):=by
    have h1:=hpm.map (fun p:List Int×Value=>(p.1.tail,addrOf p.2));have e:((pss.map fun ps=>(ps.length:Int)::ps).zip (as.map Value.ref)).map (fun p:List Int×Value=>(p.1.tail,addrOf p.2))=pss.zip as:=by
     rw[List.zip_map,Ap];exact (A6 fun p _=>rfl).trans (List.map_id' _)
    rw[e] at h1;exact h1
   have ex:out.toList=((ps.map fun p=>(p.1.tail,addrOf p.2)).map fun q=>Value.ref q.2):=by
    rw[hout,Ap];refine A6 fun p hp'=>?_;obtain⟨a,qs,e1,_⟩:=all p hp';show p.2=Value.ref (addrOf p.2);rw[e1]; rfl
   have vv:Vals ((ps.map fun p=>(p.1.tail,addrOf p.2)).map fun q=>V.ref q.2) out.toList:=by
    rw[ex];exact zfb (fun q:List Int×Addr=>q.2) _
   obtain⟨f0,f1,f2,f3,f4,f5⟩:=hfD;have hDs:X.s₀.heap.objs.size<=D:=by rw[<- hD]; exact AG I.sz (Nat.le_succ _)
   have I8:Inv X pins σ (upd Hk D (.lst ((ps.map fun p=>(p.1.tail,addrOf p.2)).map fun q=>V.ref q.2))) { s' with heap:=h' }:=by
    refine I7.adopt hkD hDs f1 f4 f5 ⟨?_,out.toList,c,vv,?_⟩
    ·rw[Ab,pm.length_eq,List.length_zip]; omega
    ·simpa using hDo
   refine h D _ _ _ I8 (sk.then f0) f0 upd_same pm ?_;rw[List.pairwise_map];refine hs.imp_of_mem fun {p q} h1 h2 h3=>?_;obtain⟨_,qs,_,e1⟩:=all p h1;obtain⟨_,qs',_,e2⟩:=all q h2;rw[e1,e2] at h3;rw[e1,e2];exact h3
end
section
variable {X:Cx}{a:Expr}{ta:TA}{p p2 pos kpos:Pos}{k:Nat}{f:Addr}{fd:FuncData}{x y:Str}
def zma (K:Ad) (ta:TA):TE:=fun σ H Q=>ta σ H fun vs H1=>∃(l:Addr) (as:List Addr) (pss:List (List Int)),vs=[.ref l]/\SqL K H1 l (as.map V.ref)/\Tps H1 as pss/\pss.length<64/\
 ∀D H2 (qs:List (List Int×Addr)),Same H1 H2->H1 D=none->H2 D=some (.lst (qs.map fun q=>V.ref q.2))->qs.Perm (pss.zip as)->qs.Pairwise (fun a b=>HT.lexLt ((b.1.length:Int)::b.1) ((a.1.length:Int)::a.1)=false)->Q (.ref D) H2
theorem zgo (F:FnOk X.prog X.w X.K X.mg X.base CX0 k f fd [x] ziF) (hr:Room (k+2) X.A) (hb:Binds X.K fd [x] []) (hg:Gl X "sorted") (hm:X.mg "sorted"=none) (hv:AS "sorted"=some (.builtin "sorted")) (hgf:Gl X y) (hmf:X.mg y=some (.ref f)) (ha:PA X [a] ta)
  (hdb:(y == ("__debug__":Str))=false:=by decide) (he:starEach [a] X.env=[(false,eval a X.env)]:=by rfl) :
  PE X (.Call (.Name "sorted" p) [a] [⟨some "key",.Name y p2,kpos⟩] pos) (zma X.K ta):=by
 intro pins s σ H Q I h;refine wpAny_Call_Name_kw (zb9 I hg hm hv ?_);refine callWith_kw ?_ (by rw[he]; rfl) (by rw[he]; rfl) rfl rfl;refine thn (ha pos pins s σ H _ I h) fun us s1 ⟨vs,H1,I1,r1,q1⟩=>?_;obtain⟨l,as,pss,rfl,hl,ht,h64,q⟩:=q1;obtain⟨u,rfl,ru⟩:=vals1 r1;cases ru;refine kws_cons (zeQ I1 hgf hmf (kws_nil ?_) hdb);show wpAny (model X.prog X.w) X.A (call (.builtin "sorted") [.ref l] [(Str.ofString "key",.ref f)]) _ _ s1;exact zgA F hr hb I1 hl ht h64 fun D H' qs s' I' sm hD hD' hp hs=>⟨.ref D,H',I',rfl,q D H' qs sm hD hD' hp hs⟩
end
end L2
end
section
namespace STb
open PySem PySem.SetTable
def Ris (xs:Array Nat):Prop:=∀(i j a b:Nat),xs[i]?=some a->xs[j]?=some b->i<j->a<b
theorem Ris.inj {xs:Array Nat} (h:Ris xs) {i j a:Nat} (h1:xs[i]?=some a) (h2:xs[j]?=some a):i=j:=by
 rcases Nat.lt_trichotomy i j with q | q | q
 ·exact absurd (h i j a a h1 h2 q) (Nat.lt_irrefl _)
 ·exact q
 ·exact absurd (h j i a a h2 h1 q) (Nat.lt_irrefl _)
theorem ze1 {xs:Array Nat}{j:Nat} (hr:Ris xs):∀(fuel lo hi:Nat),hi - lo<=fuel->lo<=hi->hi<=xs.size->(∀i a,xs[i]?=some a->i<lo->a<j)->(∀i a,xs[i]?=some a->hi<=i->j<=a)->
  below.go xs j fuel lo hi<=xs.size/\(∀i a,xs[i]?=some a->i<below.go xs j fuel lo hi->a<j)/\(∀i a,xs[i]?=some a->below.go xs j fuel lo hi<=i->j<=a)
 | 0,lo,hi,h0,h1,h2,h3,h4=>by
  have e:lo=hi:=by omega
  subst e;exact⟨h2,h3,h4⟩
 | fuel+1,lo,hi,h0,h1,h2,h3,h4=>by
  have eg0:below.go xs j (fuel+1) lo hi=if lo<hi then (if xs.getD ((lo+hi) / 2) j<j then below.go xs j fuel ((lo+hi) / 2+1) hi else below.go xs j fuel lo ((lo+hi) / 2)) else lo:=rfl;rw[eg0]
  by_cases hlt:lo<hi
  ·rw[if_pos hlt]
   have hm:(lo+hi) / 2<xs.size:=by omega
   have em:xs[(lo+hi) / 2]?=some xs[(lo+hi) / 2]:=getElem?_pos xs _ hm;have eg:xs.getD ((lo+hi) / 2) j=xs[(lo+hi) / 2]:=by simp[Array.getD,hm]
   rw[eg]
   by_cases hc:xs[(lo+hi) / 2]<j
   ·rw[if_pos hc]
    refine ze1 hr fuel _ _ (by omega) (by omega) h2 (fun i a e hi'=>?_) h4;rcases Nat.lt_or_eq_of_le (Nat.lt_succ_iff.mp hi') with q | q
    ·exact Nat.lt_trans (hr _ _ _ _ e em q) hc
    ·subst q; rw[em] at e; cases e; exact hc
   ·rw[if_neg hc]
    refine ze1 hr fuel _ _ (by omega) (by omega) (by omega) h3 (fun i a e hi'=>?_);rcases Nat.lt_or_eq_of_le hi' with q | q
    ·have:=hr _ _ _ _ em e q
     omega
    ·subst q; rw[em] at e; cases e; omega
  ·rw[if_neg hlt]
   have e:lo=hi:=by omega
   subst e;exact⟨h2,h3,h4⟩
theorem zbX {xs:Array Nat} (hr:Ris xs) (j:Nat):below xs j<=xs.size/\(∀i a,xs[i]?=some a->i<below xs j->a<j)/\(∀i a,xs[i]?=some a->below xs j<=i->j<=a):=
 ze1 hr xs.size 0 xs.size (by omega) (by omega) (Af _) (fun _ _ _ h=>absurd h (Nat.not_lt_zero _)) (fun i a e h=>by have:=(Array.getElem?_eq_some_iff.mp e).1; omega)
theorem below_at {xs:Array Nat} (hr:Ris xs) {i j:Nat} (e:xs[i]?=some j):below xs j=i:=by
 obtain⟨h1,h2,h3⟩:=zbX hr j;rcases Nat.lt_trichotomy (below xs j) i with q | q | q
 ·have hb:below xs j<xs.size:=Nat.lt_trans q (Array.getElem?_eq_some_iff.mp e).1
  have e2:=getElem?_pos xs (below xs j) hb;have a1:=h3 _ _ e2 (Af _);have a2:=hr _ _ _ _ e2 e q;omega
 ·exact q
 ·exact absurd (h2 i j e q) (Nat.lt_irrefl _)
theorem zap {α:Type} (xs:Array α) (p:Nat) (x:α) (hp:p<=xs.size) (i:Nat):(insertAt xs p x)[i]?=if i<p then xs[i]? else if i=p then some x else xs[i - 1]?:=by
 unfold insertAt;have hs:((xs.extract 0 p).push x).size=p+1:=by rw[Array.size_push,Array.size_extract]; omega
 by_cases h1:i<p
 ·rw[if_pos h1,Array.getElem?_append_left (by omega),Array.getElem?_push_lt (by rw[Array.size_extract]; omega)]
  simp[Array.getElem_extract,h1]
 ·rw[if_neg h1]
  by_cases h2:i=p
  ·subst h2
   rw[if_pos rfl,Array.getElem?_append_left (by omega)];have e:(xs.extract 0 i).size=i:=by rw[Array.size_extract]; omega
   have:=Array.getElem?_push_size (xs:=xs.extract 0 i) (x:=x);rw[e] at this;exact this
  ·rw[if_neg h2,Array.getElem?_append_right (by omega),hs,Array.getElem?_extract]
   by_cases h3:i - (p+1)<xs.size - p
   ·rw[if_pos (by omega)]
    congr 1
    omega
   ·rw[if_neg (by omega)]
    exact (Array.getElem?_eq_none (by omega)).symm
theorem zcl {α:Type} (xs:Array α) (p:Nat) (x:α) (hp:p<=xs.size):(insertAt xs p x).size=xs.size+1:=by
 unfold insertAt;rw[Array.size_append,Array.size_push,Array.size_extract,Array.size_extract];omega
theorem zkT {xs:Array Nat} (hr:Ris xs) {j:Nat} (hn:∀i:Nat,xs[i]?≠some j):Ris (insertAt xs (below xs j) j):=by
 obtain⟨h1,h2,h3⟩:=zbX hr j;intro a b x y ea eb hab;rw[zap _ _ _ h1] at ea eb
 by_cases a1:a<below xs j
 ·rw[if_pos a1] at ea
  by_cases b1:b<below xs j
  ·rw[if_pos b1] at eb; exact hr _ _ _ _ ea eb hab
  ·rw[if_neg b1] at eb
   by_cases b2:b=below xs j
   ·rw[if_pos b2] at eb; cases eb; exact h2 _ _ ea a1
   ·rw[if_neg b2] at eb; exact hr _ _ _ _ ea eb (by omega)
 ·rw[if_neg a1] at ea
  rw[if_neg (by omega)] at eb
  by_cases a2:a=below xs j
  ·rw[if_pos a2] at ea; cases ea
   rw[if_neg (by omega)] at eb;have:=h3 _ _ eb (by omega);rcases Nat.lt_or_eq_of_le this with q | q
   ·exact q
   ·subst q; exact absurd eb (hn _)
  ·rw[if_neg a2] at ea
   rw[if_neg (by omega)] at eb;exact hr _ _ _ _ ea eb (by omega)
def nxt (mask:Nat) (p:Probe):Probe:=
 if p.more > 0 then { p with j:=p.j+1,more:=p.more - 1 } else
 { p with j:=(leap mask p.i p.perturb).1,more:=runEnd mask (leap mask p.i p.perturb).1 - (leap mask p.i p.perturb).1,i:=(leap mask p.i p.perturb).1,perturb:=(leap mask p.i p.perturb).2 }
def first (mask:Nat) (h:Int):Probe:={ j:=bits h % (mask+1),more:=runEnd mask (bits h % (mask+1)) - bits h % (mask+1),i:=bits h % (mask+1),perturb:=bits h,dummy:=none }
def pr (mask:Nat) (h:Int):Nat->Probe
 | 0=>first mask h
 | n+1=>nxt mask (pr mask h n)
def pos (mask:Nat) (h:Int) (n:Nat):Nat:=(pr mask h n).j
theorem zfz (mask:Nat) (h:Int):∀n,(pr mask h n).dummy=none
 | 0=>rfl
 | n+1=>by
  show (nxt mask (pr mask h n)).dummy=none;unfold nxt;split <;> exact zfz mask h n
def lp (mask:Nat) (h:Int):Nat->Nat×Nat
 | 0=>(bits h % (mask+1),bits h)
 | r+1=>leap mask (lp mask h r).1 (lp mask h r).2
theorem zmh (mask i:Nat):runEnd mask i - i<=9:=by unfold runEnd; split <;> omega
theorem zck (mask:Nat) (h:Int) {n r:Nat} (e:pr mask h n={ j:=(lp mask h r).1,more:=runEnd mask (lp mask h r).1 - (lp mask h r).1,i:=(lp mask h r).1,perturb:=(lp mask h r).2,dummy:=none }) :
  ∀k,k<=runEnd mask (lp mask h r).1 - (lp mask h r).1->pr mask h (n+k)={ j:=(lp mask h r).1+k,more:=runEnd mask (lp mask h r).1 - (lp mask h r).1 - k,i:=(lp mask h r).1,perturb:=(lp mask h r).2,dummy:=none }
 | 0,_=>e
 | k+1,hk=>by
  have ih:=zck mask h e k (by omega);show nxt mask (pr mask h (n+k))=_;rw[ih];unfold nxt;rw[if_pos (by show runEnd mask (lp mask h r).1 - (lp mask h r).1 - k > 0; omega)]
  congr 1
theorem zkj (mask:Nat) (h:Int):∀r,∃n,n<=10*r/\pr mask h n={ j:=(lp mask h r).1,more:=runEnd mask (lp mask h r).1 - (lp mask h r).1,i:=(lp mask h r).1,perturb:=(lp mask h r).2,dummy:=none }
 | 0=>⟨0,Af _,rfl⟩
 | r+1=>by
  obtain⟨n,hn,e⟩:=zkj mask h r;have hl:=zmh mask (lp mask h r).1;refine⟨n+(runEnd mask (lp mask h r).1 - (lp mask h r).1)+1,by omega,?_⟩;show nxt mask (pr mask h (n+(runEnd mask (lp mask h r).1 - (lp mask h r).1)))=_;rw[zck mask h e _ (Af _)];unfold nxt;rw[if_neg (by show ¬ (runEnd mask (lp mask h r).1 - (lp mask h r).1 - (runEnd mask (lp mask h r).1 - (lp mask h r).1) > 0); omega)]
  rfl
theorem zlu (h:Int):bits h<2 ^ 64:=by
 unfold bits;have h1:(0:Int)<=h % (2 ^ 64:Int):=Int.emod_nonneg _ (by decide);have h2:h % (2 ^ 64:Int)<2 ^ 64:=Int.emod_lt_of_pos _ (by decide);omega
theorem zkf (mask:Nat) (h:Int):∀r,(lp mask h r).2=bits h / 32 ^ r
 | 0=>by simp[lp]
 | r+1=>by
  show (lp mask h r).2 / 32=_;rw[zkf mask h r,Nat.div_div_eq_div_mul,Nat.pow_succ]
theorem zmI (mask:Nat) (h:Int) {r:Nat} (hr:13<=r):(lp mask h r).2=0:=by
 rw[zkf];have h1:=zlu h;have h2:32 ^ 13<=32 ^ r:=Nat.pow_le_pow_right (by decide) hr;exact Nat.div_eq_of_lt (AM h1 (AG (by decide) h2))
theorem zmV (mask:Nat) (h:Int):∀r,(lp mask h r).1<=mask
 | 0=>Nat.lt_succ_iff.mp (Nat.mod_lt _ (Nat.succ_pos _))
 | r+1=>Nat.lt_succ_iff.mp (Nat.mod_lt _ (Nat.succ_pos _))
def f5 (mask x:Nat):Nat:=(x*5+1) % (mask+1)
def it5 (mask:Nat):Nat->Nat->Nat
 | 0,x=>x
 | k+1,x=>f5 mask (it5 mask k x)
theorem zld (mask:Nat) (h:Int):∀k,(lp mask h (13+k)).1=it5 mask k (lp mask h 13).1
 | 0=>rfl
 | k+1=>by
  show ((lp mask h (13+k)).1*5+1+(lp mask h (13+k)).2 / 32) % (mask+1)=f5 mask (it5 mask k (lp mask h 13).1);rw[zmI mask h (by omega),zld mask h k]
  rfl
def Cov (mask:Nat):Prop:=∀i s,i<=mask->s<=mask->∃k,k<=mask/\it5 mask k i=s
def orb (mask:Nat):Nat->Nat->List Nat
 | 0,_=>[]
 | n+1,x=>x::orb mask n (f5 mask x)
theorem zhU (mask:Nat):∀(n x k:Nat),k<n->(orb mask n x)[k]?=some (it5 mask k x)
 | 0,_,_,h=>absurd h (Nat.not_lt_zero _)
 | n+1,x,0,_=>rfl
 | n+1,x,k+1,h=>by
  have ih:=zhU mask n (f5 mask x) k (by omega);show (orb mask n (f5 mask x))[k]?=_;rw[ih]
  congr 1
  have sh:∀k x,it5 mask k (f5 mask x)=f5 mask (it5 mask k x):=by
   intro k
   induction k with
   | zero=>intro x; rfl
   | succ k ih=>intro x; show f5 mask (it5 mask k (f5 mask x))=_; rw[ih]; rfl
  exact sh k x
theorem zfq (mask:Nat):∀n x,(orb mask n x).length=n
 | 0,_=>rfl
 | n+1,x=>by show (orb mask n (f5 mask x)).length+1=_; rw[zfq mask n]
theorem zdP (mask:Nat):∀(a b x:Nat),it5 mask (a+b) x=it5 mask a (it5 mask b x)
 | 0,b,x=>by rw[Nat.zero_add]; rfl
 | a+1,b,x=>by
  rw[Nat.add_right_comm];show f5 mask (it5 mask (a+b) x)=_;rw[zdP mask a b x]
  rfl
theorem zeh {mask:Nat} (h:((A7 (mask+1)).all fun s=>(orb mask (mask+1) 0).contains s)=true) (hp:it5 mask (mask+1) 0=0):Cov mask:=by
 have all:∀s,s<=mask->∃k,k<=mask/\it5 mask k 0=s:=fun s hs=>by
  have h2:=List.all_eq_true.mp h s (List.mem_range.mpr (by omega));obtain⟨k,hk,e⟩:=List.mem_iff_getElem.mp (List.contains_iff_mem.mp h2);rw[zfq] at hk;refine⟨k,by omega,?_⟩;have e2:=zhU mask (mask+1) 0 k hk;rw[Ai (by rw[zfq]; exact hk),e] at e2;exact (Ao e2).symm
 intro i s hi hs;obtain⟨a,ha,ea⟩:=all i hi;obtain⟨b,hb,eb⟩:=all s hs;rcases Nat.lt_or_ge b a with q | q
 ·refine⟨mask+1 - a+b,by omega,?_⟩
  rw[<- ea,<- zdP,show mask+1 - a+b+a=b+(mask+1) by omega,zdP,hp,eb]
 ·refine⟨b - a,by omega,?_⟩
  rw[<- ea,<- zdP,show b - a+a=b by omega,eb]
theorem cov7:Cov 7:=zeh (by decide +kernel) (by decide +kernel)
theorem cov31:Cov 31:=zeh (by decide +kernel) (by decide +kernel)
theorem cov63:Cov 63:=zeh (by decide +kernel) (by decide +kernel)
theorem cov255:Cov 255:=zeh (by decide +kernel) (by decide +kernel)
theorem cov127:Cov 127:=zeh (by decide +kernel) (by decide +kernel)
theorem reach {mask:Nat} (hc:Cov mask) (h:Int) {x:Nat} (hx:x<=mask):∃n,n<10*turns mask/\pos mask h n=x:=by
 obtain⟨k,hk,e⟩:=hc (lp mask h 13).1 x (zmV mask h 13) hx;obtain⟨n,hn,e2⟩:=zkj mask h (13+k);refine⟨n,by unfold turns; omega,?_⟩;show (pr mask h n).j=x;rw[e2];show (lp mask h (13+k)).1=x;rw[zld,e]
theorem pos_le (mask:Nat) (h:Int) (n:Nat):pos mask h n<=mask:=by
 have key:∀n,(pr mask h n).i<=mask/\(pr mask h n).j+(pr mask h n).more<=mask:=by
  intro n;have er:∀i,i<=mask->i+(runEnd mask i - i)<=mask:=fun i hi=>by unfold runEnd; split <;> omega
  induction n with
  | zero=>
   have q:bits h % (mask+1)<=mask:=Nat.lt_succ_iff.mp (Nat.mod_lt _ (Nat.succ_pos _));exact⟨q,er _ q⟩
  | succ n ih=>
   show (nxt mask (pr mask h n)).i<=mask/\(nxt mask (pr mask h n)).j+(nxt mask (pr mask h n)).more<=mask;unfold nxt;split
   ·exact⟨ih.1,by show (pr mask h n).j+1+((pr mask h n).more - 1)<=mask; omega⟩
   ·have q:(leap mask (pr mask h n).i (pr mask h n).perturb).1<=mask:=Nat.lt_succ_iff.mp (Nat.mod_lt _ (Nat.succ_pos _))
    exact⟨q,er _ q⟩
 have:=(key n).2;unfold pos;omega
end STb
end
section
namespace STb
open PySem PySem.SetTable
structure Tb (t:SetTable) (hs:Array Int):Prop where
 ris:Ris t.place
 dum:t.dummies=#[]
 size:t.place.size=hs.size
 le:∀(i j:Nat),t.place[i]?=some j->j<=t.mask
 cov:Cov t.mask
 odd:t.mask % 2=1
 room:hs.size<=t.mask
 path:∀(k j:Nat) (h:Int),hs[k]?=some h->t.place[k]?=some j->∃n,pos t.mask h n=j/\∀m,m<n->∃k':Nat,t.place[k']?=some (pos t.mask h m)
def Occ (t:SetTable) (j:Nat):Prop:=∃i:Nat,t.place[i]?=some j
section
variable {t:SetTable}{hs:Array Int}
theorem zaO (T:Tb t hs) {i j:Nat} (e:t.place[i]?=some j):t.slot j=.live i:=by
 show (if (t.place[below t.place j]? == some j)=true then Slot.live (below t.place j) else _)=_;rw[below_at T.ris e,e,if_pos (by simp)]
theorem zgt (T:Tb t hs) {j:Nat} (e:¬ Occ t j):t.slot j=.empty:=by
 show (if (t.place[below t.place j]? == some j)=true then Slot.live (below t.place j) else if has t.dummies j=true then Slot.dummy else Slot.empty)=_;have h1:¬ (t.place[below t.place j]? == some j)=true:=by
  intro q;exact e ⟨_,eq_of_beq q⟩
 have h2:has t.dummies j=false:=by
  unfold has;rw[T.dum]
  rfl
 rw[if_neg h1,h2]
 rfl
theorem zgp (T:Tb t hs):∃x,x<=t.mask/\¬ Occ t x:=by
 apply Classical.byContradiction;intro hn;have all:∀x,x<=t.mask->Occ t x:=fun x hx=>Classical.byContradiction fun q=>hn ⟨x,hx,q⟩;have sub:A7 (t.mask+1) ⊆ t.place.toList:=fun x hx=>by
  obtain⟨i,e⟩:=all x (Nat.lt_succ_iff.mp (List.mem_range.mp hx));rw[<- AR] at e;exact Ak e
 have:=(List.nodup_range (n:=t.mask+1)).length_le_of_subset sub;rw[List.length_range,A0,T.size] at this;have:=T.room;omega
theorem least {P:Nat->Prop} (n:Nat) (h:P n):∃m,m<=n/\P m/\∀k,k<m->¬ P k:=by
 induction n using Nat.strongRecOn with
 | ind n ih=>
  by_cases q:∃k,k<n/\P k
  ·obtain⟨k,hk,pk⟩:=q
   obtain⟨m,h1,h2,h3⟩:=ih k hk pk;exact⟨m,by omega,h2,h3⟩
  ·exact⟨n,Af _,h,fun k hk pk=>q ⟨k,hk,pk⟩⟩
theorem zgB (T:Tb t hs) (h:Int):∃ne,ne<10*turns t.mask/\¬ Occ t (pos t.mask h ne)/\∀m,m<ne->Occ t (pos t.mask h m):=by
 obtain⟨x,hx,fx⟩:=zgp T;obtain⟨n,hn,e⟩:=reach T.cov h hx;obtain⟨m,h1,h2,h3⟩:=least (P:=fun m=>¬ Occ t (pos t.mask h m)) n (by rw[e]; exact fx);exact⟨m,by omega,h2,fun k hk=>Classical.byContradiction fun q=>h3 k hk q⟩
theorem ze4 (T:Tb t hs) {hashAt:Nat->Int}{h:Int}:∀(d fuel n:Nat),(∀m,n<=m->m<n+d->∃i:Nat,t.place[i]?=some (pos t.mask h m)/\hashAt i≠h)->probe.go t hashAt h (fuel+d) (pr t.mask h n)=probe.go t hashAt h fuel (pr t.mask h (n+d))
 | 0,fuel,n,_=>rfl
 | d+1,fuel,n,hm=>by
  obtain⟨i,e1,e2⟩:=hm n (Af _) (by omega);have es:t.slot (pr t.mask h n).j=.live i:=zaO T e1;have ih:=ze4 T d fuel (n+1) (fun m h1 h2=>hm m (by omega) (by omega));rw[show fuel+(d+1)=(fuel+d)+1 by omega,show n+(d+1)=n+1+d by omega,<- ih];show (match t.slot (pr t.mask h n).j with
   | .empty=>some (Met.empty (pr t.mask h n).j (pr t.mask h n).dummy)
   | .dummy=>probe.go t hashAt h (fuel+d) (t.advance { (pr t.mask h n) with dummy:=some (pr t.mask h n).j })
   | .live i=>if hashAt i == h then some (Met.candidate (pr t.mask h n).j i (t.advance (pr t.mask h n))) else probe.go t hashAt h (fuel+d) (t.advance (pr t.mask h n)))=_
  rw[es];dsimp only;rw[if_neg (by simpa using e2)]
  rfl
theorem probe_spec (T:Tb t hs) {hashAt:Nat->Int}{h:Int}{ne n:Nat} (hne:ne<10*turns t.mask) (he:¬ Occ t (pos t.mask h ne)) (hm:∀m,m<ne->Occ t (pos t.mask h m)) (hn:n<=ne) :
  (t.probe hashAt h (pr t.mask h n)=some (.empty (pos t.mask h ne) none)/\∀m i,n<=m->m<ne->t.place[i]?=some (pos t.mask h m)->hashAt i≠h) \/
  ∃(N i:Nat),n<=N/\N<ne/\t.place[i]?=some (pos t.mask h N)/\hashAt i=h/\t.probe hashAt h (pr t.mask h n)=some (.candidate (pos t.mask h N) i (pr t.mask h (N+1)))/\∀m i',n<=m->m<N->t.place[i']?=some (pos t.mask h m)->hashAt i'≠h:=by
 by_cases q:∃N,n<=N/\N<ne/\∃i:Nat,t.place[i]?=some (pos t.mask h N)/\hashAt i=h
 ·right
  obtain⟨N₀,hN₀⟩:=q;obtain⟨N,h1,⟨h2,h3,i,h4,h5⟩,h6⟩:=least (P:=fun N=>n<=N/\N<ne/\∃i:Nat,t.place[i]?=some (pos t.mask h N)/\hashAt i=h) N₀ hN₀;have bef:∀m i',n<=m->m<N->t.place[i']?=some (pos t.mask h m)->hashAt i'≠h:=fun m i' a b c d=>h6 m b ⟨a,by omega,i',c,d⟩;refine⟨N,i,h2,h3,h4,h5,?_,bef⟩;obtain⟨fuel,hf⟩:∃fuel,10*turns t.mask=(fuel+1)+(N - n):=⟨10*turns t.mask - (N - n) - 1,by omega⟩;unfold SetTable.probe;rw[hf,ze4 T (N - n) (fuel+1) n (fun m a b=>?_),show n+(N - n)=N by omega]
  ·show (match t.slot (pr t.mask h N).j with
    | .empty=>some (Met.empty (pr t.mask h N).j (pr t.mask h N).dummy)
    | .dummy=>probe.go t hashAt h fuel (t.advance { (pr t.mask h N) with dummy:=some (pr t.mask h N).j })
    | .live i=>if hashAt i == h then some (Met.candidate (pr t.mask h N).j i (t.advance (pr t.mask h N))) else probe.go t hashAt h fuel (t.advance (pr t.mask h N)))=_
   rw[show t.slot (pr t.mask h N).j=.live i from zaO T h4];dsimp only;rw[if_pos (by simpa using h5)]
   rfl
  ·obtain⟨i',e⟩:=hm m (by omega)
   exact⟨i',e,bef m i' a (by omega) e⟩
 ·left
  have bef:∀m i,n<=m->m<ne->t.place[i]?=some (pos t.mask h m)->hashAt i≠h:=fun m i a b c d=>q ⟨m,a,b,i,c,d⟩;refine⟨?_,bef⟩;obtain⟨fuel,hf⟩:∃fuel,10*turns t.mask=(fuel+1)+(ne - n):=⟨10*turns t.mask - (ne - n) - 1,by omega⟩;unfold SetTable.probe;rw[hf,ze4 T (ne - n) (fuel+1) n (fun m a b=>?_),show n+(ne - n)=ne by omega]
  ·show (match t.slot (pr t.mask h ne).j with
    | .empty=>some (Met.empty (pr t.mask h ne).j (pr t.mask h ne).dummy)
    | .dummy=>probe.go t hashAt h fuel (t.advance { (pr t.mask h ne) with dummy:=some (pr t.mask h ne).j })
    | .live i=>if hashAt i == h then some (Met.candidate (pr t.mask h ne).j i (t.advance (pr t.mask h ne))) else probe.go t hashAt h fuel (t.advance (pr t.mask h ne)))=_
   rw[show t.slot (pr t.mask h ne).j=.empty from zgt T he];dsimp only;rw[zfz]
   rfl
  ·obtain⟨i',e⟩:=hm m (by omega)
   exact⟨i',e,bef m i' a (by omega) e⟩
theorem zmP (T:Tb t hs) {h:Int}{ne k j:Nat} (he:¬ Occ t (pos t.mask h ne)) (hk:hs[k]?=some h) (hj:t.place[k]?=some j):∃N,N<ne/\pos t.mask h N=j:=by
 obtain⟨n,e,hm⟩:=T.path k j h hk hj;refine⟨n,?_,e⟩;rcases Nat.lt_trichotomy n ne with q | q | q
 ·exact q
 ·subst q; exact absurd ⟨k,by rw[e]; exact hj⟩ he
 ·exact absurd (hm ne q) he
theorem zme (T:Tb t hs) {h:Int}{ne:Nat} (he:¬ Occ t (pos t.mask h ne)) (hm:∀m,m<ne->Occ t (pos t.mask h m)) (hr:hs.size+1<=t.mask) :
  (t.put (pos t.mask h ne)).2<=hs.size/\(t.put (pos t.mask h ne)).1.mask=t.mask/\Tb (t.put (pos t.mask h ne)).1 (insertAt hs (t.put (pos t.mask h ne)).2 h):=by
 have hj:∀i:Nat,t.place[i]?≠some (pos t.mask h ne):=fun i e=>he ⟨i,e⟩;obtain⟨b1,b2,b3⟩:=zbX T.ris (pos t.mask h ne);have hb:below t.place (pos t.mask h ne)<=hs.size:=by rw[<- T.size]; exact b1
 have pl:(t.put (pos t.mask h ne)).1.place=insertAt t.place (below t.place (pos t.mask h ne)) (pos t.mask h ne):=rfl;have mk:(t.put (pos t.mask h ne)).1.mask=t.mask:=rfl;have occ:∀j,Occ t j->∃k':Nat,(t.put (pos t.mask h ne)).1.place[k']?=some j:=fun j ⟨i,e⟩=>by
  by_cases q:i<below t.place (pos t.mask h ne)
  ·exact⟨i,by rw[pl,zap _ _ _ b1,if_pos q]; exact e⟩
  ·exact⟨i+1,by rw[pl,zap _ _ _ b1,if_neg (by omega),if_neg (by omega),Nat.add_sub_cancel]; exact e⟩
 refine⟨hb,mk,⟨?_,?_,?_,fun i j e=>?_,T.cov,T.odd,?_,fun k j h' e1 e2=>?_⟩⟩
 ·rw[pl]; exact zkT T.ris hj
 ·show (if has t.dummies (pos t.mask h ne)=true then _ else t.dummies)=#[]
  rw[T.dum]
  rfl
 ·rw[pl,zcl _ _ _ b1]
  show _=(insertAt hs (below t.place (pos t.mask h ne)) h).size;rw[zcl _ _ _ hb,T.size]
 ·rw[pl,zap _ _ _ b1] at e
  rw[mk]
  by_cases q1:i<below t.place (pos t.mask h ne)
  ·rw[if_pos q1] at e; exact T.le _ _ e
  ·rw[if_neg q1] at e
   by_cases q2:i=below t.place (pos t.mask h ne)
   ·rw[if_pos q2] at e; cases e; exact pos_le _ _ _
   ·rw[if_neg q2] at e; exact T.le _ _ e
 ·show (insertAt hs (below t.place (pos t.mask h ne)) h).size<=t.mask
  rw[zcl _ _ _ hb];exact hr
 ·have e1':(insertAt hs (below t.place (pos t.mask h ne)) h)[k]?=some h':=e1
  rw[zap _ _ _ hb] at e1';rw[pl,zap _ _ _ b1] at e2;rw[mk]
  by_cases q1:k<below t.place (pos t.mask h ne)
  ·rw[if_pos q1] at e1' e2
   obtain⟨n,a,b⟩:=T.path k j h' e1' e2;exact⟨n,a,fun m hm'=>occ _ (b m hm')⟩
  ·rw[if_neg q1] at e1' e2
   by_cases q2:k=below t.place (pos t.mask h ne)
   ·rw[if_pos q2] at e1' e2
    cases e1'; cases e2;exact⟨ne,rfl,fun m hm'=>occ _ (hm m hm')⟩
   ·rw[if_neg q2] at e1' e2
    obtain⟨n,a,b⟩:=T.path (k - 1) j h' e1' e2;exact⟨n,a,fun m hm'=>occ _ (b m hm')⟩
end
theorem zjb (finger moves:Nat) (led:Bool):Tb (SetTable.fresh finger moves led) #[]:=
 ⟨fun i j a b h=>by simp[SetTable.fresh] at h,rfl,rfl,fun i j h=>by simp[SetTable.fresh] at h,cov7,show 7 % 2=1 from rfl,show 0<=7 from AO _,fun k j h e=>by simp at e⟩
end STb
end
section
namespace STb
open PySem PySem.SetTable
def Own (owner:Array (Option Nat)) (j:Nat):Prop:=∃q,owner[j]?=some (some q)
def stt (mask:Nat) (h:Int):Nat->Nat
 | 0=>0
 | r+1=>stt mask h r+(runEnd mask (lp mask h r).1 - (lp mask h r).1)+1
theorem zjw (mask:Nat) (h:Int) {r R:Nat} (hr:r<=R):stt mask h r<=stt mask h R:=by
 induction hr with
 | refl=>exact Af _
 | step _ ih=>exact AG ih (by show _<=stt mask h _+_+1; omega)
theorem zgY (mask:Nat) (h:Int):∀r,pr mask h (stt mask h r)={ j:=(lp mask h r).1,more:=runEnd mask (lp mask h r).1 - (lp mask h r).1,i:=(lp mask h r).1,perturb:=(lp mask h r).2,dummy:=none }
 | 0=>rfl
 | r+1=>by
  show nxt mask (pr mask h (stt mask h r+(runEnd mask (lp mask h r).1 - (lp mask h r).1)))=_;rw[zck mask h (zgY mask h r) _ (Af _)];unfold nxt;rw[if_neg (by show ¬ (runEnd mask (lp mask h r).1 - (lp mask h r).1 - (runEnd mask (lp mask h r).1 - (lp mask h r).1) > 0); omega)]
  rfl
theorem zdl {owner:Array (Option Nat)}{mask j:Nat} (hz:owner.size=mask+1) (hj:j<=mask):(owner.getD j (some 0)).isNone=true ↔ ¬ Own owner j:=by
 have hlt:j<owner.size:=by omega
 have e:owner.getD j (some 0)=owner[j]:=by simp[Array.getD,hlt]
 have e2:owner[j]?=some owner[j]:=getElem?_pos owner j hlt;rw[e];constructor
 ·intro h ⟨q,hq⟩
  rw[e2] at hq;rw[Ao hq] at h;cases h
 ·intro h
  cases c:owner[j] with
  | none=>rfl
  | some q=>exact absurd ⟨q,by rw[e2,c]⟩ h
theorem zhS {mask:Nat}{owner:Array (Option Nat)} (hz:owner.size=mask+1) (h:Int) {ne R:Nat} (he:¬ Own owner (pos mask h ne)) (hm:∀m,m<ne->Own owner (pos mask h m)) (hR:ne<=stt mask h R) :
  ∀(fuel r:Nat),stt mask h r<=ne->R<r+fuel->layClean.free mask owner fuel (lp mask h r).1 (lp mask h r).2=some (pos mask h ne):=by
 intro fuel
 induction fuel with
 | zero=>
  intro r h1 h2;have q:=zjw mask h (r:=R+1) (R:=r) (by omega);have:stt mask h (R+1)=stt mask h R+(runEnd mask (lp mask h R).1 - (lp mask h R).1)+1:=rfl;omega
 | succ fuel ih=>
  intro r hn hr;have walk:=zck mask h (zgY mask h r);have posk:∀k,k<=runEnd mask (lp mask h r).1 - (lp mask h r).1->pos mask h (stt mask h r+k)=(lp mask h r).1+k:=fun k hk=>by
   unfold pos;rw[walk k hk]
  have hge:(lp mask h r).1<=runEnd mask (lp mask h r).1:=by unfold runEnd; split <;> omega
  have ple:∀k,k<=runEnd mask (lp mask h r).1 - (lp mask h r).1->(lp mask h r).1+k<=mask:=fun k hk=>by rw[<- posk k hk]; exact pos_le _ _ _
  show (match (A7 (runEnd mask (lp mask h r).1+1 - (lp mask h r).1)).find? (fun k=>(owner.getD ((lp mask h r).1+k) (some 0)).isNone) with
   | some k=>some ((lp mask h r).1+k)
   | none=>layClean.free mask owner fuel (leap mask (lp mask h r).1 (lp mask h r).2).1 (leap mask (lp mask h r).1 (lp mask h r).2).2)=_
  by_cases hin:ne<=stt mask h r+(runEnd mask (lp mask h r).1 - (lp mask h r).1)
  ·have ef:(A7 (runEnd mask (lp mask h r).1+1 - (lp mask h r).1)).find? (fun k=>(owner.getD ((lp mask h r).1+k) (some 0)).isNone)=some (ne - stt mask h r):=by
    rw[List.find?_range_eq_some];refine⟨?_,List.mem_range.mpr (by omega),fun k hk=>?_⟩
    ·show (owner.getD ((lp mask h r).1+(ne - stt mask h r)) (some 0)).isNone=true
     rw[zdl hz (ple _ (by omega)),<- posk _ (by omega),show stt mask h r+(ne - stt mask h r)=ne by omega];exact he
    ·have q:¬ (owner.getD ((lp mask h r).1+k) (some 0)).isNone=true:=by
      rw[zdl hz (ple _ (by omega)),<- posk k (by omega)];exact fun z=>z (hm _ (by omega))
     rw[Bool.not_eq_true] at q;rw[q]
     rfl
   rw[ef];dsimp only;rw[<- posk _ (by omega),show stt mask h r+(ne - stt mask h r)=ne by omega]
  ·have ef:(A7 (runEnd mask (lp mask h r).1+1 - (lp mask h r).1)).find? (fun k=>(owner.getD ((lp mask h r).1+k) (some 0)).isNone)=none:=by
    rw[List.find?_eq_none];intro k hk;have hk':=List.mem_range.mp hk;rw[zdl hz (ple _ (by omega)),<- posk k (by omega)];exact fun z=>z (hm _ (by omega))
   rw[ef];dsimp only;refine ih (r+1) ?_ (by omega);show stt mask h r+(runEnd mask (lp mask h r).1 - (lp mask h r).1)+1<=ne;omega
structure Lay (mask:Nat) (hashes:List Int) (owner:Array (Option Nat)) (k:Nat):Prop where
 size:owner.size=mask+1
 all:∀q:Nat,q<k->∃j:Nat,owner[j]?=some (some q)
 back:∀j q:Nat,owner[j]?=some (some q)->q<k
 one:∀(i j q:Nat),owner[i]?=some (some q)->owner[j]?=some (some q)->i=j
 path:∀(j q:Nat) (h:Int),owner[j]?=some (some q)->hashes[q]?=some h->∃n,pos mask h n=j/\∀m,m<n->Own owner (pos mask h m)
theorem Lay.room {mask:Nat}{hashes:List Int}{owner:Array (Option Nat)}{k:Nat} (L:Lay mask hashes owner k) (hk:k<=mask):∃x,x<=mask/\¬ Own owner x:=by
 apply Classical.byContradiction;intro hn;have all:∀x,x<=mask->∃q,q<k/\owner[x]?=some (some q):=fun x hx=>by
  have:Own owner x:=Classical.byContradiction fun q=>hn ⟨x,hx,q⟩;obtain⟨q,e⟩:=this;exact⟨q,L.back x q e,e⟩
 have sub:((A7 (mask+1)).map fun x=>(owner.getD x none).getD 0) ⊆ A7 k:=fun y hy=>by
  obtain⟨x,hx,e⟩:=List.mem_map.mp hy;obtain⟨q,hq,e2⟩:=all x (Nat.lt_succ_iff.mp (List.mem_range.mp hx));rw[Array.getD_eq_getD_getElem?,e2] at e;subst e;exact List.mem_range.mpr hq
 have nd:((A7 (mask+1)).map fun x=>(owner.getD x none).getD 0).Nodup:=by
  refine List.nodup_iff_pairwise_ne.mpr (List.pairwise_map.mpr ?_);refine List.Pairwise.imp_of_mem ?_ (List.nodup_iff_pairwise_ne.mp (List.nodup_range (n:=mask+1)));intro a b ha hb hne e;obtain⟨q,_,e1⟩:=all a (Nat.lt_succ_iff.mp (List.mem_range.mp ha));obtain⟨p,_,e2⟩:=all b (Nat.lt_succ_iff.mp (List.mem_range.mp hb));simp only[Array.getD_eq_getD_getElem?,e1,e2,Option.getD_some] at e;subst e;exact hne (L.one a b q e1 e2)
 have:=nd.length_le_of_subset sub;rw[Ab,List.length_range,List.length_range] at this;omega
theorem zk4 {owner:Array (Option Nat)}{mask j k:Nat} (hz:owner.size=mask+1) (hj:j<=mask) (i:Nat):(owner.setIfInBounds j (some k))[i]?=if i=j then some (some k) else owner[i]?:=by
 by_cases q:i=j
 ·subst q
  rw[if_pos rfl,Array.getElem?_setIfInBounds_self_of_lt (by omega)]
 ·rw[if_neg q,Array.getElem?_setIfInBounds_ne (Ne.symm q)]
theorem Lay.step {mask:Nat}{hashes:List Int}{owner:Array (Option Nat)}{k:Nat}{h:Int} (hc:Cov mask) (L:Lay mask hashes owner k) (hk:k<=mask) (hh:hashes[k]?=some h) :
  ∃j,layClean.free mask owner (turns mask) (bits h % (mask+1)) (bits h)=some j/\Lay mask hashes (owner.setIfInBounds j (some k)) (k+1):=by
 obtain⟨x,hx,fx⟩:=L.room hk;obtain⟨d,hd,e⟩:=hc (lp mask h 13).1 x (zmV mask h 13) hx;have eR:pos mask h (stt mask h (13+d))=x:=by
  unfold pos;rw[zgY];show (lp mask h (13+d)).1=x;rw[zld,e]
 obtain⟨ne,h1,h2,h3⟩:=least (P:=fun m=>¬ Own owner (pos mask h m)) (stt mask h (13+d)) (by rw[eR]; exact fx);have hm:∀m,m<ne->Own owner (pos mask h m):=fun m q=>Classical.byContradiction fun z=>h3 m q z;refine⟨pos mask h ne,zhS L.size h h2 hm h1 (turns mask) 0 (AO _) (by unfold turns; omega),?_⟩;have hle:pos mask h ne<=mask:=pos_le _ _ _;have sg:=zk4 (k:=k) L.size hle;have own:∀i,Own owner i->Own (owner.setIfInBounds (pos mask h ne) (some k)) i:=fun i ⟨q,e⟩=>by
  by_cases z:i=pos mask h ne
  ·exact⟨k,by rw[sg,if_pos z]⟩
  ·exact⟨q,by rw[sg,if_neg z]; exact e⟩
 refine⟨by rw[Array.size_setIfInBounds]; exact L.size,fun q hq=>?_,fun j q e=>?_,fun i j q e1 e2=>?_,fun j q h' e1 e2=>?_⟩
 ·by_cases z:q=k
  ·exact⟨pos mask h ne,by rw[sg,if_pos rfl,z]⟩
  ·obtain⟨j,ej⟩:=L.all q (by omega)
   refine⟨j,?_⟩;rw[sg,if_neg fun w=>h2 ⟨q,by rw[<- w]; exact ej⟩];exact ej
 ·rw[sg] at e
  by_cases z:j=pos mask h ne
  ·rw[if_pos z] at e; cases e; omega
  ·rw[if_neg z] at e; have:=L.back j q e; omega
 ·rw[sg] at e1 e2
  by_cases z1:i=pos mask h ne
  ·rw[if_pos z1] at e1; cases e1
   by_cases z2:j=pos mask h ne
   ·omega
   ·rw[if_neg z2] at e2; have:=L.back j k e2; omega
  ·rw[if_neg z1] at e1
   by_cases z2:j=pos mask h ne
   ·rw[if_pos z2] at e2; cases e2; have:=L.back i k e1; omega
   ·rw[if_neg z2] at e2; exact L.one i j q e1 e2
 ·rw[sg] at e1
  by_cases z:j=pos mask h ne
  ·rw[if_pos z] at e1; cases e1
   rw[hh] at e2; cases e2;exact⟨ne,z.symm,fun m q=>own _ (hm m q)⟩
  ·rw[if_neg z] at e1
   obtain⟨n,a,b⟩:=L.path j q h' e1 e2;exact⟨n,a,fun m q=>own _ (b m q)⟩
theorem Lay.nil (mask:Nat) (hashes:List Int):Lay mask hashes (Array.replicate (mask+1) none) 0:=by
 have no:∀(j q:Nat),(Array.replicate (mask+1) (none:Option Nat))[j]?=some (some q)->False:=fun j q e=>by
  rw[Array.getElem?_replicate] at e;split at e <;> cases e
 exact⟨by simp,fun q h=>absurd h (Nat.not_lt_zero _),fun j q e=>(no j q e).elim,fun i j q e=>(no i q e).elim,fun j q h e=>(no j q e).elim⟩
theorem zfk {mask:Nat} (hc:Cov mask) (hashes:Array Int) (hk:hashes.size<=mask+1):∃owner,layClean mask hashes=some owner/\Lay mask hashes.toList owner hashes.size:=by
 have go:∀(rest:List Int) (owner:Array (Option Nat)) (k:Nat),Lay mask hashes.toList owner k->hashes.toList.drop k=rest->
   ∃owner',(rest.foldl (fun acc h=>do
    let (owner,k) <- acc
    let j <- layClean.free mask owner (turns mask) (bits h % (mask+1)) (bits h)
    pure (owner.setIfInBounds j (some k),k+1)) (some (owner,k)))=some (owner',k+rest.length)/\Lay mask hashes.toList owner' (k+rest.length):=by
  intro rest
  induction rest with
  | nil=>intro owner k L _; exact⟨owner,rfl,L⟩
  | cons h rest ih=>
   intro owner k L e;have hlt:k<hashes.toList.length:=by
    rcases Nat.lt_or_ge k hashes.toList.length with q | q
    ·exact q
    ·rw[List.drop_eq_nil_of_le q] at e; cases e
   have eh:hashes.toList[k]?=some h:=by
    rw[List.drop_eq_getElem_cons hlt] at e;injection e with e1 _
    rw[Ai hlt,e1]
   have er:hashes.toList.drop (k+1)=rest:=by
    rw[List.drop_eq_getElem_cons hlt] at e;injection e
   rw[A0] at hlt;obtain⟨j,ej,L'⟩:=L.step hc (by omega) eh;obtain⟨o',a,b⟩:=ih (owner.setIfInBounds j (some k)) (k+1) L' er;refine⟨o',?_,?_⟩
   ·rw[List.foldl_cons]
    show List.foldl _ (layClean.free mask owner (turns mask) (bits h % (mask+1)) (bits h) >>= fun j=>pure (owner.setIfInBounds j (some k),k+1)) rest=_;rw[ej];show List.foldl _ (some (owner.setIfInBounds j (some k),k+1)) rest=_;rw[a,Aw,show k+1+rest.length=k+(rest.length+1) by omega]
   ·rw[Aw,show k+(rest.length+1)=k+1+rest.length by omega]
    exact b
 obtain⟨o,a,b⟩:=go hashes.toList _ 0 (Lay.nil mask _) rfl;rw[Nat.zero_add,A0] at a b;refine⟨o,?_,b⟩;unfold layClean;rw[<- Array.foldl_toList,a]
 rfl
def zav (owner:Array (Option Nat)) (n:Nat):List (Nat×Nat):=(A7 n).filterMap fun j=>(owner.getD j none).map (j,·)
theorem zaD {owner:Array (Option Nat)}{n:Nat}{x:Nat×Nat}:x∈zav owner n ↔ x.1<n/\owner[x.1]?=some (some x.2):=by
 unfold zav;rw[List.mem_filterMap];constructor
 ·rintro⟨j,hj,e⟩
  rw[Option.map_eq_some_iff] at e;obtain⟨q,e1,rfl⟩:=e;refine⟨List.mem_range.mp hj,?_⟩;rw[Array.getD_eq_getD_getElem?] at e1;cases c:owner[j]? with
  | none=>rw[c] at e1; cases e1
  | some v=>rw[c] at e1; simp only[Option.getD_some] at e1; rw[e1]
 ·rintro⟨h1,h2⟩
  refine⟨x.1,List.mem_range.mpr h1,?_⟩;rw[Array.getD_eq_getD_getElem?,h2]
  rfl
theorem zfX (owner:Array (Option Nat)) (n:Nat):(zav owner n).Pairwise fun x y=>x.1<y.1:=by
 unfold zav;refine List.Pairwise.filterMap (S:=fun x y:Nat×Nat=>x.1<y.1) _ ?_ (List.pairwise_lt_range (n:=n));intro a a' h b hb b' hb';rw[Option.map_eq_some_iff] at hb hb';obtain⟨_,_,rfl⟩:=hb;obtain⟨_,_,rfl⟩:=hb';exact h
theorem ziC {mask:Nat}{hashes:List Int}{owner:Array (Option Nat)}{k:Nat} (L:Lay mask hashes owner k):(zav owner (mask+1)).length=k/\((zav owner (mask+1)).map (·.2)).Nodup:=by
 have nd:((zav owner (mask+1)).map (·.2)).Nodup:=by
  refine List.nodup_iff_pairwise_ne.mpr (List.pairwise_map.mpr ?_);refine List.Pairwise.imp_of_mem ?_ (zfX owner (mask+1));intro a b ha hb hlt e;have h1:=(zaD.mp ha).2;have h2:=(zaD.mp hb).2;rw[<- e] at h2;have:=L.one _ _ _ h1 h2;omega
 refine⟨?_,nd⟩;have s1:(zav owner (mask+1)).map (·.2) ⊆ A7 k:=fun q hq=>by
  obtain⟨x,hx,rfl⟩:=List.mem_map.mp hq;exact List.mem_range.mpr (L.back _ _ (zaD.mp hx).2)
 have s2:A7 k ⊆ (zav owner (mask+1)).map (·.2):=fun q hq=>by
  obtain⟨j,ej⟩:=L.all q (List.mem_range.mp hq);have hj:j<mask+1:=by rw[<- L.size]; exact (Array.getElem?_eq_some_iff.mp ej).1
  exact List.mem_map.mpr ⟨(j,q),zaD.mpr ⟨hj,ej⟩,rfl⟩
 have l1:=nd.length_le_of_subset s1;have l2:=(List.nodup_range (n:=k)).length_le_of_subset s2;rw[Ab,List.length_range] at l1;rw[List.length_range,Ab] at l2;omega
theorem zlp {mask:Nat} (hc:Cov mask) (ho:mask % 2=1) (finger moves:Nat) (led plain:Bool) (hashes:Array Int) (hk:hashes.size<=mask) :
  ∃t order,laid mask finger moves led plain hashes=some (t,order)/\t.mask=mask/\t.led=led/\t.plain=plain/\order.size=hashes.size/\order.toList.Nodup/\(∀q∈order.toList,q<hashes.size)/\
   Tb t (order.map fun q=>(hashes[q]?).getD 0):=by
 obtain⟨owner,e,L⟩:=zfk hc hashes (by omega);obtain⟨ll,nd⟩:=ziC L;refine⟨_,_,by unfold laid; rw[e]; exact rfl,rfl,rfl,rfl,?_,?_,?_,?_⟩
 ·show ((zav owner (mask+1)).map (·.2)).toArray.size=_
  rw[Aj,Ab,ll]
 ·exact nd
 ·intro q hq
  obtain⟨x,hx,rfl⟩:=List.mem_map.mp (show q∈(zav owner (mask+1)).map (·.2) from hq);exact L.back _ _ (zaD.mp hx).2
 ·have pg:∀i:Nat,(((zav owner (mask+1)).map (·.1)).toArray)[i]?=((zav owner (mask+1))[i]?).map (·.1):=fun i=>by
   rw[List.getElem?_toArray,Al]
  have og:∀i:Nat,(((zav owner (mask+1)).map (·.2)).toArray)[i]?=((zav owner (mask+1))[i]?).map (·.2):=fun i=>by
   rw[List.getElem?_toArray,Al]
  have occ:∀j,Own owner j->∃i:Nat,(((zav owner (mask+1)).map (·.1)).toArray)[i]?=some j:=fun j ⟨q,ej⟩=>by
   have hj:j<mask+1:=by rw[<- L.size]; exact (Array.getElem?_eq_some_iff.mp ej).1
   obtain⟨i,hi,ei⟩:=List.mem_iff_getElem.mp (zaD.mpr ⟨hj,ej⟩:(j,q)∈zav owner (mask+1));exact⟨i,by rw[pg,Ai hi,ei]; rfl⟩
  refine⟨fun i j a b ha hb hij=>?_,rfl,?_,fun i j ej=>?_,hc,ho,?_,fun k j h e1 e2=>?_⟩
  ·have ha':((zav owner (mask+1))[i]?).map (·.1)=some a:=by rw[<- pg]; exact ha
   have hb':((zav owner (mask+1))[j]?).map (·.1)=some b:=by rw[<- pg]; exact hb
   obtain⟨x,ex,rfl⟩:=Option.map_eq_some_iff.mp ha';obtain⟨y,ey,rfl⟩:=Option.map_eq_some_iff.mp hb';obtain⟨hi,rfl⟩:=List.getElem?_eq_some_iff.mp ex;obtain⟨hj,rfl⟩:=List.getElem?_eq_some_iff.mp ey;exact List.pairwise_iff_getElem.mp (zfX owner (mask+1)) i j hi hj hij
  ·show ((zav owner (mask+1)).map (·.1)).toArray.size=(Array.map _ ((zav owner (mask+1)).map (·.2)).toArray).size
   rw[Array.size_map,Aj,Aj,Ab,Ab]
  ·have ej':((zav owner (mask+1))[i]?).map (·.1)=some j:=by rw[<- pg]; exact ej
   obtain⟨x,ex,rfl⟩:=Option.map_eq_some_iff.mp ej';exact Nat.lt_succ_iff.mp (zaD.mp (Ak ex)).1
  ·show (Array.map _ ((zav owner (mask+1)).map (·.2)).toArray).size<=mask
   rw[Array.size_map,Aj,Ab,ll];exact hk
  ·have e2':((zav owner (mask+1))[k]?).map (·.1)=some j:=by rw[<- pg]; exact e2
   obtain⟨x,ex,rfl⟩:=Option.map_eq_some_iff.mp e2';have e1':(Array.map (fun q=>(hashes[q]?).getD 0) ((zav owner (mask+1)).map (·.2)).toArray)[k]?=some h:=e1;rw[Array.getElem?_map,og,ex] at e1';have hx:=(zaD.mp (Ak ex)).2;have hq:=L.back _ _ hx;have eh:hashes.toList[x.2]?=some h:=by
    rw[AR];have:hashes[x.2]?=some hashes[x.2]:=getElem?_pos hashes x.2 hq;simp only[A3,this,Option.getD_some] at e1';rw[this,Ao e1']
   obtain⟨n,a,b⟩:=L.path x.1 x.2 h hx eh;exact⟨n,a,fun m hm=>occ _ (b m hm)⟩
end STb
end
section
namespace STb
open PySem PySem.SetTable
section
variable {prog:Program}{w:World}{K:Type} [DecidableEq K] {knd:KeyKind prog w K}{A:Around}{E:Value->Shared->Prop}{s:Shared}
theorem fits_of {t:SetTable}{es:Array (Int×Value)} (T:Tb t (es.map (·.1))):t.fits es.size=true:=by
 have h1:=T.size;have h2:=T.room;rw[Array.size_map] at h1 h2;unfold SetTable.fits SetTable.fill;rw[T.dum,h1];simp;exact h2
theorem zjD (n:Nat) {v:Value} (h:carriedByValue v=true):ofAClassStatement n v=pure false:=by
 cases v with
 | ref a=>simp[carriedByValue] at h
 | _=>cases n <;> rfl
theorem zgT {ks:List K}{b:Addr}{Q:Bool->Shared->Prop} (hk:AT knd s.heap ks b) (h:Q false s):wpAny (model prog w) A (ofAClassStatement 8 (.ref b)) Q E s:=by
 have hT:=hk.typeIs;obtain⟨o,items,n,ho,_,hd,hi⟩:=hk;unfold ofAClassStatement;refine Aa (wpAny_typeOf hT ?_);show wpAny _ _ ((if ("tuple" == "tuple")=true then pure true else isSubtype (.type "tuple") (.type "tuple")) >>= _) _ _ s;rw[if_pos (by decide)];refine Aa (Ac ?_);simp only[Bool.not_true,As,if_false];refine Aa (wpAny_seqItems ho hd ?_);refine Aa ?_;show wpAny _ _ (forIn items _ _) _ _ s;rw[<- Array.forIn_toList];refine wpAny_forIn_list _ (fun rest r s'=>r.1=none/\s'=s/\∀v∈rest,carriedByValue v=true) _ ?_ ?_ _ _ ⟨rfl,rfl,hi.byValue⟩
 ·rintro v rest r s' ⟨hr,rfl,hall⟩
  rw[zjD _ (hall v Am)];refine Aa (Ac ?_);simp only[As,if_false];exact Ac ⟨rfl,rfl,fun u hu'=>hall u (Ar _ hu')⟩
 ·rintro⟨r1,r2⟩ s' ⟨hr,rfl,_⟩
  simp only at hr;subst hr;exact Ac h
theorem zg6 {ks:List K}{b:Addr}{ys:List Value}{Q:Bool->Shared->Prop} (hk:AT knd s.heap ks b) (hy:∀y∈ys,∃k' c,y=.ref c/\AT knd s.heap k' c) (h:Q false s) :
  wpAny (model prog w) A (searchCouldBeSeen (.ref b) ys) Q E s:=by
 unfold searchCouldBeSeen;refine Aa ?_;refine wpAny_forIn_list _ (fun rest r s'=>r.1=none/\s'=s/\∀y∈rest,∃k' c,y=.ref c/\AT knd s.heap k' c) _ ?_ ?_ _ _ ⟨rfl,rfl,hy⟩
 ·rintro v rest r s' ⟨hr,rfl,hall⟩
  obtain⟨k',c,rfl,hc⟩:=hall v Am;have nx:∀u∈rest,∃k' c,u=.ref c/\AT knd s'.heap k' c:=fun u hu'=>hall u (Ar _ hu');dsimp only;split
  ·exact Ac ⟨rfl,rfl,nx⟩
  ·refine Aa (wpAny_eqIsQuiet_tuple hk ?_)
   simp only[Bool.not_true,As,if_false];refine Aa (wpAny_eqIsQuiet_tuple hc ?_);simp only[Bool.not_true,As,if_false];refine Aa (zgT hk ?_);simp only[As,if_false];refine Aa (zgT hc ?_);simp only[As,if_false];exact Ac ⟨rfl,rfl,nx⟩
 ·rintro⟨r1,r2⟩ s' ⟨hr,rfl,_⟩
  simp only at hr;subst hr;exact Ac h
structure TS (knd:KeyKind prog w K) (h:Heap) (S:Addr) (o:Obj) (es:Array (Int×Value)) (ep:Nat) (t:SetTable) (ks:List (List K)) (B:List Addr):Prop where
 at_:h.get? S=some o
 ex:o.ExactSet
 dt:o.data=.set es ep t
 tb:Tb t (es.map (·.1))
 sz:es.size=ks.length
 nd:ks.Nodup
 el:∀e∈es.toList,∃k b,k∈ks/\e=(Ax knd k,Value.ref b)/\AT knd h k b
 ke:∀k∈ks,∃b,(Ax knd k,Value.ref b)∈es.toList/\AT knd h k b
 msk:(t.mask=7/\es.size<=4) \/ (t.mask=31/\es.size<=18) \/ (t.mask=127/\es.size<=76) \/ (t.mask=15/\es.size<=8) \/ (t.mask=63/\es.size<=37) \/ (t.mask=255/\es.size<=152)
 ad:∀e∈es.toList,∃b∈B,e.2=Value.ref b
 wk:w.params.followText "set-order"=true \/ (t.led=true/\t.plain=true)
theorem zhc {B:List Addr}{S:Addr}{o:Obj}{es:Array (Int×Value)}{ep:Nat}{t:SetTable}{ks:List (List K)} (X:TS knd s.heap S o es ep t ks B) (hu:A.units<cLine) {k:List K}{b:Addr} (hk:AT knd s.heap k b)
  {ne:Nat} (hne:ne<10*turns t.mask) (he:¬ Occ t (pos t.mask (Ax knd k) ne)) (hm:∀m,m<ne->Occ t (pos t.mask (Ax knd k) m)) {add:Bool} {Q:SetFound->Shared->Prop}
  (h1:k∈ks->∀r:Option Nat,(add=false->r.isSome=true)->Q (.there r) s) (h2:k∉ks->Q (.free (pos t.mask (Ax knd k) ne) false) s) :
  ∀(fuel n:Nat) (stand:Option Probe),ne<n+fuel->n<=ne->stand.getD (t.probeStart (Ax knd k))=pr t.mask (Ax knd k) n->
   (∀(m i:Nat) (c:Addr),m<n->t.place[i]?=some (pos t.mask (Ax knd k) m)->es[i]?=some (Ax knd k,Value.ref c)->¬ AT knd s.heap k c)->
   wpAny (model prog w) A (setSearchFrom S (.ref b) (Ax knd k) add fuel stand) Q E s:=by
 have T:=X.tb;have fit:=fits_of T;have hA:∀i:Nat,(es.map (·.1))[i]?=(es[i]?).map (·.1):=fun i=>Array.getElem?_map ..;intro fuel
 induction fuel with
 | zero=>intro n stand a1 a2 _ _; omega
 | succ fuel ih=>
  intro n stand a1 a2 a3 a4;unfold setSearchFrom;refine Aa (wpAny_setState_of X.at_ X.dt fit ?_);dsimp only;have gw:t.gaveWay=false:=by
   unfold SetTable.gaveWay;rw[T.odd]
   rfl
  rw[gw];simp only[As,if_false];rw[a3];rcases probe_spec T (hashAt:=fun i=>((es[i]?).map (·.1)).getD 0) hne he hm a2 with ⟨ep1,none_⟩ | ⟨N,i,b1,b2,b3,b4,b5,b6⟩
  ·have ep1':t.probe (fun i=>((es[i]?).map (·.1)).getD 0) (Ax knd k) (pr t.mask (Ax knd k) n)=some (.empty (pos t.mask (Ax knd k) ne) none):=ep1
   show wpAny _ _ (match t.probe (fun i=>((es[i]?).map (·.1)).getD 0) (Ax knd k) (pr t.mask (Ax knd k) n) with | some met=>_ | _=>_) _ _ s;rw[ep1'];dsimp only;refine Ac (h2 fun hin=>?_);obtain⟨c,hc1,hc2⟩:=X.ke k hin;obtain⟨i,hi,ei⟩:=List.mem_iff_getElem.mp hc1;have ei':es[i]?=some (Ax knd k,.ref c):=by
    rw[<- AR,Ai hi,ei]
   have hlt:i<t.place.size:=by rw[T.size,Array.size_map]; simpa using hi
   have ej:t.place[i]?=some t.place[i]:=getElem?_pos t.place i hlt;obtain⟨N,hN,eN⟩:=zmP T he (k:=i) (by rw[hA,ei']; rfl) ej;rcases Nat.lt_or_ge N n with q | q
   ·exact a4 N i c q (by rw[eN]; exact ej) ei' hc2
   ·exact none_ N i q hN (by rw[eN]; exact ej) (by show ((es[i]?).map (·.1)).getD 0=_; rw[ei']; rfl)
  ·show wpAny _ _ (match t.probe (fun i=>((es[i]?).map (·.1)).getD 0) (Ax knd k) (pr t.mask (Ax knd k) n) with | some met=>_ | _=>_) _ _ s
   rw[b5];dsimp only;have hi:i<es.size:=by
    have:=(Array.getElem?_eq_some_iff.mp b3).1;rw[T.size,Array.size_map] at this;exact this
   have ei:es[i]?=some es[i]:=getElem?_pos es i hi;obtain⟨k',c,hk',ee,hc⟩:=X.el es[i] (by simp);rw[ee] at ei;have eh:Ax knd k'=Ax knd k:=by
    have:((es[i]?).map (·.1)).getD 0=Ax knd k:=b4;rw[ei] at this;exact this
   rw[eh] at ei;have sm:t.sameMemory t.moves t.mask=some true:=by unfold SetTable.sameMemory; rw[if_pos (by simp)]
   have nxt':k'≠k->wpAny (model prog w) A (setSearchFrom S (.ref b) (Ax knd k) add fuel (some (pr t.mask (Ax knd k) (N+1)))) Q E s:=fun eq=>by
    refine ih (N+1) _ (by omega) (by omega) rfl fun m i2 c2 q1 q2 q3 q4=>?_;rcases Nat.lt_or_ge m n with z | z
    ·exact a4 m i2 c2 z q2 q3 q4
    ·rcases Nat.lt_or_ge m N with z2 | z2
     ·exact b6 m i2 z z2 q2 (by show ((es[i2]?).map (·.1)).getD 0=_; rw[q3]; rfl)
     ·have:m=N:=by omega
      subst this;have:=T.ris.inj q2 b3;subst this;rw[ei] at q3;cases q3;exact eq (IsTupleKey.inj hc q4)
   cases led:t.led
   all_goals simp only[Bool.not_true,Bool.not_false,As,if_true,if_false]
   ·refine Aa (zg6 hk (fun y hy=>?_) ?_)
    ·obtain⟨e,he',rfl⟩:=List.mem_map.mp hy
     rw[Array.toList_filter] at he';obtain⟨k2,c2,_,e2,h2'⟩:=X.el e (List.mem_filter.mp he').1;exact⟨k2,c2,by rw[e2],h2'⟩
    simp only[As,if_false];rw[ei];refine Aa (AW (wpAny_eqBool_tuple hu hc hk ?_));refine Aa (wpAny_setState_of X.at_ X.dt fit ?_)
    by_cases eq:k'=k
    ·subst eq
     cases add
     ·simp only[decide_true,Bool.false_and,As,if_false]
      rw[sm];simp only[if_true];rw[zaO T b3];dsimp only;rw[ei];refine Aa (wpAny_isSame_ref_self (Aa (Ac ?_)));simp only[if_true];exact Ac (h1 hk' _ fun _=>rfl)
     ·simp only[decide_true,Bool.and_self,if_true]
      exact Ac (h1 hk' _ fun z=>by cases z)
    ·rw[decide_eq_false eq]
     simp only[Bool.and_false,As,if_false];rw[sm];simp only[if_true];rw[zaO T b3];dsimp only;rw[ei];refine Aa (wpAny_isSame_ref_self (Aa (Ac ?_)));simp only[if_true];exact nxt' eq
   ·rw[ei]
    refine Aa (AW (wpAny_eqBool_tuple hu hc hk ?_));refine Aa (wpAny_setState_of X.at_ X.dt fit ?_)
    by_cases eq:k'=k
    ·subst eq
     cases add
     ·simp only[decide_true,Bool.false_and,As,if_false]
      rw[sm];simp only[if_true];rw[zaO T b3];dsimp only;rw[ei];refine Aa (wpAny_isSame_ref_self (Aa (Ac ?_)));simp only[if_true];exact Ac (h1 hk' _ fun _=>rfl)
     ·simp only[decide_true,Bool.and_self,if_true]
      exact Ac (h1 hk' _ fun z=>by cases z)
    ·rw[decide_eq_false eq]
     simp only[Bool.and_false,As,if_false];rw[sm];simp only[if_true];rw[zaO T b3];dsimp only;rw[ei];refine Aa (wpAny_isSame_ref_self (Aa (Ac ?_)));simp only[if_true];exact nxt' eq
end
end STb
end
section
namespace STb
open PySem PySem.SetTable
section
variable {prog:Program}{w:World}{K:Type} [DecidableEq K] {knd:KeyKind prog w K}{A:Around}{E:Value->Shared->Prop}{s:Shared}
theorem zaQ {h h':Heap}{S b:Addr}{k:List K}{o:Obj}{es ep t} (hk:AT knd h k b) (ho:h.get? S=some o) (hd:o.data=.set es ep t) (hs:AX S h h'):AT knd h' k b:=by
 obtain⟨o',items,n,ho',hc,hd',hi⟩:=hk;have hne:b≠S:=by
  rintro rfl;obtain rfl:o'=o:=Ao (ho'.symm.trans ho);rw[hd] at hd'; exact nomatch hd'
 exact⟨o',items,n,(hs.2 b hne).trans ho',hc,hd',hi⟩
theorem zlT {ks:List K}{b:Addr}{Q:Bool->Shared->Prop} (hv:∀k v n,knd.is k v=true->hashByValue n v=pure true) (hk:AT knd s.heap ks b) (h:Q true s):wpAny (model prog w) A (hashByValue 8 (.ref b)) Q E s:=by
 have hT:=hk.typeIs;obtain⟨o,items,n,ho,_,hd,hi⟩:=hk;unfold hashByValue;refine Aa (wpAny_specialOf hT F.slot_tuple_hash.lookup ?_);dsimp only;refine Aa (wpAny_seqItems ho hd ?_);refine Aa ?_;show wpAny _ _ (forIn items _ _) _ _ s;rw[<- Array.forIn_toList];refine wpAny_forIn_list _ (fun rest r s'=>r.1=none/\s'=s/\∃ks',ItemsAre knd ks' rest) _ ?_ ?_ _ _ ⟨rfl,rfl,ks,hi⟩
 ·rintro v rest r s' ⟨hr,rfl,ks',hi'⟩
  cases hi' with
  | @cons k _ ks'' _ h1 h2=>
   rw[hv k v 7 h1];refine Aa (Ac ?_);simp only[Bool.not_true,As,if_false];exact Ac ⟨rfl,rfl,ks'',h2⟩
 ·rintro⟨r1,r2⟩ s' ⟨hr,rfl,_⟩
  simp only at hr;subst hr;exact Ac h
theorem zdd {h:Heap}{S:Addr}{o:Obj}{es:Array (Int×Value)}{ep:Nat}{t:SetTable}{es':Array (Int×Value)}{t':SetTable} (ho:h.get? S=some o) (hd:o.data=.set es ep t) :
  (h.update S (Obj.putSet es' t')).get? S=some { o with data:=.set es' (ep+1) t' }:=by
 have:=Heap.get?_update_self (Obj.putSet es' t') ho (by rw[putSet_of es' t' hd]; rfl);rw[putSet_of es' t' hd] at this;exact this
theorem zj5 {α:Type}{es:Array α}:∀{l:List Nat},(∀q∈l,q<es.size)->∃l':List α,l.filterMap (es[·]?)=l'/\l'.length=l.length/\(∀x∈l',x∈es.toList)/\(∀(i q:Nat),l[i]?=some q->l'[i]?=es[q]?)
 | [],_=>⟨[],rfl,rfl,(fun x hx=>by cases hx),(fun i q e=>by cases i <;> simp at e)⟩
 | q::l,h=>by
  obtain⟨l',e1,e2,e3,e4⟩:=zj5 (l:=l) fun x hx=>h x (Ar _ hx);have hq:=h q Am;refine⟨es[q]::l',?_,by rw[Aw,Aw,e2],fun x hx=>?_,fun i p e=>?_⟩
  ·rw[List.filterMap_cons,getElem?_pos es q hq,e1]
  ·rcases List.mem_cons.mp hx with rfl | hx
   ·simp
   ·exact e3 x hx
  ·cases i with
   | zero=>simp at e; subst e; simp[getElem?_pos es q hq]
   | succ i=>simp at e ⊢; exact e4 i p e
theorem ziy {B:List Addr}{S:Addr}{o:Obj}{es:Array (Int×Value)}{ep:Nat}{t:SetTable}{ks:List (List K)}{want m2:Nat} (hat:s.heap.get? S=some o) (hex:o.ExactSet) (hd:o.data=.set es ep t) (T:Tb t (es.map (·.1)))
  (hsz:es.size=ks.length) (nd:ks.Nodup) (ad:∀e∈es.toList,∃b∈B,e.2=Value.ref b) (el:∀e∈es.toList,∃k b,k∈ks/\e=(Ax knd k,Value.ref b)/\AT knd s.heap k b) (ke:∀k∈ks,∃b,(Ax knd k,Value.ref b)∈es.toList/\AT knd s.heap k b)
  (hw:SetTable.sizeAbove want - 1=m2) (hw2:SetTable.sizeAbove want<=sizeLine) (hc:Cov m2) (ho:m2 % 2=1) (hr:es.size<=m2) (hz:es.size<=1000)
  (hmk:(m2=7/\es.size<=4) \/ (m2=31/\es.size<=18) \/ (m2=127/\es.size<=76) \/ (m2=15/\es.size<=8) \/ (m2=63/\es.size<=37) \/ (m2=255/\es.size<=152)) (wk:w.params.followText "set-order"=true \/ (t.led=true/\t.plain=true)) {Q:Unit->Shared->Prop}
  (h:∀h' o' es' ep' t',TS knd h' S o' es' ep' t' ks B->AX S s.heap h'->Q () { s with heap:=h' }):wpAny (model prog w) A (setRelay S want) Q E s:=by
 have fit:=fits_of T;unfold setRelay;refine Aa (wpAny_setState_of hat hd fit ?_);dsimp only;rw[if_neg (Nat.not_lt.mpr hw2)];obtain⟨t2,order,e1,e2,e3,e4,e5,e6,e7,e8⟩:=zlp hc ho t.finger (t.movedTo m2) t.led t.plain (es.map (·.1)) (by rw[Array.size_map]; exact hr);have er:t.relaid (es.map (·.1)) want=some (t2,order):=by
  unfold SetTable.relaid;rw[hw];exact e1
 rw[Array.size_map] at e5 e7;obtain⟨l',f1,f2,f3,f4⟩:=zj5 (es:=es) e7;have eo:order.filterMap (es[·]?)=l'.toArray:=by
  apply Array.toList_inj.mp;rw[Array.toList_filterMap,f1]
 have hl:l'.length=es.size:=by rw[f2,A0,e5]
 rw[er];refine Aa ?_;show wpAny _ _ (ite (((order.filterMap (es[·]?)).size != es.size)=true) _ _) _ _ _;rw[if_neg (by rw[eo,Aj,hl]; simp),eo];refine Ac ?_;dsimp only;have hes:(l'.toArray.map (·.1))=order.map fun q=>((es.map (·.1))[q]?).getD 0:=by
  apply Array.ext_getElem?;intro i;rw[Array.getElem?_map,Array.getElem?_map,List.getElem?_toArray];cases q:order[i]? with
  | none=>
   have:order.toList.length<=i:=by rw[A0]; exact Array.getElem?_eq_none_iff.mp q
   rw[List.getElem?_eq_none (by omega)]
   rfl
  | some p=>
   have e:=f4 i p (by rw[AR]; exact q);have hp:=e7 p (by rw[<- AR] at q; exact Ak q);rw[e,getElem?_pos es p hp];simp[hp]
 have T2:Tb t2 (l'.toArray.map (·.1)):=by rw[hes]; exact e8
 have hne:∀q,q<es.size->q∈order.toList:=fun q hq=>Classical.byContradiction fun z=>by
  have nd2:(q::order.toList).Nodup:=List.nodup_cons.mpr ⟨z,e6⟩;have sub:(q::order.toList) ⊆ A7 es.size:=fun x hx=>by
   rcases List.mem_cons.mp hx with rfl | hx
   ·exact List.mem_range.mpr hq
   ·exact List.mem_range.mpr (e7 x hx)
  have:=nd2.length_le_of_subset sub;rw[Aw,A0,e5,List.length_range] at this;omega
 refine wpAny_storeSet_of hat hd ?_ (by rw[Aj,hl,sizeLine_eq]; omega);refine h _ { o with data:=.set l'.toArray (ep+1) t2 } l'.toArray (ep+1) t2 ?_ (Heap.SameBut.update ..);have sb:AX S s.heap (s.heap.update S (Obj.putSet l'.toArray t2)):=Heap.SameBut.update ..;refine⟨zdd hat hd,hex,rfl,T2,by rw[Aj,hl]; exact hsz,nd,fun e he=>?_,fun k hk=>?_,?_,fun e he=>ad e (f3 e he),by rw[e3,e4]; exact wk⟩
 ·obtain⟨k,b,a1,a2,a3⟩:=el e (f3 e he)
  exact⟨k,b,a1,a2,zaQ a3 hat hd sb⟩
 ·obtain⟨b,a1,a2⟩:=ke k hk
  refine⟨b,?_,zaQ a2 hat hd sb⟩;obtain⟨q,hq,eq⟩:=List.mem_iff_getElem.mp a1;rw[A0] at hq;obtain⟨i,hi,ei⟩:=List.mem_iff_getElem.mp (hne q hq);have e:=f4 i q (by rw[Ai hi,ei]);refine Ak (i:=i) ?_;rw[e,<- eq];simp[hq]
 ·rw[e2,Aj,hl]
  exact hmk
theorem ins_map {α β:Type} (f:α->β) (xs:Array α) (p:Nat) (x:α) (hp:p<=xs.size):(insertAt xs p x).map f=insertAt (xs.map f) p (f x):=by
 apply Array.ext_getElem?;intro i;rw[Array.getElem?_map,zap _ _ _ hp,zap _ _ _ (by rw[Array.size_map]; exact hp),Array.getElem?_map,Array.getElem?_map]
 by_cases h1:i<p
 ·rw[if_pos h1,if_pos h1]
 ·rw[if_neg h1,if_neg h1]
  by_cases h2:i=p
  ·rw[if_pos h2,if_pos h2]; rfl
  ·rw[if_neg h2,if_neg h2]
theorem ins_mem {α:Type}{xs:Array α}{p:Nat}{x y:α} (hp:p<=xs.size):y∈(insertAt xs p x).toList ↔ y=x \/ y∈xs.toList:=by
 constructor
 ·intro h
  obtain⟨i,hi,e⟩:=List.mem_iff_getElem.mp h;have e2:(insertAt xs p x)[i]?=some y:=by rw[<- AR,Ai hi,e]
  rw[zap _ _ _ hp] at e2
  by_cases h1:i<p
  ·rw[if_pos h1,<- AR] at e2; exact .inr (Ak e2)
  ·rw[if_neg h1] at e2
   by_cases h2:i=p
   ·rw[if_pos h2] at e2; exact .inl (Ao e2).symm
   ·rw[if_neg h2,<- AR] at e2; exact .inr (Ak e2)
 ·rintro (rfl | h)
  ·refine Ak (i:=p) ?_
   rw[AR,zap _ _ _ hp,if_neg (Nat.lt_irrefl _),if_pos rfl]
  ·obtain⟨i,hi,e⟩:=List.mem_iff_getElem.mp h
   have e2:xs[i]?=some y:=by rw[<- AR,Ai hi,e]
   by_cases h1:i<p
   ·refine Ak (i:=i) ?_
    rw[AR,zap _ _ _ hp,if_pos h1]; exact e2
   ·refine Ak (i:=i+1) ?_
    rw[AR,zap _ _ _ hp,if_neg (by omega),if_neg (by omega),Nat.add_sub_cancel]; exact e2
theorem zlx {B:List Addr}{S:Addr}{o:Obj}{es:Array (Int×Value)}{ep:Nat}{t:SetTable}{ks:List (List K)} (X:TS knd s.heap S o es ep t ks B) (hu:A.units<cLine) (hv:∀k v n,knd.is k v=true->hashByValue n v=pure true)
  {k:List K} {b:Addr} (hk:AT knd s.heap k b) (hbB:b∈B) (hn:ks.length<60) {Q:Bool->Shared->Prop}
  (h:∀(r:Bool) h' o' es' ep' t',TS knd h' S o' es' ep' t' (if k∈ks then ks else ks++[k]) B->AX S s.heap h'->Q r { s with heap:=h' }):wpAny (model prog w) A (setAddHashed S (.ref b) (Ax knd k)) Q E s:=by
 unfold setAddHashed;refine AW ?_;have T:=X.tb;have fit:=fits_of T;have X':TS knd s.heap S o es ep t ks B:=X;unfold setAddHashedIn;refine Aa (wpAny_setState_of (s:=s) X.at_ X.dt fit ?_);dsimp only;have nb:byScan (.ref b) es=false:=rfl;rw[nb];simp only[As,if_false];obtain⟨ne,hne,he,hm⟩:=zgB T (Ax knd k);refine Aa ?_;unfold setSearch;refine zhc (s:=s) X' hu hk hne he hm (fun hin r0 _=>?_) (fun hout=>?_) 100000 0 none ?_ (AO _) rfl (fun m i c hm'=>absurd hm' (Nat.not_lt_zero _))
 ·dsimp only
  refine Ac (h false s.heap o es ep t ?_ (Heap.SameBut.refl ..));rw[if_pos hin];exact X
 ·dsimp only
  refine Aa (wpAny_setState_of (s:=s) X.at_ X.dt fit ?_);dsimp only;have hroom:(es.map (·.1)).size+1<=t.mask:=by
   rw[Array.size_map];rcases X.msk with ⟨a,b⟩ | ⟨a,b⟩ | ⟨a,b⟩ | ⟨a,b⟩ | ⟨a,b⟩ | ⟨a,b⟩ <;> omega
  obtain⟨p1,p2,p3⟩:=zme T he hm hroom;rw[Array.size_map] at p1;obtain⟨t1,p,eput⟩:∃t1 p,t.put (pos t.mask (Ax knd k) ne)=(t1,p):=⟨_,_,rfl⟩;rw[eput] at p1 p2 p3 ⊢;dsimp only at p1 p2 p3 ⊢;have hnin:k∉ks:=hout;have hsz2:(insertAt es p (Ax knd k,Value.ref b)).size=es.size+1:=zcl _ _ _ p1;have hlen:=X.sz;have hle:es.size<60:=by omega
  have hst:∀t2:SetTable,Tb t2 (insertAt (es.map (·.1)) p (Ax knd k))->t2.mask=t.mask->wpAny (model prog w) A (storeSet S (insertAt es p (Ax knd k,Value.ref b)) t2)
    (fun _ s'=>∃h',s'={ s with heap:=h' }/\h'.get? S=some { o with data:=.set (insertAt es p (Ax knd k,Value.ref b)) (ep+1) t2 }/\AX S s.heap h') E s:=fun t2 T2 m2=>
   wpAny_storeSet_of (s:=s) X.at_ X.dt ⟨_,rfl,zdd X.at_ X.dt,Heap.SameBut.update ..⟩ (by rw[hsz2,sizeLine_eq]; omega)
  have emap:(insertAt es p (Ax knd k,Value.ref b)).map (·.1)=insertAt (es.map (·.1)) p (Ax knd k):=ins_map (·.1) es p _ p1;have knd2:(ks++[k]).Nodup:=by
   rw[AL];refine⟨X.nd,by simp,fun x hx y hy=>?_⟩;rw[List.mem_singleton.mp hy];exact fun z=>hnin (z ▸ hx)
  have els:∀h',AX S s.heap h'->∀e∈(insertAt es p (Ax knd k,Value.ref b)).toList,∃k' b',k'∈ks++[k]/\e=(Ax knd k',Value.ref b')/\AT knd h' k' b':=fun h' hsb e he=>by
   rcases (ins_mem p1).mp he with rfl | he
   ·exact⟨k,b,by simp,rfl,zaQ hk X.at_ X.dt hsb⟩
   ·obtain⟨k',b',a1,a2,a3⟩:=X.el e he
    exact⟨k',b',AI _ a1,a2,zaQ a3 X.at_ X.dt hsb⟩
  have kes:∀h',AX S s.heap h'->∀k'∈ks++[k],∃b',(Ax knd k',Value.ref b')∈(insertAt es p (Ax knd k,Value.ref b)).toList/\AT knd h' k' b':=fun h' hsb k' hk'=>by
   rcases List.mem_append.mp hk' with hk' | hk'
   ·obtain⟨b',a1,a2⟩:=X.ke k' hk'
    exact⟨b',(ins_mem p1).mpr (.inr a1),zaQ a2 X.at_ X.dt hsb⟩
   ·rw[List.mem_singleton.mp hk']
    exact⟨b,(ins_mem p1).mpr (.inl rfl),zaQ hk X.at_ X.dt hsb⟩
  have ads:∀e∈(insertAt es p (Ax knd k,Value.ref b)).toList,∃b'∈B,e.2=Value.ref b':=fun e he=>by
   rcases (ins_mem p1).mp he with rfl | he
   ·exact⟨b,hbB,rfl⟩
   ·exact X.ad e he
  have hlast:∀(t2:SetTable) (h':Heap),Tb t2 (insertAt (es.map (·.1)) p (Ax knd k))->t2.mask=t.mask->(w.params.followText "set-order"=true \/ (t2.led=true/\t2.plain=true))->h'.get? S=some { o with data:=.set (insertAt es p (Ax knd k,Value.ref b)) (ep+1) t2 }->AX S s.heap h'->
    wpAny (model prog w) A (if (!false && t2.tooFull)=true then (setRelay S (SetTable.grown (es.size+1)) >>= fun _=>pure true) else pure true) Q E { s with heap:=h' }:=fun t2 h' T2 m2 wk2 hg hsb=>by
   have T2':Tb t2 ((insertAt es p (Ax knd k,Value.ref b)).map (·.1)):=by rw[emap]; exact T2
   have fl:t2.fill=es.size+1:=by
    unfold SetTable.fill;rw[T2'.dum,T2'.size,Array.size_map,hsz2]
    rfl
   have tf:t2.tooFull=decide ((es.size+1)*5 ≥ t.mask*3):=by unfold SetTable.tooFull; rw[fl,m2]
   have lk:es.size+1=(ks++[k]).length:=by rw[Ah,hlen]; rfl
   have stay:((es.size+1)*5<t.mask*3)->((t2.mask=7/\es.size+1<=4) \/ (t2.mask=31/\es.size+1<=18) \/ (t2.mask=127/\es.size+1<=76) \/ (t2.mask=15/\es.size+1<=8) \/ (t2.mask=63/\es.size+1<=37) \/ (t2.mask=255/\es.size+1<=152))->wpAny (model prog w) A (if (!false && t2.tooFull)=true then (setRelay S (SetTable.grown (es.size+1)) >>= fun _=>pure true) else pure true) Q E { s with heap:=h' }:=fun q mk=>by
    rw[tf,decide_eq_false (by omega)];simp only[Bool.and_false,As,if_false];refine Ac (h true h' { o with data:=.set (insertAt es p (Ax knd k,Value.ref b)) (ep+1) t2 } (insertAt es p (Ax knd k,Value.ref b)) (ep+1) t2 ?_ hsb);rw[if_neg hnin];exact⟨hg,X.ex,rfl,T2',by rw[hsz2]; exact lk,knd2,els h' hsb,kes h' hsb,by rw[hsz2]; exact mk,ads,wk2⟩
   have grow:∀m3 n,es.size+1=n->((es.size+1)*5 ≥ t.mask*3)->SetTable.sizeAbove (SetTable.grown n) - 1=m3->SetTable.sizeAbove (SetTable.grown n)<=1000->Cov m3->m3 % 2=1->es.size+1<=m3->((m3=7/\es.size+1<=4) \/ (m3=31/\es.size+1<=18) \/ (m3=127/\es.size+1<=76) \/ (m3=15/\es.size+1<=8) \/ (m3=63/\es.size+1<=37) \/ (m3=255/\es.size+1<=152))->
     wpAny (model prog w) A (if (!false && t2.tooFull)=true then (setRelay S (SetTable.grown (es.size+1)) >>= fun _=>pure true) else pure true) Q E { s with heap:=h' }:=fun m3 n en q w1 w2 c1 c2 c3 mk=>by
    rw[tf,decide_eq_true q];simp only[Bool.not_false,Bool.and_self,if_true];subst en;refine Aa (ziy (s:={ s with heap:=h' }) (ks:=ks++[k]) hg X.ex rfl T2' (by rw[hsz2]; exact lk) knd2 ads (els h' hsb) (kes h' hsb) w1 (by rw[sizeLine_eq]; omega) c1 c2 (by rw[hsz2]; exact c3) (by rw[hsz2]; omega) (by rw[hsz2]; exact mk) wk2 fun h'' o'' es'' ep'' t'' X'' hsb2=>?_);refine Ac (h true h'' o'' es'' ep'' t'' ?_ (hsb.trans hsb2));rw[if_neg hnin];exact X''
   rcases X.msk with ⟨a,c⟩ | ⟨a,c⟩ | ⟨a,c⟩ | ⟨a,c⟩ | ⟨a,c⟩ | ⟨a,c⟩
   ·by_cases q:es.size+1<=4
    ·exact stay (by omega) (.inl ⟨by omega,q⟩)
    ·exact grow 31 5 (by omega) (by omega) (by decide +kernel) (by decide +kernel) cov31 rfl (by omega) (.inr (.inl ⟨rfl,by omega⟩))
   ·by_cases q:es.size+1<=18
    ·exact stay (by omega) (.inr (.inl ⟨by omega,q⟩))
    ·exact grow 127 19 (by omega) (by omega) (by decide +kernel) (by decide +kernel) cov127 rfl (by omega) (.inr (.inr (.inl ⟨rfl,by omega⟩)))
   ·exact stay (by omega) (.inr (.inr (.inl ⟨by omega,by omega⟩)))
   ·by_cases q:es.size+1<=8
    ·exact stay (by omega) (.inr (.inr (.inr (.inl ⟨by omega,q⟩))))
    ·exact grow 63 9 (by omega) (by omega) (by decide +kernel) (by decide +kernel) cov63 rfl (by omega) (.inr (.inr (.inr (.inr (.inl ⟨rfl,by omega⟩)))))
   ·by_cases q:es.size+1<=37
    ·exact stay (by omega) (.inr (.inr (.inr (.inr (.inl ⟨by omega,q⟩)))))
    ·exact grow 255 38 (by omega) (by omega) (by decide +kernel) (by decide +kernel) cov255 rfl (by omega) (.inr (.inr (.inr (.inr (.inr ⟨rfl,by omega⟩)))))
   ·exact stay (by omega) (.inr (.inr (.inr (.inr (.inr ⟨by omega,by omega⟩)))))
  have wk1:w.params.followText "set-order"=true \/ (t1.led=true/\t1.plain=true):=by
   have e1:t1=(t.put (pos t.mask (Ax knd k) ne)).1:=by rw[eput]
   have e2:t1.led=t.led:=by rw[e1]; rfl
   have e3:t1.plain=t.plain:=by rw[e1]; rfl
   rw[e2,e3];exact X.wk
  cases hpl:t1.plain with
  | true=>
   simp only[if_true];refine Aa (zlT (s:=s) hv hk ?_);simp only[if_true];refine Aa (wpAny_mono (hst t1 p3 p2) (fun _ s' hs'=>?_) fun _ _ e=>e);obtain⟨h',rfl,g1,g2⟩:=hs';exact hlast t1 h' p3 p2 wk1 g1 g2
  | false=>
   simp only[As,if_false];refine Aa (Ac ?_);simp only[if_true];refine Aa (wpAny_mono (hst t1 p3 p2) (fun _ s' hs'=>?_) fun _ _ e=>e);obtain⟨h',rfl,g1,g2⟩:=hs';exact hlast t1 h' p3 p2 wk1 g1 g2
 ·have:t.mask<=255:=by rcases X.msk with ⟨a,_⟩ | ⟨a,_⟩ | ⟨a,_⟩ | ⟨a,_⟩ | ⟨a,_⟩ | ⟨a,_⟩ <;> omega
  unfold turns at hne;omega
theorem zlO {B:List Addr}{S:Addr}{o:Obj}{es:Array (Int×Value)}{ep:Nat}{t:SetTable}{ks:List (List K)} (X:TS knd s.heap S o es ep t ks B) (hu:A.units<cLine) (hv:∀k v n,knd.is k v=true->hashByValue n v=pure true)
  {k:List K} {b:Addr} (hk:AT knd s.heap k b) (hbB:b∈B) (hn:ks.length<60) {Q:Bool->Shared->Prop}
  (h:∀(r:Bool) h' o' es' ep' t',TS knd h' S o' es' ep' t' (if k∈ks then ks else ks++[k]) B->AX S s.heap h'->Q r { s with heap:=h',toks:=s.toks+(k.length+1) }):wpAny (model prog w) A (setAdd S (.ref b)) Q E s:=by
 unfold setAdd;exact AW (Aa (wpAny_pyHash_tuple hu hk (zlx (s:={ s with toks:=s.toks+(k.length+1) }) X hu hv hk hbB hn h)))
end
end STb
end
section
namespace STb
def dd {α:Type} [DecidableEq α] (l:List α):List α:=l.foldl (fun acc x=>if x∈acc then acc else acc++[x]) []
theorem zcT {α:Type} [DecidableEq α] (l:List α) (x:α):dd (l++[x])=if x∈dd l then dd l else dd l++[x]:=by unfold dd; rw[List.foldl_append]; rfl
theorem zca {α:Type} [DecidableEq α] (l:List α):(dd l).length<=l.length:=by
 have:∀(l acc:List α),(l.foldl (fun acc x=>if x∈acc then acc else acc++[x]) acc).length<=acc.length+l.length:=by
  intro l
  induction l with
  | nil=>intro acc; simp
  | cons x l ih=>
   intro acc;rw[List.foldl_cons];refine AG (ih _) ?_;split
   ·rw[Aw]; omega
   ·rw[Ah,Aw,Aw,List.length_nil]; omega
 simpa[dd] using this l []
theorem zbO {α:Type} [DecidableEq α] (l:List α) (x:α):x∈dd l ↔ x∈l:=by
 have:∀(l acc:List α),x∈(l.foldl (fun acc x=>if x∈acc then acc else acc++[x]) acc) ↔ x∈acc \/ x∈l:=by
  intro l
  induction l with
  | nil=>intro acc; simp
  | cons y l ih=>
   intro acc;rw[List.foldl_cons,ih]
   by_cases h:y∈acc
   ·rw[if_pos h,List.mem_cons]
    constructor
    ·rintro (q | q)
     ·exact .inl q
     ·exact .inr (.inr q)
    ·rintro (q | q | q)
     ·exact .inl q
     ·subst q; exact .inl h
     ·exact .inr q
   ·rw[if_neg h,List.mem_append,List.mem_singleton,List.mem_cons]
    constructor
    ·rintro ((q | q) | q)
     ·exact .inl q
     ·exact .inr (.inl q)
     ·exact .inr (.inr q)
    ·rintro (q | q | q)
     ·exact .inl (.inl q)
     ·exact .inl (.inr q)
     ·exact .inr q
 simpa[dd] using this l []
theorem zcr {α:Type} [DecidableEq α] (l:List α):(dd l).Nodup:=by
 have:∀(l acc:List α),acc.Nodup->(l.foldl (fun acc x=>if x∈acc then acc else acc++[x]) acc).Nodup:=by
  intro l
  induction l with
  | nil=>intro acc h; exact h
  | cons y l ih=>
   intro acc h;rw[List.foldl_cons]
   by_cases q:y∈acc
   ·rw[if_pos q]; exact ih acc h
   ·rw[if_neg q]
    refine ih _ ?_;rw[AL];refine⟨h,by simp,fun a ha b hb e=>?_⟩;rw[List.mem_singleton] at hb;subst hb; subst e; exact q ha
 exact this l [] List.nodup_nil
theorem zdy {α:Type} [DecidableEq α] (l m:List α):(dd (l++m)).length<=(dd l).length+m.length:=by
 have:∀(m acc:List α),(m.foldl (fun acc x=>if x∈acc then acc else acc++[x]) acc).length<=acc.length+m.length:=by
  intro m
  induction m with
  | nil=>intro acc; simp
  | cons x l ih=>
   intro acc;rw[List.foldl_cons];refine AG (ih _) ?_;split
   ·rw[Aw]; omega
   ·rw[Ah,Aw,Aw,List.length_nil]; omega
 unfold dd;rw[List.foldl_append];exact this m _
theorem zjE {α:Type} [DecidableEq α] (l:List α) (h:∀(k:Nat) x,l[k]?=some x->x∉l.take k):dd l=l:=by
 have:∀k,k<=l.length->dd (l.take k)=l.take k:=by
  intro k
  induction k with
  | zero=>intro _; rfl
  | succ k ih=>
   intro hk;have hx:l[k]?=some l[k]:=Ai (by omega);rw[List.take_add_one,hx];show dd (l.take k++[l[k]])=_;rw[zcT,ih (by omega),if_neg (h k _ hx)]
   rfl
 have q:=this l.length (Af _);rw[An (Af _)] at q;exact q
theorem zi7 {α:Type} [DecidableEq α] (l:List α) {k:Nat}{x:α} (h:l[k]?=some x) (hx:x∈l.take k):(dd l).length<l.length:=by
 have hk:k<l.length:=(List.getElem?_eq_some_iff.mp h).1;have e:l=(l.take k++[x])++l.drop (k+1):=by
  have:=List.take_append_drop (k+1) l;rw[List.take_add_one,h] at this;exact this.symm
 have h1:=zdy (l.take k++[x]) (l.drop (k+1));rw[<- e,zcT,if_pos ((zbO _ _).mpr hx)] at h1;have h2:=zca (l.take k);rw[AC] at h2;rw[List.length_drop] at h1;omega
theorem zl7 {α:Type} [DecidableEq α] (l:List α):(dd l).length<l.length ↔ ∃(k:Nat) (x:α),l[k]?=some x/\x∈l.take k:=by
 constructor
 ·intro h
  apply Classical.byContradiction;intro n;have:=zjE l fun k x e hx=>n ⟨k,x,e,hx⟩;rw[this] at h;exact Nat.lt_irrefl _ h
 ·rintro⟨k,x,e,hx⟩
  exact zi7 l e hx
end STb
end
section
set_option maxHeartbeats 3200000
namespace STb
open PySem PySem.SetTable PyProof.Rows
section
variable {prog:Program}{w:World}{K:Type} [DecidableEq K] {knd:KeyKind prog w K}{A:Around}{R:Result->Shared->Prop}{I:Addr}{fp wr:List Addr}{G:Array GenState->Array GenState->Prop}{n:Nat}{P:Nat->Value->Prop}{St:Nat->Shared->Prop}
theorem TS.moved {B:List Addr}{h h':Heap}{S:Addr}{o:Obj}{es:Array (Int×Value)}{ep:Nat}{t:SetTable}{ks:List (List K)} (X:TS knd h S o es ep t ks B) (hS:h'.get? S=some o) (hk:∀k b,AT knd h k b->AT knd h' k b):TS knd h' S o es ep t ks B:=
 ⟨hS,X.ex,X.dt,X.tb,X.sz,X.nd,fun e he=>let ⟨k,b,a1,a2,a3⟩:=X.el e he; ⟨k,b,a1,a2,hk k b a3⟩,fun k hk'=>let ⟨b,a1,a2⟩:=X.ke k hk'; ⟨b,a1,hk k b a2⟩,X.msk,X.ad,X.wk⟩
theorem zi3 {h h':Heap}{k:List K}{b:Addr} (hk:AT knd h k b) (e:∀o,h.get? b=some o->h'.get? b=some o):AT knd h' k b:=by
 obtain⟨o,items,n,ho,r⟩:=hk;exact⟨o,items,n,e o ho,r⟩
theorem zjO {B:List Addr} (W:WalksS prog w A.in1 I fp wr G n P St) (hu:A.in1.units<cLine) (hv:∀k v n,knd.is k v=true->hashByValue n v=pure true) (S:Addr) (hSf:S∉fp) (vals:List (List K)) (adr:Nat->Addr) (hn:vals.length=n) (hB:∀i,i<n->adr i∈B) (hz:n<=59)
  (hval:∀i v,P i v->v=.ref (adr i)) (hna:∀b o,(∃items m,o.cls=Value.type "tuple"/\o.data=.seq items m)->∀s i,St i s->s.heap.get? b=some o->b∉wr) :
  ∀(k i:Nat) (s:Shared),n - i=k->i<=n->St i s->(∃o es ep t,TS knd s.heap S o es ep t (dd (vals.take i)) B)->(∀(j:Nat) (x:List K),vals[j]?=some x->AT knd s.heap x (adr j))->
   (∀s',Moved (S::wr) G s s'->(∃o es ep t,TS knd s'.heap S o es ep t (dd vals) B)->R (.ok (.ret .none)) s')->codeAny (model prog w) A (.builtin "set.update.loop" ⟨[.ref S,.ref I],[]⟩) R s:=by
 have hSw:S∉wr:=fun h=>hSf (W.sub _ h);have hsub:∀b∈wr,b∈S::wr:=fun b hb=>Ar _ hb;have kmove:∀{i:Nat} {s s':Shared} {x:List K} {b:Addr},St i s->Moved wr G s s'->AT knd s.heap x b->AT knd s'.heap x b:=fun {i s s' x b} hst hm hk=>by
  obtain⟨o,items,m,ho,hc,hd,hi⟩:=id hk;exact⟨o,items,m,hm.heap b o (hna b o ⟨items,m,hc,hd⟩ s i hst ho) ho,hc,hd,hi⟩
 intro k
 induction k with
 | zero=>
  intro i s hk hi hst hS hT hR;have hin:i=n:=by omega
  subst hin;refine codeAny_builtin F.entry_set_update_loop ?_;rw[Around.under_plainId F.plain_set_update_loop _];show wpAny _ A.in1 (pyNext (.ref I) >>= _) _ _ s;refine Aa (W.done s _ _ hst fun s' hm=>?_);show wpAny _ A.in1 (ret Value.none) _ _ s';refine Ac (hR s' (hm.mono hsub) ?_);obtain⟨o,es,ep,t,X⟩:=hS;rw[An (by omega)] at X;exact⟨o,es,ep,t,X.moved (hm.heap S _ hSw X.at_) fun k b hk=>kmove hst hm hk⟩
 | succ k ih=>
  intro i s hk hi hst hS hT hR;have hlt:i<n:=by omega
  refine codeAny_builtin F.entry_set_update_loop ?_;rw[Around.under_plainId F.plain_set_update_loop _];show wpAny _ A.in1 (pyNext (.ref I) >>= _) _ _ s;refine Aa (W.item i s _ _ hlt hst fun v s' hP hst' hm=>?_);obtain rfl:=hval i v hP;obtain⟨o,es,ep,t,X⟩:=hS;have X':TS knd s'.heap S o es ep t (dd (vals.take i)) B:=X.moved (hm.heap S _ hSw X.at_) fun k b hk=>kmove hst hm hk;have hx:vals[i]?=some vals[i]:=Ai (by omega);have hlen:=zca (vals.take i);rw[AC] at hlen;show wpAny _ A.in1 (holding [Value.ref (adr i)] (setAdd S (.ref (adr i))) >>= _) _ _ s';refine Aa (AW (zlO X' hu hv (kmove hst hm (hT i _ hx)) (hB i hlt) (by omega) fun r h' o' es' ep' t' X2 hsb=>?_));have htk:s'.toks<=s'.toks+(vals[i].length+1):=Nat.le_add_right _ _;have st2:St (i+1) { s' with heap:=h',toks:=s'.toks+(vals[i].length+1) }:=W.frame _ s' _ _ hst' htk fun b hb o2 e=>by
   rw[hsb.2 b (fun h:b=S=>hSf (by rw[<- h]; exact hb))]; exact e
  have etake:vals.take (i+1)=vals.take i++[vals[i]]:=by rw[List.take_add_one,hx]; rfl
  have X3:TS knd h' S o' es' ep' t' (dd (vals.take (i+1))) B:=by
   rw[etake,zcT]
   by_cases q:vals[i]∈dd (vals.take i)
   ·rw[if_pos q] at X2 ⊢; exact X2
   ·rw[if_neg q] at X2 ⊢; exact X2
  refine Ac ⟨plainId_quiet F.plain_set_update_loop _,ih (i+1) _ (by omega) hlt st2 ⟨o',es',ep',t',X3⟩ (fun j x hj=>zaQ (kmove hst hm (hT j x hj)) X'.at_ X'.dt hsb) fun s'' hm'' hS''=>?_⟩;refine hR s'' (Moved.trans W.gtrans ((hm.mono hsub).then_heap htk fun b o2 hb e=>?_) hm'') hS'';rw[hsb.2 b (fun h:b=S=>hb (by rw[h]; exact Am))]; exact e
end
end STb
end
section
namespace STb
open PySem PySem.SetTable PyProof.Rows
section
variable {prog:Program}{w:World}{K:Type} [DecidableEq K] {knd:KeyKind prog w K}{A:Around}{E:Value->Shared->Prop}{s:Shared}
theorem zjv (a:Value) {Q₁:Value->Shared->Prop} (h:Q₁ (.ref s.heap.objs.size) { s with heap:=s.heap.push { cls:=.type "set",dict:=none,data:=.set #[] 0 (.fresh 0 0 (!w.params.followText "set-order")) } }) :
  codeAny (model prog w) A (.call (.builtin "set.__new__") ⟨[.type "set",a],[]⟩) (wants Q₁ E) s:=by
 refine codeAny_of_tree (show wpAny _ A.in1 (do checkBuiltinCall "set.__new__" ⟨[.type "set",a],[]⟩; again (.builtin "set.__new__" ⟨[.type "set",a],[]⟩)) _ _ s from Aa (wpAny_of_eq (F.newCall_set_1 a) (Ac ⟨plainId_quiet F.plain_set_new _,codeAny_builtin F.entry_set_new ?_⟩)));rw[Around.under_plainId F.plain_set_new _]; unfold Builtin.«set.__new__» Builtin.Frozenset.newClass;have hsub:=sub_set_self; obtain⟨hp,g,d,tk,os⟩:=s;dsimp only; wp_walk;refine wpAny_askSetting (Ac ?_); dsimp only; simp only[newObj];exact Aa (wpAny_alloc (Ac (Ac h)))
theorem zcQ {B:List Addr}{l:Addr}{items:Array Value}{vals:List (List K)}{adr:Nat->Addr}{Q:Value->Shared->Prop}
  (hh:A.handled=none) (hl:s.heap.IsList l items) (hu:A.units+64<cLine) (hv:∀k v n,knd.is k v=true->hashByValue n v=pure true) (hz:items.size<=59) (hn:vals.length=items.size) (hB:∀i,i<items.size->adr i∈B)
  (hit:∀(i:Nat) v,items[i]?=some v->v=.ref (adr i)) (hT:∀(j:Nat) x,vals[j]?=some x->AT knd s.heap x (adr j))
  (h:∀h' tk,(∃o es ep t,TS knd h' s.heap.objs.size o es ep t (dd vals) B)->(∀b o,b<s.heap.objs.size->s.heap.get? b=some o->h'.get? b=some o)->Q (.ref s.heap.objs.size) { s with heap:=h',toks:=tk }) :
  wpAny (model prog w) A (call (.type "set") [.ref l]) Q E s:=by
 obtain⟨c,tl,hmro⟩:=F.called_set.mro;have hmade:=F.called_set.made;have hsub:=F.called_set.sub;refine wpAny_call (codeAny_of_tree ?_);show wpAny _ _ (callAny (.type "set") _) _ _ _;refine Ac ⟨Code.quiet_builtin _ (by decide +kernel),codeAny_builtin F.entry_type_call ?_⟩;rw[Around.under_plain (weight_type_call_type "set" [.ref l] []) rfl];have h1:=F.called_set.notType;have h2:=F.called_set.canCreate;have hct:=F.typeCall_set_1 (.ref l)
 repeat (any_goals (first | assumption | wp_step))
 refine codeAny_mono (zjv (.ref l) (E:=E) (Q₁:=fun obj s₁=>∃led:Bool,(w.params.followText "set-order"=true \/ led=true)/\obj=.ref s.heap.objs.size/\s₁={ s with heap:=s.heap.push { cls:=.type "set",dict:=none,data:=.set #[] 0 (.fresh 0 0 led) } }) ⟨_,by cases w.params.followText "set-order" <;> simp,rfl,rfl⟩) fun r s₁ hr=>?_;cases r with
 | error e=>exact hr
 | ok fl=>
  cases fl with
  | ret obj=>
   obtain⟨led,hled,rfl,rfl⟩:=hr;have hS:(s.heap.push { cls:=.type "set",dict:=none,data:=.set #[] 0 (.fresh 0 0 led) }).get? s.heap.objs.size=some { cls:=.type "set",dict:=none,data:=.set #[] 0 (.fresh 0 0 led) }:=Aq _ rfl;have hTy:Shared.TypeIs { s with heap:=s.heap.push { cls:=.type "set",dict:=none,data:=.set #[] 0 (.fresh 0 0 led) } } (.ref s.heap.objs.size) "set":=⟨_,hS,rfl⟩;have hli:=F.called_set.init.lookup;have hbi:=F.called_set.init.bind (.ref s.heap.objs.size)
   repeat (any_goals (first | assumption | wp_step))
   refine codeAny_mono (codeAny_call_builtin (R:=wants (fun r s₂=>r=.none/\∃h' tk,s₂={ s with heap:=h',toks:=tk }/\
     (∃o es ep t,TS knd h' s.heap.objs.size o es ep t (dd vals) B)/\
     (∀b o,b<s.heap.objs.size->s.heap.get? b=some o->h'.get? b=some o)) E) F.called_set.init.plain F.entry_set_init (check_set_init_1 hTy ?_)) fun r₂ s₂ hr₂=>?_
   ·obtain⟨ol,hol,hcl,nl,hdl⟩:=hl
    obtain⟨ocls,odict,odata,oslots⟩:=ol;simp only at hcl hdl;subst hcl; subst hdl;have hol':(s.heap.push { cls:=.type "set",dict:=none,data:=.set #[] 0 (.fresh 0 0 led) }).get? l=some { cls:=.type "list",dict:=odict,data:=.seq items nl,slots:=oslots }:=Ae _ hol;have hsls:=F.sub_list_set;have hslf:=F.sub_list_frozenset;have hne:(Value.type "list" == Value.type "dict")=false:=by decide
    have hl1:(s.heap.push { cls:=.type "set",dict:=none,data:=.set #[] 0 (.fresh 0 0 led) }).IsList l items:=⟨_,hol',rfl,nl,rfl⟩;unfold Builtin.«set.__init__» noKeywords Builtin.Frozenset.updateFrom;generalize hPI:pyIter=PI
    wp_walk
    subst hPI;refine wpAny_pyIter_list hl1 ?_;refine Aa (wpAny_runValue ?_);have hlS:l<s.heap.objs.size:=Au hol;have hh3:A.in1.in1.in1.handled=none:=by simp[hh]
    have hneI:l≠(s.heap.push { cls:=.type "set",dict:=none,data:=.set #[] 0 (.fresh 0 0 led) }).objs.size:=by
     rw[Heap.size_push]; exact AE (Nat.lt_succ_of_lt hlS)
    have hSf:s.heap.objs.size∉[(s.heap.push { cls:=.type "set",dict:=none,data:=.set #[] 0 (.fresh 0 0 led) }).objs.size,l]:=by
     rw[Heap.size_push]; simp only[List.mem_cons,List.mem_singleton,List.not_mem_nil,or_false,not_or];exact⟨AE (Nat.lt_succ_self _),Nat.ne_of_gt hlS⟩
    refine zjO (knd:=knd) ((Walks.list hh3 _ l hneI items).toS) (by show A.units+1+1+1<cLine; omega) hv s.heap.objs.size hSf vals adr hn hB hz (fun i v q=>hit i v q) (fun b o ho s' i st e hb=>?hna)
     (items.size - 0) 0 _ (by omega) (AO _) ⟨⟨_,Aq _ rfl,rfl,rfl⟩,(hl1.push _)⟩ ⟨{ cls:=.type "set",dict:=none,data:=.set #[] 0 (.fresh 0 0 led) },#[],0,.fresh 0 0 led,?hS0⟩ (fun j x hx=>zi3 (hT j x hx) fun o e=>Ae _ (Ae _ e)) ?hR
    case hna=>
     obtain⟨⟨oi,e1,e2,_⟩,_⟩:=st;obtain⟨its,m,hc,_⟩:=ho;simp only[List.mem_singleton] at hb;subst hb;have e3:=Ao (e1.symm.trans e);rw[<- e3,e2] at hc;exact absurd hc (by decide)
    case hS0=>
     have hget:((s.heap.push { cls:=.type "set",dict:=none,data:=.set #[] 0 (.fresh 0 0 led) }).push { cls:=.type "list_iterator",data:=.fields #[.ref l,.int 0 0] }).get? s.heap.objs.size
      =some { cls:=.type "set",dict:=none,data:=.set #[] 0 (.fresh 0 0 led) }:=Ae _ hS
     exact⟨hget,⟨rfl,rfl,rfl⟩,rfl,(by simpa using zjb 0 0 led),rfl,List.nodup_nil,fun e he=>by simp at he,fun k hk=>by simp[dd] at hk,.inl ⟨rfl,AO _⟩,(fun e he=>by simp at he),hled.imp id fun z=>⟨z,rfl⟩⟩
    case hR=>
     intro s' hm hS';obtain⟨h',g',d',tk',os'⟩:=s';have eg:g'=s.gens:=hm.gens;have ed:d'=s.drawn:=hm.drawn;have eo:os'=s.os:=hm.os;subst eg; subst ed; subst eo;show wpAny _ _ _ _ _ _;refine Ac ?_;show wpAny _ _ (ret Value.none) _ _ _;refine Ac ⟨rfl,h',tk',rfl,hS',fun b o hb e=>?_⟩;have hb1:b≠s.heap.objs.size:=AE hb;have hb2:b≠(s.heap.push { cls:=.type "set",dict:=none,data:=.set #[] 0 (.fresh 0 0 led) }).objs.size:=by
      rw[Heap.size_push]; exact AE (Nat.lt_succ_of_lt hb)
     exact hm.heap b o (by simp only[List.mem_cons,List.mem_singleton,List.not_mem_nil,or_false,not_or]; exact⟨hb1,hb2⟩) (Ae _ (Ae _ e))
   ·cases r₂ with
    | error e=>exact hr₂
    | ok fl₂=>
     cases fl₂ with
     | ret r=>
      obtain⟨rfl,h',tk,rfl,hS',hk'⟩:=hr₂
      repeat (any_goals (first | assumption | wp_step))
      exact h _ _ hS' hk'
     | _=>exact hr₂.elim
  | _=>exact hr.elim
end
end STb
namespace L2
open PySem PySem.Spec PyProof.Rows
def SetN (D:Addr) (n:Nat):HO:=.ext fun h=>∃o es ep t,h.get? D=some o/\o.ExactSet/\o.data=.set es ep t/\t.fits es.size=true/\es.size=n/\n<=100
section
variable {X:Cx}
theorem zkJ {prog:Program}{w:World}:∀(k:Int) (v:Value) (n:Nat),(intKind prog w).is k v=true->hashByValue n v=pure true:=by
 intro k v n h;obtain⟨t,rfl⟩:=Value.isInt_shape h;cases n <;> rfl
theorem zdz {prog:Program}{w:World}{h:Heap}{c:Addr}{cs:List Value}{qs:List Int} (hc:IsTup h c cs.toArray) (hi:IntsAre cs qs):AT (intKind prog w) h qs c:=by
 obtain⟨o,e,hcl,k,d⟩:=hc;refine⟨o,cs.toArray,k,e,hcl,d,?_⟩;have:∀{cs:List Value} {qs:List Int},IntsAre cs qs->ItemsAre (intKind prog w) qs cs:=by
  intro cs qs hi
  induction hi with
  | nil=>exact .nil
  | cons n t h ih=>exact .cons (by show Value.isInt n (.int n t)=true; simp[Value.isInt]) ih
 simpa using this hi
theorem zd2 (hc:X.calm=true) (hu:X.A.units+64<cLine):zaS X (.type "set") (fun xs H Q=>∃(l:Addr) (as:List Addr) (pss:List (List Int)),xs=[.ref l]/\SqL X.K H l (as.map V.ref)/\Tps H as pss/\pss.length<=59/\
  ∀D,H D=none->Q (.ref D) (upd H D (SetN D (STb.dd pss).length))):=by
 intro pins s σ H xs us Q I r h;obtain⟨l,as,pss,rfl,hq,hp,hz,q⟩:=h;obtain⟨u,rfl,ru⟩:=vals1 r;cases ru;obtain⟨its,r1,p1,_⟩:=I.list hq;obtain rfl:=vals_refs r1;have hla:=hp.length;refine STb.zcQ (B:=as) (knd:=intKind X.prog X.w) (vals:=pss) (adr:=fun i=>as.getD i 0) (I.ok.hd hc) p1.isList hu zkJ (by rw[Aj,Ab]; omega) (by rw[Aj,Ab]; omega) (fun i hi=>by rw[Aj,Ab] at hi; rw[List.getD_eq_getElem?_getD,Ai hi]; exact List.getElem_mem hi)
  (fun i v e=>?_) (fun j x e=>?_) fun h' tk ⟨o,es,ep,t,T⟩ kk=>?_
 ·have e':(as.map Value.ref)[i]?=some v:=by simpa using e
  rw[Al] at e';cases ea:as[i]? with
  | none=>rw[ea] at e'; simp at e'
  | some a=>
   rw[ea] at e';rw[<- Ao e',List.getD_eq_getElem?_getD,ea]
   rfl
 ·have hj:j<as.length:=by rw[hla]; exact (List.getElem?_eq_some_iff.mp e).1
  have ea:as[j]?=some as[j]:=Ai hj;obtain⟨ps',e1,e2⟩:=hp.get ea;rw[e] at e1;obtain rfl:=Ao e1;obtain⟨its,r2,p2,_⟩:=I.tuple (SqT.of (K:=X.K) e2);rw[List.getD_eq_getElem?_getD,ea];exact zdz p2 (intsAre_of r2)
 ·have hlen:=STb.zca pss
  refine⟨.ref s.heap.objs.size,_,I.laid (o:=SetN s.heap.objs.size (STb.dd pss).length) (fun b u e=>kk b u (Au e) e) (Af _) ?_,rfl,q _ (I.hok.fresh (Af _))⟩;refine⟨⟨o,es,ep,t,T.at_,T.ex,T.dt,STb.fits_of T.tb,T.sz,by omega⟩,⟨o,T.at_⟩,fun h1 h2 ⟨o',es',ep',t',g1,g2⟩ kp=>⟨o',es',ep',t',kp _ g1,g2⟩⟩
theorem zdK:zaS X (.builtin "len") (fun xs H Q=>∃D n,xs=[.ref D]/\H D=some (SetN D n)/\Q (.int n) H):=by
 intro pins s σ H xs us Q I r h;obtain⟨D,n,rfl,hq,q⟩:=h;obtain⟨u,rfl,ru⟩:=vals1 r;cases ru;obtain⟨⟨o,es,ep,t,h1,h2,h3,h4,h5,h6⟩,_⟩:=(show zJ X.prog X.w H s.heap D (SetN D n) from I.hok D _ hq);exact call_len_set h1 h2 h3 h4 (by omega) ⟨.int n,H,I.tok _,⟨_,by rw[h5]⟩,q⟩
end
end L2
end
section
namespace Spl
open PySem PySem.Spec PySem.Builtin PySem.Builtin.Str PyProof.Rows
section
variable {prog:Program}{w:World}{A:Around}{E:Value->Shared->Prop}{s:Shared}{x y:PySem.Str}{t u:Tok}{Q:Value->Shared->Prop}
theorem split1 (hy:(y.length == 0)=false)
  (h:∀(l:List (PySem.Str×Tok)) k,l.map (·.1)=Txt.split x y->Q (.ref s.heap.objs.size) { s with heap:=s.heap.push { cls:=.type "list",data:=.seq (strValues l).toArray },toks:=k })
  (hsz:x.length+2<=sizeLine):wpAny (model prog w) A (call (.builtin "str.split") [.str x t,.str y u]) Q E s:=by
 have hn:(partsBetween x (occurrences x y 0 x.length (x.length+1)) y.length).length<=sizeLine:=by
  have e1:=StrLaws.occ_length_le x y 0 x.length (x.length+1);rw[length_partsBetween]; omega
 cases h1:(decide (x.length<y.length) || decide (strKind x<strKind y))
 ·cases hf:(occurrences x y 0 x.length (x.length+1)).isEmpty
  ·refine call_meets F.slot_str_split (typeIs_str _ _ _) F.entry_str_split (F.args_str_split_2 _ _) (meets_str_split_sep x y t u h1 hy hf (by omega) hn) ?_
   show wants Q E _ { s with toks:=_,heap:=s.heap.push { cls:=.type "list",data:=.seq (strsFrom s.toks (partsBetween x (occurrences x y 0 x.length (x.length+1)) y.length)).toArray } };rw[strsFrom_eq];exact h (numbered s.toks _) _ ((numbered_texts _ _).trans ((if_neg (ne_true_of_eq_false h1)).trans (if_neg (ne_true_of_eq_false hf))).symm)
  ·exact call_meets F.slot_str_split (typeIs_str _ _ _) F.entry_str_split (F.args_str_split_2 _ _) (meets_str_split_not_found x y t u h1 hy hf)
    (h [(x,t)] s.toks ((if_neg (ne_true_of_eq_false h1)).trans (if_pos hf)).symm)
 ·exact call_meets F.slot_str_split (typeIs_str _ _ _) F.entry_str_split (F.args_str_split_2 _ _) (meets_str_split_cannot_occur x y t u h1)
   (h [(x,t)] s.toks (if_pos h1).symm)
end
end Spl
namespace L2
open PySem PySem.Spec PyProof.Rows
section
variable {X:Cx}
theorem zeG:∀(l:List (PySem.Str×Tok)),Vals ((l.map (·.1)).map V.str) (strValues l)
 | []=>.nil
 | p::l=>.cons ⟨p.2,rfl⟩ (zeG l)
def zmU:V->List V->Hp->VK->Prop:=fun x vs H Q=>∃z y,x=.str z/\vs=[.str y]/\(y.length == 0)=false/\z.length+2<=sizeLine/\(Txt.split z y).length<=sizeLine/\∀D,H D=none->Q (.ref D) (upd H D (.lst ((Txt.split z y).map V.str)))
theorem ziZ:MtM X "str.split" zmU:=by
 intro pins s σ H x vs v us Q I rx rv h;obtain⟨z,y,rfl,rfl,hy,hz,hl,q⟩:=h;obtain⟨t,rfl⟩:=rx;obtain⟨u,rfl,ru⟩:=rv.one;obtain⟨t',rfl⟩:=ru;refine Spl.split1 hy (fun l k e=>?_) hz;refine⟨.ref s.heap.objs.size,_,I.laid (t':=k) (o:=.lst ((Txt.split z y).map V.str)) (fun b ob q=>Ae _ q) (Af _) ?_,rfl,q _ (I.hok.fresh (Af _))⟩;refine⟨by rw[Ab]; exact hl,strValues l,0,?_,Aq _ rfl⟩;rw[<- e];exact zeG l
def Its (x:PySem.Str):It:=⟨fun i _=>i<x.cps.size,fun i H v H'=>H'=H/\∃c,x.cps[i]?=some c/\v=.str ⟨#[c]⟩,fun i _=>i=x.cps.size⟩
theorem zfQ {P:Program}{w:World}{K:Ad}{tg:Expr} (x:PySem.Str) (it:Addr) (T:String) (hn:["enumerate","zip","dict_itemiterator","dict_reverseitemiterator","odict_iterator","itertools.zip_longest","itertools.pairwise"].contains T=false) (t:Tok)
  (W:∀A':Around,A'.handled=none->Walks P w A' it [it] [it] x.cps.size (SignAt x) (fun i h=>h.IsStrIter it T x t i))
  (slf:∀(A:Around) (i:Nat) (s:Shared) (Q:Value->Shared->Prop) (E:Value->Shared->Prop),s.heap.IsStrIter it T x t i->Q (.ref it) s->wpAny (model P w) A (pyIter (.ref it)) Q E s) :
  Turn P w K tg (Its x) [it] it (fun i h=>h.IsStrIter it T x t i) where
 mem:=by simp
 obj:=fun i h st b hb=>by
  have e:b=it:=by simpa using hb
  subst e;obtain⟨o,e,c,d⟩:=st;exact⟨o,e,fun v z=>by rw[d] at z; cases z⟩
 keep:=fun i h h' st k=>by
  obtain⟨o,e,c⟩:=st;exact⟨o,k it (by simp) o e,c⟩
 item:=by
  intro X hP hw hK hc i pins s σ H E I hf st hg;subst hP hw hK;obtain⟨f0,f1,f2,f3,f4,f5⟩:=hf it (by simp);refine (W X.A (I.ok.hd hc)).item i s _ _ hg st fun v h' tk hv st' kk=>?_;obtain⟨c,u,hx,rfl⟩:=hv;have I1:Inv X pins σ H { s with heap:=h',toks:=tk }:=I.turned (fun b o hb e=>kk b o (by simpa using hb) e) f0 f1 f3 f4 f5;obtain⟨o,e1,e2,e3⟩:=id st';exact⟨_,rfl,zgs (s:={ s with heap:=h',toks:=tk }) e1 e2 e3 hn ⟨.str ⟨#[c]⟩,H,I1,⟨u,rfl⟩,⟨rfl,c,hx,rfl⟩,st',fun b hb=>(hf b hb).1⟩⟩
 done:=by
  intro X hP hw hK hc i pins s σ H E I hf st hg;subst hP hw hK;obtain⟨f0,f1,f2,f3,f4,f5⟩:=hf it (by simp);have hi:i=x.cps.size:=hg;subst hi;exact (W X.A (I.ok.hd hc)).done s _ _ st fun h' tk kk=>⟨rfl,I.turned (fun b o hb e=>kk b o (by simpa using hb) e) f0 f1 f3 f4 f5⟩
 self:=slf
def iStr (te:TE):TI:=fun σ H R=>te σ H fun v H1=>∃x,v=.str x/\R (Its x) H1
theorem zmf {tg l:Expr}{tl:TE} (hl:PE X l tl):PI X tg l (iStr tl):=by
 intro pins s σ H R I h;refine thn (hl pins s σ H _ I h) fun v s1 ⟨x,H1,I1,r1,q1⟩=>?_;obtain⟨z,e,q⟩:=q1;subst e;obtain⟨t,rfl⟩:=r1;have fin:∀(o:Obj),Inv X pins σ H1 { s1 with heap:=s1.heap.push o }:=fun o=>I1.kept (t':=s1.toks) fun b o e=>Ae _ e;have fp:∀b∈[s1.heap.objs.size],FpOk X pins H1 b:=fun b hb=>by
  have e:b=s1.heap.objs.size:=by simpa using hb
  subst e;exact I1.fpOk (Af _) (I1.hok.fresh (Af _))
 cases ha:z.cps.all (·<128)
 ·refine wpAny_pyIter_wide ha ?_
  exact⟨s1.heap.objs.size,[s1.heap.objs.size],_,_,H1,rfl,fin _,zfQ z _ "str_iterator" (by decide) t (fun A' hA=>Walks.strWide hA _ z t) (fun A i s Q E st h=>wpAny_pyIter_striter_wide st h),⟨_,Aq _ rfl,rfl,rfl⟩,fp,q⟩
 ·refine wpAny_pyIter_ascii ha ?_
  exact⟨s1.heap.objs.size,[s1.heap.objs.size],_,_,H1,rfl,fin _,zfQ z _ "str_ascii_iterator" (by decide) t (fun A' hA=>Walks.strAscii hA _ z t) (fun A i s Q E st h=>wpAny_pyIter_striter_ascii st h),⟨_,Aq _ rfl,rfl,rfl⟩,fp,q⟩
theorem ziQ {g:TG}{tc:TT}{te:TE}{σ:St}{H1:Hp}{Q:VK}{D:Addr}{x:PySem.Str} (Pv:Nat->St->List V->Hp->Prop) (h0:Pv 0 σ [] (upd H1 D (.lst [])))
  (hs:∀i σ ys H c,x.cps[i]?=some c->i<x.cps.size->ys.length<=i->Pv i σ ys H->g (.str ⟨#[c]⟩) σ H fun σ3 H4=>tc σ3 H4 fun b H5=>if b=true then te σ3 H5 (CPut x.cps.size Pv D i σ3) else CSkip x.cps.size Pv i σ3 H5)
  (hd:∀σ ys H,Pv x.cps.size σ ys H->Q (.ref D) H):zaj (Its x) g tc te σ H1 D Q:=by
 refine zbx x.cps.size Pv h0 (fun σ ys H p=>rfl) (fun i σ ys H hi p=>hi) (fun i σ ys H v H' hi hy p y=>?_) hd;obtain⟨e,c,hc,rfl⟩:=y;subst e;exact hs i σ ys _ c hc hi hy p
end
end L2
end
section
namespace K1
open STb
def subs (ps:List Int):List (List Int):=ps.foldl (fun found x=>found++found.map (·++[x])) [[]]
def parts (ps:List Int):List (List Int):=(subs ps).drop 1
theorem zcK (ps:List Int) (x:Int):subs (ps++[x])=subs ps++(subs ps).map (·++[x]):=by unfold subs; rw[List.foldl_append]; rfl
theorem zcj (ps:List Int):(subs ps).length=2 ^ ps.length:=by
 have:∀(ps:List Int) (acc:List (List Int)),(ps.foldl (fun found x=>found++found.map (·++[x])) acc).length=acc.length*2 ^ ps.length:=by
  intro ps
  induction ps with
  | nil=>intro acc; simp
  | cons x ps ih=>
   intro acc;rw[List.foldl_cons,ih,Ah,Ab,Aw,Nat.pow_succ];rw[<- Nat.two_mul,Nat.mul_comm 2,Nat.mul_assoc,Nat.mul_comm 2]
 simpa[subs] using this ps [[]]
theorem zcy (ps:List Int):∃t,subs ps=[]::t/\∀q∈t,q≠[]:=by
 have:∀(ps:List Int) (acc:List (List Int)),(∃t,acc=[]::t/\∀q∈t,q≠[])->∃t,ps.foldl (fun found x=>found++found.map (·++[x])) acc=[]::t/\∀q∈t,q≠[]:=by
  intro ps
  induction ps with
  | nil=>intro acc h; exact h
  | cons x ps ih=>
   rintro acc ⟨t,rfl,h⟩;rw[List.foldl_cons];refine ih _ ⟨t++([]::t).map (·++[x]),rfl,fun q hq=>?_⟩;rcases List.mem_append.mp hq with hq | hq
   ·exact h q hq
   ·obtain⟨r,_,rfl⟩:=List.mem_map.mp hq
    simp
 exact this ps [[]] ⟨[],rfl,fun q hq=>nomatch hq⟩
theorem zez (ps:List Int):(subs ps).filter (fun q=>!decide (q=[]))=parts ps:=by
 obtain⟨t,e,h⟩:=zcy ps;unfold parts;rw[e];show List.filter _ ([]::t)=t;rw[List.filter_cons,if_neg (by simp)];exact List.filter_eq_self.mpr fun q hq=>by simp[h q hq]
theorem zaP (ps:List Int):(parts ps).length=2 ^ ps.length - 1:=by unfold parts; rw[List.length_drop,zcj]
theorem zcd (ps:List Int):∀q∈subs ps,q.length<=ps.length:=by
 have:∀(ps:List Int) (acc:List (List Int)) (n:Nat),(∀q∈acc,q.length<=n)->∀q∈ps.foldl (fun found x=>found++found.map (·++[x])) acc,q.length<=n+ps.length:=by
  intro ps
  induction ps with
  | nil=>intro acc n h q hq; simpa using h q hq
  | cons x ps ih=>
   intro acc n h q hq;rw[List.foldl_cons] at hq;have:=ih _ (n+1) (fun r hr=>by
    rcases List.mem_append.mp hr with hr | hr
    ·exact Nat.le_succ_of_le (h r hr)
    ·obtain⟨u,hu,rfl⟩:=List.mem_map.mp hr
     rw[Ah];exact Nat.succ_le_succ (h u hu)) q hq
   rw[Aw];omega
 intro q hq;have:=this ps [[]] 0 (fun r hr=>by simp at hr; subst hr; exact Af _) q hq;omega
def rises:List Int->Bool
 | a::b::r=>decide (a<b) && rises (b::r)
 | _=>true
theorem zew:∀ps:List Int,((ps.zip (ps.drop 1)).map fun p=>decide (p.1<p.2)).all id=rises ps
 | []=>rfl
 | [_]=>rfl
 | a::b::r=>by
  have:=zew (b::r);unfold rises;rw[<- this]
  rfl
theorem zdG:∀ps:List Int,rises ps=true ↔ ∀(i:Nat) a b,ps[i]?=some a->ps[i+1]?=some b->a<b
 | []=>by simp[rises]
 | [x]=>by simp[rises]
 | x::y::r=>by
  unfold rises;rw[AY,decide_eq_true_eq,zdG (y::r)];constructor
  ·rintro⟨h1,h2⟩ i a b ha hb
   cases i with
   | zero=>simp at ha hb; subst ha hb; exact h1
   | succ i=>exact h2 i a b (by simpa using ha) (by simpa using hb)
  ·intro h
   exact⟨h 0 x y rfl rfl,fun i a b ha hb=>h (i+1) a b (by simpa using ha) (by simpa using hb)⟩
theorem zfV (ps:List Int) (h:rises ps=true):∀(d i:Nat) a b,ps[i]?=some a->ps[i+d]?=some b->a<=b:=by
 intro d
 induction d with
 | zero=>intro i a b ha hb; rw[Nat.add_zero,ha] at hb; cases hb; exact Int.le_refl _
 | succ d ih=>
  intro i a b ha hb;have hl:i+(d+1)<ps.length:=(List.getElem?_eq_some_iff.mp hb).1;have hc:ps[i+d]?=some ps[i+d]:=Ai (by omega);have h1:=ih i a _ ha hc;have h2:=(zdG ps).mp h (i+d) _ b hc hb;omega
def zag (ps:List Int):Bool:=decide (1<=ps.length) && decide (ps.length<=5) && !(decide (ps.headD 0<0)) && !(decide (99<ps.getLastD 0)) && rises ps
def zaL (ps:List Int):Bool:=decide (1<=ps.length) && decide (ps.length<=5) && ps.all (fun p=>decide (0<=p) && decide (p<=99)) && rises ps
theorem zfu (ps:List Int):zag ps=zaL ps:=by
 unfold zag zaL;cases ps with
 | nil=>rfl
 | cons x r=>
  by_cases hr:rises (x::r)=true
  ·rw[hr,Bool.and_true,Bool.and_true]
   by_cases h5:(x::r).length<=5
   ·have e1:(x::r).getLastD 0=(x::r)[(x::r).length - 1]:=by
     rw[List.getLastD_eq_getLast?,List.getLast?_eq_getElem?,Ai (by simp)]; rfl
    have key:(!(decide ((x::r).headD 0<0)) && !(decide (99<(x::r).getLastD 0)))=(x::r).all (fun p=>decide (0<=p) && decide (p<=99)):=by
     rw[Bool.eq_iff_iff];rw[AY,Bool.not_eq_true',Bool.not_eq_true',decide_eq_false_iff_not,decide_eq_false_iff_not,List.all_eq_true];constructor
     ·rintro⟨h0,h9⟩ p hp
      obtain⟨i,hi⟩:=List.mem_iff_getElem?.mp hp;have hil:i<(x::r).length:=(List.getElem?_eq_some_iff.mp hi).1;have g1:=zfV (x::r) hr i 0 x p rfl (by simpa using hi);have g2:=zfV (x::r) hr ((x::r).length - 1 - i) i p ((x::r)[(x::r).length - 1]) hi (by
       rw[show i+((x::r).length - 1 - i)=(x::r).length - 1 by omega];exact Ai (by simp))
      rw[e1] at h9;have h0':¬ x<0:=h0;simp only[AY,decide_eq_true_eq];constructor <;> omega
     ·intro h
      have g1:=h x Am;have g2:=h ((x::r)[(x::r).length - 1]) (List.getElem_mem _);rw[e1];simp only[AY,decide_eq_true_eq] at g1 g2;constructor
      ·show ¬ x<0; omega
      ·omega
    rw[<- key];simp only[Bool.and_assoc]
   ·rw[decide_eq_false h5]; simp
  ·have:rises (x::r)=false:=by simpa using hr
   rw[this,Bool.and_false,Bool.and_false]
def webM (pss:List (List Int)):Bool:=decide (pss.length<=20) && pss.all zag && !(decide ((dd pss).length<pss.length)) && decide ((dd (pss.flatMap parts)).length<=200)
def zj1 (pss:List (List Int)) (k:Nat):Prop:=∀(i:Nat) ps,i<k->pss[i]?=some ps->ps∉pss.take i/\zaL ps=true
theorem zju (pss:List (List Int)) (h:pss.length<=20) (hg:zj1 pss pss.length):webM pss=decide ((dd (pss.flatMap parts)).length<=200):=by
 unfold webM;have h1:pss.all zag=true:=List.all_eq_true.mpr fun ps hp=>by
  obtain⟨i,hi⟩:=List.mem_iff_getElem?.mp hp;rw[zfu];exact (hg i ps (List.getElem?_eq_some_iff.mp hi).1 hi).2
 have h2:¬ (dd pss).length<pss.length:=fun z=>by
  obtain⟨k,x,e,hx⟩:=(zl7 pss).mp z;exact (hg k x (List.getElem?_eq_some_iff.mp e).1 e).1 hx
 rw[decide_eq_true h,h1,decide_eq_false h2]
 rfl
theorem ziH (pss:List (List Int)) (h:¬ pss.length<=20):webM pss=false:=by unfold webM; rw[decide_eq_false h]; rfl
end K1
end
section
namespace L2
open PySem PySem.Spec PyProof.Rows
def capB (N N':List Str) (caps:List (Option Nat)) (scope:Scope):Bool:=decide (caps.length=N'.length) && (caps.zip N').all fun p=>match p.1 with
 | none=>true
 | some j=>decide (N[j]?=some p.2) && decide (scope.names.lookup p.2=some .free)
theorem zfZ {N N':List Str}{caps:List (Option Nat)}{scope:Scope} (h:capB N N' caps scope=true):zjq N N' caps scope:=by
 unfold capB at h;rw[AY,decide_eq_true_eq,List.all_eq_true] at h;refine⟨h.1,fun i j e=>?_⟩;have hi:i<caps.length:=(List.getElem?_eq_some_iff.mp e).1;have e2:N'[i]?=some N'[i]:=Ai (by rw[<- h.1]; exact hi);have:=h.2 (some j,N'[i]) (List.mem_iff_getElem?.mpr ⟨i,by rw[Srt.zipget,e,e2]; rfl⟩);simp only[AY,decide_eq_true_eq] at this;exact⟨N'[i],e2,this.1,this.2⟩
section
variable {X:Cx}{scope:Scope}{caps:List (Option Nat)}{tg iter elt:Expr}{ifs:List Expr}{wi:TI}{g:TG}{tc:TT}{te:TE}{pos:Pos}
theorem zx (N N':List Str) (caps:List (Option Nat)) (hi:PI X tg iter wi) (hg:∀cl C s₀ H₀ ex,PG (cxC X scope N' cl C s₀ H₀ ex) tg g) (ht:∀cl C s₀ H₀ ex,PTL (cxC X scope N' cl C s₀ H₀ ex) ifs tc) (he:∀cl C s₀ H₀ ex,PE (cxC X scope N' cl C s₀ H₀ ex) elt te)
  (hc:X.calm=true:=by rfl) (hk:scope.kind=.function:=by rfl) (hcell:∀y∈scope.names,y.2≠.cell:=by decide +kernel) (hnames:∀y∈scope.names,y.2=.local->scope.names.lookup y.1=some .local:=by decide +kernel)
  (hfr:∀y∈scope.names,y.2=.free->X.env.kindOf y.1=some .cell \/ X.env.kindOf y.1=some .free) (hN:X.N=N:=by rfl) (hcap:capB N N' caps scope=true:=by decide +kernel)
  (hs:∀x,foldedSetIterable iter X.env x=pure x:=by intro _; rfl):PE X (.ListComp elt [⟨tg,iter,ifs,0⟩] scope pos) (tLC wi caps g tc te):=
 zkC hc hk hcell hnames hfr (zfZ (by rw[hN]; exact hcap)) hi hg ht he hs
end
theorem nofr {env:Env}{scope:Scope} (h:scope.names.all (fun y=>decide (y.2≠.free))=true):∀y∈scope.names,y.2=.free->env.kindOf y.1=some .cell \/ env.kindOf y.1=some .free:=fun y hy e=>
 absurd e (of_decide_eq_true (List.all_eq_true.mp h y hy))
theorem frOf {env:Env}{scope:Scope} (sc:Scope) (h:scope.names.all (fun y=>decide (y.2≠.free) || decide (sc.names.lookup y.1=some .cell) || decide (sc.names.lookup y.1=some .free))=true) (hsc:env.scope=sc:=by rfl):∀y∈scope.names,y.2=.free->env.kindOf y.1=some .cell \/ env.kindOf y.1=some .free:=fun y hy e=>by
 subst hsc;have:=List.all_eq_true.mp h y hy;simp only[Bool.or_eq_true,decide_eq_true_eq] at this;rcases this with (q | q) | q
 ·exact absurd e q
 ·exact .inl q
 ·exact .inr q
theorem ndN (l:List Str) (h:l.Nodup:=by decide +kernel):l.Nodup:=h
theorem yes_ {te:TE}{σ:St}{H:Hp}{P:VK}{S:Hp->Prop} (h:te σ H P):tYes σ H fun b H5=>if b=true then te σ H5 P else S H5:=by
 show if true=true then te σ H P else S H;rw[if_pos rfl];exact h
theorem gyes {i:Nat}{v:V}{te:TE}{σ:St}{H:Hp}{P:St->VK}{S:St->Hp->Prop} (h:te (σ.set i (some v)) H (P (σ.set i (some v)))) :
  zX i v σ H fun σ3 H4=>tYes σ3 H4 fun b H5=>if b=true then te σ3 H5 (P σ3) else S σ3 H5:=yes_ (S:=S (σ.set i (some v))) h
theorem zG {J:It}{g:TG}{tc:TT}{te:TE}{σ:St}{H1:Hp}{Q:VK}{D:Addr} (h:zaj J g tc te σ H1 D Q):zaj J g tc te σ H1 D Q:=h
end L2
namespace L2
open PySem PySem.Spec PyProof.Rows
theorem Paired.of_at {α β:Type}{R:α->β->Prop}:∀{l:List α}{m:List β},l.length=m.length->(∀(i:Nat) x y,l[i]?=some x->m[i]?=some y->R x y)->Paired R l m
 | [],[],_,_=>.nil
 | x::l,y::m,h,f=>.cons (f 0 x y rfl rfl) (Paired.of_at (by simpa using h) fun i a b h1 h2=>f (i+1) a b (by simpa using h1) (by simpa using h2))
 | [],_::_,h,_=>by simp at h
 | _::_,[],h,_=>by simp at h
end L2
end
section
namespace HT
open PySem PyProof.Rows
section
variable {prog:Program}{w:World}{A:Around}{E:Value->Shared->Prop}{s:Shared}
theorem zbt {t sl:Addr}{items:Array Value}{vl vu:Value}{lo hi:Option Int}{Q:Value->Shared->Prop} (ht:IsTup s.heap t items) (hs:s.heap.IsSliceOf sl vl vu .none) (pl:IsPart vl lo) (pu:IsPart vu hi)
  (hw:sIx items.size 0 lo=0/\sIx items.size items.size hi=items.size)
  (h:Q (.ref t) s):wpAny (model prog w) A (getItem (.ref t) (.ref sl)) Q E s:=by
 obtain⟨os,hos,hcs,hds⟩:=id hs;have hTs:s.TypeIs (.ref sl) "slice":=⟨os,hos,hcs⟩;obtain⟨ot,hot,hct,nt,hdt⟩:=id ht;unfold getItem
 try with_reducible refine AW ?_
 first | refine Aa (Ac ?_) | skip
 refine Aa (wpAny_sequenceKey ht.typeIs (by decide) ?_);refine Aa (wpAny_callSpecial?_slot (name:=Str.ofString "__getitem__") ht.typeIs PyProof.Rows.slot_tuple_getitem
  (A2 PyProof.Rows.slot_tuple_getitem ht.typeIs entry_tuple_getitem ?_ (args_tuple_getitem _ _)))
 show wpAny _ _ (Builtin.Tuple.tupleItemsOf (.ref t) >>= _) _ _ s;refine Aa (tupleItemsOf_ ht ?_);refine Aa (wpAny_typeOf hTs ?_);rw[if_pos (by decide)];refine Aa (za0 hs pl pu ?_);have hyes:((((sIx items.size 0 lo:Nat):Int) == 0 && (1:Int) == 1 && (sIx items.size items.size hi - sIx items.size 0 lo) == items.size)=true):=by
  rw[hw.1,hw.2]; simp
 show wpAny _ _ (if (((sIx items.size 0 lo:Nat):Int) == 0 && (1:Int) == 1 && (sIx items.size items.size hi - sIx items.size 0 lo) == items.size)=true then _ else _) _ _ s;rw[if_pos hyes];refine Aa ?_;unfold Builtin.Tuple.tupleIsExact;refine Aa (wpAny_typeOf ht.typeIs (Ac ?_));rw[if_pos (by decide)];refine Aa (wpAny_rule ?_);exact Ac ⟨_,rfl,Ac h⟩
end
end HT
namespace L2
open PySem PySem.Spec PyProof.Rows
section
variable {X:Cx}
def rSlA:V->Option Int->Option Int->Hp->VK->Prop:=fun x lo hi H Q=>∃a xs,x=.ref a/\H a=some (.tup xs)/\∀p H',Same H H'->H' p=some (.tup (cutV xs lo hi))->Q (.ref p) H'
theorem zdq:SlR X rSlA:=by
 intro pins s σ H x v vl vu lo hi sl Q I rx hs pl pu h;obtain⟨a,xs,rfl,hx,q⟩:=h
 by_cases hw:HT.sIx xs.length 0 lo=0/\HT.sIx xs.length xs.length hi=xs.length
 ·cases rx
  obtain⟨its,r,ht,hz⟩:=I.tuple (SqT.of (K:=X.K) hx);have hlen:its.toArray.size=xs.length:=by rw[Aj]; exact r.length.symm
  refine⟨"tuple",_,PyProof.Rows.slot_tuple_getitem.lookup,ht.typeIs,HT.zbt ht hs pl pu (by rw[hlen]; exact hw) ⟨.ref a,H,I,rfl,q a H (Same.refl H) ?_⟩⟩;rw[hx];unfold cutV;rw[hw.1,hw.2,List.drop_zero,Nat.sub_zero,An (Af _)]
 ·exact zka pins s σ H (.ref a) v vl vu lo hi sl Q I rx hs pl pu ⟨a,xs,rfl,SqT.of hx,hw,fun p hp=>q p _ (Same.new hp) upd_same⟩
end
end L2
end
section
namespace K48
open K1
open PySem L2
def top (i:Nat):Stmt:=PySem.Challenge.pw_seamwright_k48_thin_seams.main.body.getD i (.Pass ⟨0,0,0,0⟩)
abbrev zcO:Stmt:=top 7
abbrev zbU:Stmt:=top 8
abbrev sKey:Stmt:=top 10
abbrev zbP:Stmt:=top 11
abbrev sAll:Stmt:=top 12
abbrev zcM:Stmt:=top 16
structure Bt (mg:Str->Option Value):Prop where
 len:mg "len"=none
 all:mg "all"=none
 zip:mg "zip"=none
 sorted:mg "sorted"=none
 set:mg "set"=none
 list:mg "list"=none
 tuple:mg "tuple"=none
 range:mg "range"=none
 enumerate:mg "enumerate"=none
 int:mg "int"=none
 isinstance:mg "isinstance"=none
 reversed:mg "reversed"=none
 bool:mg "bool"=none
theorem zaI:AS "len"=some (.builtin "len"):=by decide +kernel
theorem zkB:AS "all"=some (.builtin "all"):=by decide +kernel
theorem znc:AS "zip"=some (.type "zip"):=by decide +kernel
theorem zdf:AS "sorted"=some (.builtin "sorted"):=by decide +kernel
theorem zm4:AS "set"=some (.type "set"):=by decide +kernel
theorem zaK:AS "list"=some (.type "list"):=by decide +kernel
theorem zfn:AS "tuple"=some (.type "tuple"):=by decide +kernel
theorem zcL:AS "enumerate"=some (.type "enumerate"):=by decide +kernel
theorem zng:AS "int"=some (.type "int"):=by decide +kernel
theorem zbe:AS "isinstance"=some (.builtin "isinstance"):=by decide +kernel
theorem zgr:AS "reversed"=some (.type "reversed"):=by decide +kernel
theorem zml:AS "bool"=some (.type "bool"):=by decide +kernel
theorem line_big {n:Nat} (h:n<=100000):n<=sizeLine:=by rw[sizeLine_eq]; omega
theorem zF {n:Nat} (h:n<=100000):n<sizeLine:=by rw[sizeLine_eq]; omega
theorem zk6 (x:Int) (r:List Int):atI ((x::r).map V.int) (-1)=some (.int ((x::r).getLastD 0)):=by
 obtain⟨q,z,e⟩:∃q z,x::r=q++[z]:=⟨(x::r).dropLast,(x::r).getLast (List.cons_ne_nil x r),(List.dropLast_concat_getLast (List.cons_ne_nil x r)).symm⟩;rw[e,Ag,List.getLastD_eq_getLast?,List.getLast?_append];exact zfS _ _
theorem zd0 {ps:List Int}{i:Nat}{x:V} (h:(ps.map V.int)[i]?=some x):∃p,ps[i]?=some p/\x=.int p:=by
 rw[Al] at h;cases e:ps[i]? with
 | none=>rw[e] at h; cases h
 | some p=>rw[e] at h; exact⟨p,rfl,(Ao h).symm⟩
theorem zE {as:List Addr}{i:Nat}{x:V} (h:(as.map V.ref)[i]?=some x):∃a,as[i]?=some a/\x=.ref a:=by
 rw[Al] at h;cases e:as[i]? with
 | none=>rw[e] at h; cases h
 | some p=>rw[e] at h; exact⟨p,rfl,(Ao h).symm⟩
theorem AH {α:Type}{l:List α}{i:Nat}{x:α} (h:l[i]?=some x):l.take (i+1)=l.take i++[x]:=by rw[List.take_add_one,h]; rfl
theorem take_all {α:Type} (l:List α):l.take l.length=l:=An (Af _)
theorem cut1 (x:Int) (r:List Int):cutV ((x::r).map V.int) (some 1) none=r.map V.int:=by
 unfold cutV;have e:HT.sIx ((x::r).map V.int).length 0 (some 1)=1:=by
  have:=HT.zcW ((x::r).map V.int).length 0 1;rw[show ((1:Nat):Int)=1 from rfl] at this;rw[this,Ab,Aw]; omega
 rw[e,HT.zcm];show List.take _ (r.map V.int)=_;rw[An (by simp)]
section
variable {P:Program}{w:World}{K:Ad}{mg:Str->Option Value}{base:Heap}
def zhd:Sp:=fun vs H Q _=>∃a ps,vs=[.ref a]/\Tp H a ps/\∀H',Same H H'->Q (.bl (zag ps)) H'
theorem zlg:zu ["numbers"] ["numbers"] (zh zcO):=⟨rfl,rfl,rfl,by decide +kernel,rfl,by decide +kernel,by decide +kernel⟩
theorem zjm {f:Addr}{fd:FuncData}{t5 t99:Tok} (F:Fun K "is_piece" "is_piece" zcO f fd) (B:Bt mg) (m5:mg "MOST_POINTS"=some (.int 5 t5)) (m99:mg "LAST_POINT"=some (.int 99 t99)) :
  FnOk P w K mg base CX0 1 f fd ["numbers"] zhd:=by
 refine F.ok zlg (fun vs H Q E h=>?_) (fun cdv A outer s H vs Q E hr h=>?_)
 ·obtain⟨a,ps,rfl,_⟩:=h; rfl
 ·obtain⟨a,ps,rfl,ha,k⟩:=h
  refine⟨_,zf (zaf (zc5 (zi0 zk5 zk5 zl (zv zo rfl B.len zaI (ze (pv 0) zg)) (zdu rfl m5 (v:=.int 5) ⟨_,rfl⟩))) (zi (zt zbf)) zA)
   (zf (zaf (PW.pt (zhC (zy zjg (zR zZ (pv 0) zl (fun _ _=>rfl)) zl (nomark _)) (zfF (zy zc1 (zR zZ (pv 0) (zgN zeC zl) (fun _ _=>rfl)) (zdu rfl m99 (v:=.int 99) ⟨_,rfl⟩) (nomark _))))) (zi (zt zbf)) zA)
   (zi (zt (zv (zdO rfl) rfl B.all zkB (ze
    (zx ["numbers"] ["low","high"] [none,none] (zlM rfl B.zip znc (ze (pv 0) (ze (zaF zka (pv 0) (za2 zl) za5) zg)))
     (fun cl C s₀ H₀ ex=>zdc rfl (zah (zm (i:=0) (ndN ["low","high"]) rfl (Or.inl rfl)) (zah (zm (i:=1) (ndN ["low","high"]) rfl (Or.inl rfl)) zbY)))
     (fun cl C s₀ H₀ ex=>zN) (fun cl C s₀ H₀ ex=>zdE zjg (pv 0) (pv 1) (nomark _)) (hfr:=nofr (by decide +kernel)) (g:=gTup K 2 (zcP (zX 0) (zcP (zX 1) gNil)))) zg))))),?_⟩
  have no:zag ps=false->Q (.bl false) H:=fun e=>by have:=k H (Same.refl H); rw[e] at this; exact this
  refine⟨_,rfl,a,_,rfl,.inr (SqT.of ha),_,_,rfl,rfl,_,rfl,?_⟩;rw[Ab];refine ite2 (fun h1=>?_) (fun h1=>?_)
  ·refine⟨_,_,rfl,rfl,_,rfl,?_⟩
   have h1':1<=ps.length:=by have:=of_decide_eq_true h1; omega
   cases h5:decide ((ps.length:Int)<=5) with
   | false=>
    have h5':¬ ps.length<=5:=by have:=of_decide_eq_false h5; omega
    exact iteT (no (by unfold zag; rw[decide_eq_false h5']; simp))
   | true=>
    have h5':ps.length<=5:=by have:=of_decide_eq_true h5; omega
    refine iteF ?_;obtain⟨x,r,rfl⟩:∃x r,ps=x::r:=by
     cases ps with
     | nil=>simp at h1'
     | cons x r=>exact⟨x,r,rfl⟩
    refine⟨_,rfl,a,_,_,_,rfl,rfl,SqT.of ha,zC (j:=0) rfl,_,_,rfl,rfl,_,rfl,?_⟩;refine ite2 (fun hx=>?_) (fun hx=>?_)
    ·refine iteT (no ?_)
     unfold zag;rw[show decide ((x::r).headD 0<0)=true from hx];simp
    ·refine⟨_,rfl,_,rfl,a,_,_,_,rfl,rfl,SqT.of ha,zk6 x r,_,_,rfl,rfl,_,rfl,?_⟩
     cases hl:decide (99<(x::r).getLastD 0) with
     | true=>
      refine iteT (no ?_);unfold zag;rw[hl];simp
     | false=>
      refine iteF ?_;refine⟨_,rfl,_,rfl,_,rfl,a,_,rfl,SqT.of ha,?_,fun p hp=>?_⟩
      ·intro z
       have e:=HT.zcW ((x::r).map V.int).length 0 1;rw[show ((1:Nat):Int)=1 from rfl,z.1,Ab,Aw] at e;omega
      ·rw[cut1]
       have s1:Same H (upd H p (.tup (r.map V.int))):=Same.new hp;refine⟨a,p,rfl,⟨_,SqT.of (s1.tp ha)⟩,⟨_,SqT.of upd_same⟩,fun D hD=>?_⟩;have hm:min ((x::r).map V.int).length (r.map V.int).length=r.length:=by simp
       refine zG (ziD (K:=K) (xs:=(x::r).map V.int) (ys:=r.map V.int) (fun i σ zs H3=>∃v1 v2,σ=[v1,v2]/\Same (upd H p (.tup (r.map V.int))) H3/\H3 D=some (.lst zs)/\zs=((((x::r).zip r).map fun q=>decide (q.1<q.2)).take i).map V.bl)
        ⟨none,none,rfl,Same.new hD,upd_same,rfl⟩ (fun i σ zs H3 ⟨_,_,_,sm,_⟩=>⟨SqT.of (sm.tp (s1.tp ha)),SqT.of (sm _ _ upd_same)⟩) ?_ ?_)
       ·rintro i σ zs H3 p' y1 y2 e1 e2 hi hz ⟨v1,v2,rfl,sm,hD3,rfl⟩ hp'
        obtain⟨q1,g1,rfl⟩:=zd0 e1;obtain⟨q2,g2,rfl⟩:=zd0 e2;refine⟨p',_,rfl,SqT.of upd_same,rfl,_,_,rfl,_,_,rfl,rfl,yes_ ?_⟩;refine⟨_,rfl,_,rfl,_,_,rfl,rfl,cput (AG (Nat.min_le_right _ _) (by rw[Ab]; exact line_big (by simp at h5'; omega))) hi hz (by rw[zk (zj hD3 hp')]; exact hD3) ⟨_,_,rfl,?_,upd_same,?_⟩⟩
        ·exact (sm.then (sm.free hp')).then hD
        ·have e3:(((x::r).zip r).map fun q=>decide (q.1<q.2))[i]?=some (decide (q1<q2)):=by
          rw[Al,Srt.zipget,g1,g2]; rfl
         rw[AH e3,Ag]; rfl
       ·rintro σ zs H3 ⟨v1,v2,rfl,sm,hD3,rfl⟩
        refine⟨D,(((x::r).zip r).map fun q=>decide (q.1<q.2)),rfl,SqL.of ?_,?_⟩
        ·rw[hD3,hm,An (by simp)]
        ·have:=k H3 (s1.trans sm)
         have e4:=zew (x::r);rw[show (x::r).drop 1=r from rfl] at e4;rw[e4];have e5:zag (x::r)=rises (x::r):=by
          unfold zag;rw[decide_eq_true h1',decide_eq_true h5',hl];rw[show decide ((x::r).headD 0<0)=false from by simpa using hx]
          rfl
         rw[e5] at this;exact this
  ·refine⟨_,rfl,iteT (no ?_)⟩
   have h1':¬ 1<=ps.length:=fun z=>h1 (decide_eq_true (by omega));unfold zag;rw[decide_eq_false h1']
   rfl
end
end K48
end
section
namespace K48
open K1
open PySem L2
section
variable {P:Program}{w:World}{K:Ad}{mg:Str->Option Value}{base:Heap}
def zdB:Sp:=fun vs H Q _=>∃a ps,vs=[.ref a]/\Tp H a ps/\ps.length<=5/\∀D as H',Same H H'->H D=none->H' D=some (.lst (as.map V.ref))->Tps H' as (parts ps)->Q (.ref D) H'
theorem zdv:zu ["piece","found","point"] ["piece"] (zh zbU):=⟨rfl,rfl,rfl,by decide +kernel,rfl,by decide +kernel,by decide +kernel⟩
theorem pow5 {n:Nat} (h:n<=5):2 ^ n<=32:=by
 have:2 ^ n<=2 ^ 5:=Nat.pow_le_pow_right (by decide) h;exact this
theorem zc3 {H2:Hp}{as:List Addr}{fs:List (List Int)}{q:Int}{D:Addr}{l:Addr}{Q:VK} (hl:H2 l=some (.lst (as.map V.ref))) (ht:Tps H2 as fs) (hz:as.length<=100) (hz2:∀f∈fs,f.length<=100) (hD:H2 D=none)
  (k:∀bs H3,Same H2 H3->H3 D=some (.lst (bs.map V.ref))->Tps H3 bs (fs.map (·++[q]))->Q (.ref D) H3) :
  zaj (Itl K l) (zX 0) tYes (tOp zlk (tVar 0) (tTup (zW (tVar 1) tNil))) [none,some (.int q)] H2 D Q:=by
 have hla:=ht.length;refine zL (xs:=as.map V.ref) (fun j σ ys H3=>∃bs v,σ=[v,some (.int q)]/\Same H2 H3/\H3 D=some (.lst ys)/\ys=bs.map V.ref/\Tps H3 bs ((fs.take j).map (·++[q]))) ?_ ?_ ?_ ?_
 ·exact⟨[],none,rfl,Same.new hD,upd_same,rfl,.nil⟩
 ·rintro j σ ys H3 ⟨bs,v,rfl,sm,hD3,rfl,hb⟩
  exact SqL.of (sm _ _ hl)
 ·rintro j σ ys H3 x hx hj hy ⟨bs,v,rfl,sm,hD3,rfl,hb⟩
  obtain⟨a,ea,rfl⟩:=zE hx;obtain⟨f,ef,hf⟩:=ht.get ea;refine gyes ?_;refine⟨_,rfl,_,rfl,line_big (by simp),fun t htn=>?_⟩;have hf3:=sm.tp hf;have s1:Same H3 (upd H3 t (.tup [.int q])):=Same.new htn;refine⟨a,t,_,_,rfl,rfl,s1 _ _ hf3,upd_same,?_,fun p H4 s2 hp=>?_⟩
  ·rw[Ab]
   exact line_big (by have:=hz2 f (Ak ef); simp; omega)
  ·have s3:Same H3 H4:=s1.trans s2
   refine cput (ys:=bs.map V.ref) (by rw[Ab]; exact line_big (by omega)) hj hy (s3 _ _ hD3) ⟨bs++[p],_,rfl,(sm.trans s3).then hD,upd_same,by rw[Ag]; rfl,?_⟩;rw[AH ef,Ag];have hpD:p≠D:=zbz hp (s3 _ _ hD3) (by intro z; cases z);have keep:∀c xs,H4 c=some (.tup xs)->upd H4 D (.lst (bs.map V.ref++[V.ref p])) c=some (.tup xs):=fun c xs e=>by
    rw[zk (zbz e (s3 _ _ hD3) (by intro z; cases z))]; exact e
   refine Tps.snoc (Paired.mapP (s3.tps hb) fun c xs e=>keep c _ e) (keep p _ ?_);rw[hp,Ag]; rfl
 ·rintro σ ys H3 ⟨bs,v,rfl,sm,hD3,rfl,hb⟩
  rw[Ab,hla,take_all] at hb;exact k bs H3 sm hD3 hb
theorem ziE {f:Addr}{fd:FuncData} (F:Fun K "parts_of" "parts_of" zbU f fd):FnOk P w K mg base CX0 1 f fd ["piece"] zdB:=by
 refine F.ok zdv (fun vs H Q E h=>?_) (fun cdv A outer s H vs Q E hr h=>?_)
 ·obtain⟨a,ps,rfl,_⟩:=h; rfl
 ·obtain⟨a,ps,rfl,ha,h5,k⟩:=h
  refine⟨_,zf (zq (i:=1) zdv.nd rfl (Or.inl rfl) (zY (ze (zak zg) zg)))
   (zf (zM AF rfl (zcb (pv 0)) (zm (i:=2) zdv.nd rfl (Or.inr rfl))
    (zi (zq (i:=1) zdv.nd rfl (Or.inl rfl) (zH zcR (pv 1) (zx ["piece","found","point"] ["part","point"] [none,some 2] (zw (pv 1)) (fun cl C s₀ H₀ ex=>zm (i:=0) (ndN ["part","point"]) rfl (Or.inl rfl)) (fun cl C s₀ H₀ ex=>zN)
     (fun cl C s₀ H₀ ex=>zH zdj (pv 0) (zak (ze (pv 1) zg))) (hfr:=frOf (zh zbU) (by decide +kernel)))))))
   (zi (zt (zaF zfp (pv 1) (za2 zl) za5)))),?_⟩
  refine⟨line_big (by simp),fun e he=>⟨line_big (by simp),fun l hl=>?_⟩⟩;have s1:Same H (upd (upd H e (.tup [])) l (.lst [.ref e])):=(Same.new he).then ((Same.new he).free hl);have hle:e≠l:=zj (H:=upd H e (.tup [])) upd_same hl;refine⟨_,rfl,a,rfl,⟨_,SqT.of (s1 _ _ ha)⟩,zcH (K:=K) (a:=a) (xs:=ps.map V.int) (fun i σ H2=>∃l as v,σ=[some (.ref a),some (.ref l),v]/\Same H H2/\H l=none/\H2 l=some (.lst (as.map V.ref))/\Tps H2 as (subs (ps.take i)))
   ⟨l,[e],none,rfl,s1,(Same.new he).free hl,upd_same,.cons (by show upd _ _ _ e=_; rw[zk hle]; exact upd_same) .nil⟩ (fun i σ H2 _ ⟨_,_,_,_,sm,_⟩=>SqT.of (sm _ _ ha)) ?_ ?_⟩
  ·rintro i x σ H2 hx ⟨l,as,v,rfl,sm,hl0,hl,ht⟩
   obtain⟨q,eq,rfl⟩:=zd0 hx;have hi:i<ps.length:=(List.getElem?_eq_some_iff.mp eq).1;have hla:=ht.length;have hn:as.length<=32:=by
    rw[hla,zcj,AC];exact pow5 (by omega)
   have hm:∀f∈subs (ps.take i),f.length<=100:=fun f hf=>by
    have:=zcd _ f hf;rw[AC] at this;omega
   refine⟨_,rfl,_,rfl,l,rfl,⟨_,SqL.of hl⟩,fun D hD=>zG (zc3 hl ht (by omega) hm hD fun bs H3 sm3 hD3 hb=>?_)⟩;have hlb:=hb.length;rw[Ab] at hlb;refine⟨l,D,_,_,rfl,rfl,sm3 _ _ hl,hD3,by rw[Ab,Ab]; exact line_big (by omega),fun l2 hl2=>?_⟩;have h02:H l2=none:=(sm.trans sm3).free hl2;refine⟨l2,as++bs,_,rfl,(sm.trans sm3).then h02,h02,by rw[upd_same,Ag],?_⟩;rw[AH eq,zcK];exact (Same.new hl2).tps ((sm3.tps ht).append hb)
  ·rintro σ H2 ⟨l,as,v,rfl,sm,hl0,hl,ht⟩
   rw[Ab,take_all] at ht;refine⟨_,rfl,_,rfl,l,_,rfl,SqL.of hl,fun D hD=>?_⟩;have h0:H D=none:=sm.free hD;obtain⟨t,et,_⟩:=zcy ps;refine k D (as.drop 1) _ (sm.then h0) h0 ?_ ?_
   ·rw[upd_same]
    unfold cutV;have hl1:1<=as.length:=by rw[ht.length,et]; simp
    have e1:HT.sIx (as.map V.ref).length 0 (some 1)=1:=by
     have:=HT.zcW (as.map V.ref).length 0 1;rw[show ((1:Nat):Int)=1 from rfl] at this;rw[this,Ab]; omega
    rw[e1,HT.zcm,<- List.map_drop,An (by simp)]
   ·exact (Same.new hD).tps (ht.drop 1)
theorem znl:zu ["piece"] ["piece"] (zh sKey):=⟨rfl,rfl,rfl,by decide +kernel,rfl,by decide +kernel,by decide +kernel⟩
theorem zmd {f:Addr}{fd:FuncData} (F:Fun K "order_key" "order_key" sKey f fd) (B:Bt mg):FnOk P w K mg base CX0 1 f fd ["piece"] ziF:=by
 refine F.ok znl (fun vs H Q E h=>?_) (fun cdv A outer s H vs Q E hr h=>?_)
 ·obtain⟨a,ps,rfl,_⟩:=h; rfl
 ·obtain⟨a,ps,rfl,ha,k⟩:=h
  refine⟨_,zi (zt (zak (ze (zv zo rfl B.len zaI (ze (pv 0) zg)) (ze (pv 0) zg)))),?_⟩;refine⟨_,rfl,a,_,rfl,.inr (SqT.of ha),_,rfl,line_big (by simp),fun p hp=>?_⟩;rw[Ab];exact k p hp
def zeT (K:Ad):Sp:=fun vs H Q _=>∃l as pss,vs=[.ref l]/\SqL K H l (as.map V.ref)/\Tps H as pss/\pss.length<64/\
 ∀D H2 (qs:List (List Int×Addr)),Same H H2->H D=none->H2 D=some (.lst (qs.map fun q=>V.ref q.2))->qs.Perm (pss.zip as)->qs.Pairwise (fun a b=>HT.lexLt ((b.1.length:Int)::b.1) ((a.1.length:Int)::a.1)=false)->Q (.ref D) H2
theorem zlH:zu ["some"] ["some"] (zh zbP):=⟨rfl,rfl,rfl,by decide +kernel,rfl,by decide +kernel,by decide +kernel⟩
theorem zf7 {f fk:Addr}{fd fdk:FuncData} (F:Fun K "in_order" "in_order" zbP f fd) (B:Bt mg) (Fk:Fun K "order_key" "order_key" sKey fk fdk) (bk:Binds K fdk ["piece"] []) (mk:mg "order_key"=some (.ref fk)):FnOk P w K mg base CX0 4 f fd ["some"] (zeT K):=by
 have Gk:FnOk P w K mg base CX0 1 fk fdk ["piece"] ziF:=zmd Fk B;refine F.ok zlH (fun vs H Q E h=>?_) (fun cdv A outer s H vs Q E hr h=>?_)
 ·obtain⟨l,as,pss,rfl,_⟩:=h; rfl
 ·obtain⟨l,as,pss,rfl,hl,ht,h64,k⟩:=h
  refine⟨_,zi (zt (zgo Gk hr bk rfl B.sorted zdf rfl mk (ze (pv 0) zg))),?_⟩;exact⟨_,rfl,l,as,pss,rfl,hl,ht,h64,k⟩
end
end K48
end
section
namespace K48
open K1
open PySem L2 STb
theorem Tps.upd {H:Hp}{d:Addr}{o o':HO}{as:List Addr}{pss:List (List Int)} (h:Tps H as pss) (hd:H d=some o') (hn:∀xs,o'≠.tup xs):Tps (L2.upd H d o) as pss:=
 Paired.mapP h fun a ps e=>by
  show L2.upd H d o a=_;rw[zk (zbz (show H a=some _ from e) hd fun z=>hn _ z.symm)]; exact e
def kvM (seq:List (List Int)):List (List Key×V):=(dd seq).map fun ps=>((ps.map Sum.inl:List Key),V.bl true)
theorem zaY (seq:List (List Int)):(kvM seq).length<=seq.length:=by unfold kvM; rw[Ab]; exact zca seq
theorem zaX (seq:List (List Int)) (ps:List Int):putK (kvM seq) (ps.map Sum.inl) (.bl true)=kvM (seq++[ps]):=by
 unfold putK kvM;rw[zcT];have ha:(((dd seq).map fun ps=>((ps.map Sum.inl:List Key),V.bl true)).any fun kv=>decide (kv.1=ps.map Sum.inl))=decide (ps∈dd seq):=by
  rw[List.any_map]
  by_cases h:ps∈dd seq
  ·rw[decide_eq_true h,List.any_eq_true]
   exact⟨ps,h,by simp⟩
  ·rw[decide_eq_false h,List.any_eq_false]
   intro q hq;simp only[Function.comp,decide_eq_true_eq,zai];rintro rfl;exact h hq
 rw[ha]
 by_cases h:ps∈dd seq
 ·rw[decide_eq_true h,if_pos rfl,if_pos h,Ap]
  refine A6 fun q hq=>?_;simp only[Function.comp];split <;> rfl
 ·rw[decide_eq_false h,if_neg (by simp),if_neg h,Ag]
  rfl
theorem zfw {H:Hp}{seq:List (List Int)}{bs:List Addr} (h:Paired (fun (p:List Key×V) b=>H b=some (.tup (p.1.map kV))) (kvM seq) bs):Tps H bs (dd seq):=by
 unfold kvM at h;generalize dd seq=l at h
 induction l generalizing bs with
 | nil=>cases h; exact .nil
 | cons x l ih=>
  rw[Av] at h;cases h with
  | cons r t=>
   refine .cons ?_ (ih t);show H _=_;rw[r,Ap]
   rfl
theorem zfR (pss:List (List Int)) (h:∀ps∈pss,ps.length<=5):(pss.flatMap parts).length<=31*pss.length:=by
 induction pss with
 | nil=>simp
 | cons x l ih=>
  rw[List.flatMap_cons,Ah,zaP,Aw];have:=ih fun ps hp=>h ps (Ar _ hp);have:=pow5 (h x Am);omega
theorem zed {pss:List (List Int)}{i:Nat}{ps:List Int} (h:pss[i]?=some ps):(pss.take (i+1)).flatMap parts=(pss.take i).flatMap parts++parts ps:=by
 rw[AH h,List.flatMap_append]; simp
def Told (H H2:Hp) (pss:List (List Int)) (D:Addr) (qs:List (List Int×Addr)):Prop:=
 Same H H2/\H D=none/\H2 D=some (.lst (qs.map fun q=>V.ref q.2))/\(∀q∈qs,Tp H2 q.2 q.1)/\(qs.map (·.1)).Perm (dd (pss.flatMap parts))/\qs.Pairwise (fun a b=>HT.lexLt ((b.1.length:Int)::b.1) ((a.1.length:Int)::a.1)=false)
section
variable {P:Program}{w:World}{K:Ad}{mg:Str->Option Value}{base:Heap}
def zg0 (K:Ad):Sp:=fun vs H Q _=>∃l as pss,vs=[.ref l]/\SqL K H l (as.map V.ref)/\Tps H as pss/\(∀ps∈pss,ps.length<=5)/\pss.length<=20/\(dd (pss.flatMap parts)).length<64/\∀D H2 qs,Told H H2 pss D qs->Q (.ref D) H2
theorem ziV:zu ["some","found","piece","part"] ["some"] (zh sAll):=⟨rfl,rfl,rfl,by decide +kernel,rfl,by decide +kernel,by decide +kernel⟩
theorem zkl {f fp fo fk:Addr}{fd fdp fdo fdk:FuncData} (F:Fun K "all_parts" "all_parts" sAll f fd) (B:Bt mg)
  (Fp:Fun K "parts_of" "parts_of" zbU fp fdp) (bp:Binds K fdp ["piece"] []) (mp:mg "parts_of"=some (.ref fp)) (Fo:Fun K "in_order" "in_order" zbP fo fdo) (bo:Binds K fdo ["some"] []) (mo:mg "in_order"=some (.ref fo))
  (Fk:Fun K "order_key" "order_key" sKey fk fdk) (bk:Binds K fdk ["piece"] []) (mk:mg "order_key"=some (.ref fk)):FnOk P w K mg base CX0 5 f fd ["some"] (zg0 K):=by
 have Gp:FnOk P w K mg base CX0 1 fp fdp ["piece"] zdB:=ziE Fp;have Go:FnOk P w K mg base CX0 4 fo fdo ["some"] (zeT K):=zf7 Fo B Fk bk mk;refine F.ok ziV (fun vs H Q E h=>?_) (fun cdv A outer s H vs Q E hr h=>?_)
 ·obtain⟨l,as,pss,rfl,_⟩:=h; rfl
 ·obtain⟨l,as,pss,rfl,hl,ht,h5,h20,h64,k⟩:=h
  have hu:=zbo hr;have hr1:Room 1 _:=hr.mono (by decide);refine⟨_,zf (zq (i:=1) ziV.nd rfl (Or.inl rfl) zP)
   (zf (zM AF rfl (zw (pv 0)) (zm (i:=2) ziV.nd rfl (Or.inl rfl))
    (zi (zM AF rfl (zw (zn Gp hr1 rfl mp Fp.kp bp .nil pass0 (ze (pv 2) zg))) (zm (i:=3) ziV.nd rfl (Or.inl rfl))
     (zi (zQ hu (pv 1) (pv 3) zbf rfl)))))
   (zi (zt (zn Go hr rfl mo Fo.kp bo .nil pass0 (ze (zB (za6 rfl) rfl B.list zaK (ze (pv 1) zg)) zg))))),?_⟩
  intro d hd;have hla:=ht.length;refine⟨_,rfl,l,rfl,⟨_,(Same.new hd).seq hl⟩,zK (K:=K) (a:=l) (xs:=as.map V.ref) (fun i σ H2=>∃v v',σ=[some (.ref l),some (.ref d),v,v']/\Same H H2/\H2 d=some (.dT (kvM ((pss.take i).flatMap parts))))
   ⟨none,none,rfl,Same.new hd,upd_same⟩ (fun i σ H2 _ ⟨_,_,_,sm,_⟩=>sm.seq hl) ?_ ?_⟩
  ·rintro i x σ H2 hx ⟨v,v',rfl,sm,hd2⟩
   obtain⟨a,ea,rfl⟩:=zE hx;obtain⟨ps,eps,hps⟩:=ht.get ea;have hps5:=h5 ps (Ak eps);have hi:i<pss.length:=(List.getElem?_eq_some_iff.mp eps).1;refine⟨_,rfl,a,ps,rfl,sm.tp hps,hps5,fun D cs H3 sm3 hD0 hD hcs=>⟨D,rfl,⟨_,SqL.of hD⟩,?_⟩⟩;have hlc:=hcs.length;have hdD:D≠d:=zbz hD (sm3 _ _ hd2) (by intro z; cases z);refine zK (K:=K) (a:=D) (xs:=cs.map V.ref) (fun j σ H4=>∃v',σ=[some (.ref l),some (.ref d),some (.ref a),v']/\Same H H4/\H4 D=some (.lst (cs.map V.ref))/\Tps H4 cs (parts ps)/\H4 d=some (.dT (kvM ((pss.take i).flatMap parts++(parts ps).take j))))
    ⟨_,rfl,sm.trans sm3,hD,hcs,by rw[List.take_zero,List.append_nil]; exact sm3 _ _ hd2⟩ (fun j σ H4 _ ⟨_,_,_,q,_⟩=>SqL.of q) ?_ ?_
   ·rintro j x σ H4 hx ⟨v',rfl,sm4,hD4,hcs4,hd4⟩
    obtain⟨c,ec,rfl⟩:=zE hx;obtain⟨f,ef,hf⟩:=hcs4.get ec;have hlen:(kvM ((pss.take i).flatMap parts++(parts ps).take j)).length<sizeLine:=by
     refine zF (AG (zaY _) ?_);rw[Ah];have h1:=zfR (pss.take i) (fun q hq=>h5 q (List.mem_of_mem_take hq));have h2:=zaP ps;have h3:=pow5 hps5;rw[AC] at h1 ⊢;omega
    refine⟨_,rfl,_,rfl,d,_,rfl,DPut.t (k:=f.map Sum.inl) hd4 (by rw[Ap]; exact hf) hlen,⟨_,rfl,sm4.then hd,?_,?_,?_⟩⟩
    ·rw[zk hdD]; exact hD4
    ·exact Tps.upd hcs4 hd4 (by intro xs z; cases z)
    ·rw[upd_same,zaX,A4,<- AH ef]
   ·rintro σ H4 ⟨v',rfl,sm4,hD4,hcs4,hd4⟩
    refine⟨_,_,rfl,sm4,?_⟩;rw[Ab,hlc,take_all] at hd4;rw[zed eps];exact hd4
  ·rintro σ H2 ⟨v,v',rfl,sm,hd2⟩
   rw[Ab,hla,take_all] at hd2;refine⟨_,rfl,d,_,rfl,hd2,fun bs hb l2 hl2=>?_⟩;have tb:=zfw hb;have hlb:=tb.length;refine⟨l2,bs,dd (pss.flatMap parts),rfl,SqL.of upd_same,(Same.new hl2).tps tb,h64,fun D H3 qs sm3 hD hD3 hp hs=>?_⟩;have hl20:H l2=none:=sm.free hl2;refine k D H3 qs ⟨(sm.then hl20).trans sm3,(sm.then hl20).free hD,hD3,fun q hq=>?_,?_,hs⟩
   ·obtain⟨m,em⟩:=List.mem_iff_getElem?.mp (hp.mem_iff.mp hq)
    rw[Srt.zipget] at em;cases e1:(dd (pss.flatMap parts))[m]? with
    | none=>rw[e1] at em; cases em
    | some f=>
     cases e2:bs[m]? with
     | none=>rw[e1,e2] at em; cases em
     | some b=>
      rw[e1,e2] at em;obtain rfl:(f,b)=q:=Ao em;exact sm3.tp ((Same.new hl2).tp (za9 tb m b f e2 e1))
   ·have:=hp.map (·.1)
    rw[List.map_fst_zip (by omega)] at this;exact this
def zh0 (K:Ad):Sp:=fun vs H Q _=>∃l as pss,vs=[.ref l]/\SqL K H l (as.map V.ref)/\Tps H as pss/\(pss.all zag=true->(dd (pss.flatMap parts)).length<64)/\∀H',Same H H'->Q (.bl (webM pss)) H'
theorem zkz:zu ["web"] ["web"] (zh zcM):=⟨rfl,rfl,rfl,by decide +kernel,rfl,by decide +kernel,by decide +kernel⟩
theorem zix {f fi fa fp fo fk:Addr}{fd fdi fda fdp fdo fdk:FuncData}{t5 t99 t20 t200:Tok} (F:Fun K "is_web" "is_web" zcM f fd) (B:Bt mg) (m5:mg "MOST_POINTS"=some (.int 5 t5)) (m99:mg "LAST_POINT"=some (.int 99 t99))
  (m20:mg "MOST_HANDED"=some (.int 20 t20)) (m200:mg "MOST_PIECES"=some (.int 200 t200))
  (Fi:Fun K "is_piece" "is_piece" zcO fi fdi) (bi:Binds K fdi ["numbers"] []) (mi:mg "is_piece"=some (.ref fi))
  (Fa:Fun K "all_parts" "all_parts" sAll fa fda) (ba:Binds K fda ["some"] []) (ma:mg "all_parts"=some (.ref fa))
  (Fp:Fun K "parts_of" "parts_of" zbU fp fdp) (bp:Binds K fdp ["piece"] []) (mp:mg "parts_of"=some (.ref fp)) (Fo:Fun K "in_order" "in_order" zbP fo fdo) (bo:Binds K fdo ["some"] []) (mo:mg "in_order"=some (.ref fo))
  (Fk:Fun K "order_key" "order_key" sKey fk fdk) (bk:Binds K fdk ["piece"] []) (mk:mg "order_key"=some (.ref fk)):FnOk P w K mg base CX0 6 f fd ["web"] (zh0 K):=by
 have Gi:FnOk P w K mg base CX0 1 fi fdi ["numbers"] zhd:=zjm Fi B m5 m99;have Ga:FnOk P w K mg base CX0 5 fa fda ["some"] (zg0 K):=zkl Fa B Fp bp mp Fo bo mo Fk bk mk;refine F.ok zkz (fun vs H Q E h=>?_) (fun cdv A outer s H vs Q E hr h=>?_)
 ·obtain⟨l,as,pss,rfl,_⟩:=h; rfl
 ·obtain⟨l,as,pss,rfl,hl,ht,h64,k⟩:=h
  have hu64:=hr.units;have hr1:Room 1 _:=hr.mono (by decide);refine⟨_,zf (zaf (zy zc1 (zv zo rfl B.len zaI (ze (pv 0) zg)) (zdu rfl m20 (v:=.int 20) ⟨_,rfl⟩) (nomark _)) (zi (zt zbf)) zA)
   (zf (zaf (zc5 (zbS (zv (zdO rfl) rfl B.all zkB (ze
    (zx ["web"] ["numbers"] [none] (zw (pv 0)) (fun cl C s₀ H₀ ex=>zm (i:=0) (ndN ["numbers"]) rfl (Or.inl rfl)) (fun cl C s₀ H₀ ex=>zN)
     (fun cl C s₀ H₀ ex=>zn Gi hr1 rfl mi Fi.kp bi .nil pass0 (ze (pv 0) zg)) (hfr:=nofr (by decide +kernel))) zg)))) (zi (zt zbf)) zA)
   (zf (zaf (zy zjg (zv zdK rfl B.len zaI (ze (zB (zd2 rfl hu64) rfl B.set zm4 (ze (pv 0) zg)) zg)) (zv zo rfl B.len zaI (ze (pv 0) zg)) (nomark _)) (zi (zt zbf)) zA)
   (zi (zt (zdE zk5 (zv zo rfl B.len zaI (ze (zn Ga hr rfl ma Fa.kp ba .nil pass0 (ze (pv 0) zg)) zg)) (zdu rfl m200 (v:=.int 200) ⟨_,rfl⟩) (nomark _)))))),?_⟩
  have hla:=ht.length;refine⟨_,rfl,l,_,rfl,.inl hl,_,_,rfl,rfl,_,rfl,?_⟩;rw[Ab];refine ite2 (fun h1=>?_) (fun h1=>?_)
  ·have:=k H (Same.refl H)
   rw[ziH pss (by have:=of_decide_eq_true h1; omega)] at this;exact this
  ·have h20:pss.length<=20:=by
    have:¬ ((20:Int)<as.length):=fun z=>h1 (decide_eq_true z);omega
   refine⟨_,rfl,l,rfl,⟨_,hl⟩,fun D hD=>zG (zL (K:=K) (a:=l) (xs:=as.map V.ref) (fun i σ ys H3=>∃v,σ=[v]/\Same H H3/\H3 D=some (.lst ys)/\ys=((pss.map zag).take i).map V.bl)
    ⟨none,rfl,Same.new hD,upd_same,rfl⟩ (fun i σ ys H3 ⟨_,_,sm,_⟩=>sm.seq hl) ?_ ?_)⟩
   ·rintro i σ ys H3 x hx hi hy ⟨v,rfl,sm,hD3,rfl⟩
    obtain⟨a,ea,rfl⟩:=zE hx;obtain⟨ps,eps,hps⟩:=ht.get ea;refine gyes ?_;refine⟨_,rfl,a,ps,rfl,sm.tp hps,fun H4 sm4=>cput (by rw[Ab]; exact line_big (by omega)) hi hy (sm4 _ _ hD3) ⟨_,rfl,(sm.trans sm4).then hD,upd_same,?_⟩⟩;have e:(pss.map zag)[i]?=some (zag ps):=by rw[Al,eps]; rfl
    rw[AH e,Ag]; rfl
   ·rintro σ ys H3 ⟨v,rfl,sm,hD3,rfl⟩
    rw[Ab,hla,An (by simp)] at hD3;refine⟨D,pss.map zag,rfl,SqL.of hD3,_,rfl,?_⟩;have eall:(pss.map zag).all id=pss.all zag:=by rw[List.all_map]; rfl
    rw[eall];cases hp:pss.all zag with
    | false=>
     refine iteT ?_;have:=k H3 sm;rw[show webM pss=false from by unfold webM; rw[hp]; simp] at this;exact this
    | true=>
     refine iteF ?_;refine⟨_,rfl,l,as,pss,rfl,sm.seq hl,sm.tps ht,by omega,fun S hS=>?_⟩;have sS:Same H (upd H3 S (SetN S (dd pss).length)):=sm.then (sm.free hS);refine⟨S,_,rfl,upd_same,_,rfl,l,_,rfl,.inl (sS.seq hl),_,_,rfl,rfl,_,rfl,?_⟩;rw[Ab,hla];refine ite2 (fun h2=>?_) (fun h2=>?_)
     ·have h2':(dd pss).length<pss.length:=by have:=of_decide_eq_true h2; omega
      have:=k _ sS;rw[show webM pss=false from by unfold webM; rw[decide_eq_true h2']; simp] at this;exact this
     ·have h2':¬ (dd pss).length<pss.length:=fun z=>h2 (decide_eq_true (by omega))
      refine⟨_,rfl,l,as,pss,rfl,sS.seq hl,sS.tps ht,fun ps hps=>?_,AG h20 (by decide),h64 hp,fun D2 H4 qs ⟨sm4,_,hD4,_,hperm,_⟩=>?_⟩
      ·have:=List.all_eq_true.mp hp ps hps
       unfold zag at this;simp only[AY,decide_eq_true_eq] at this;exact this.1.1.1.2
      ·refine⟨D2,_,rfl,.inl (SqL.of hD4),_,_,rfl,rfl,?_⟩
       have hlen:(qs.map fun q=>V.ref q.2).length=(dd (pss.flatMap parts)).length:=by
        rw[Ab,<- hperm.length_eq,Ab]
       rw[hlen];have:=k H4 (sS.trans sm4);have e:webM pss=decide (((dd (pss.flatMap parts)).length:Int)<=200):=by
        unfold webM;rw[hp,decide_eq_true h20,decide_eq_false h2']
        by_cases q:(dd (pss.flatMap parts)).length<=200
        ·rw[decide_eq_true q,decide_eq_true (show ((dd (pss.flatMap parts)).length:Int)<=200 by omega)]; rfl
        ·rw[decide_eq_false q,decide_eq_false (show ¬ ((dd (pss.flatMap parts)).length:Int)<=200 by omega)]; rfl
       rw[e] at this;exact this
end
end K48
end
section
namespace K48
open K1
open PySem L2 STb
abbrev ze5:Stmt:=top 37
abbrev sBox:Stmt:=top 38
abbrev zdV:Stmt:=top 39
def zmL (x y:Int):Prop:=0<=x/\(y=0 \/ (y=1/\x<4294967296))
def zal (H:Hp) (p:Addr):Prop:=∃x y,H p=some (.lst [.int x,.int y])/\zmL x y
def zaa (p:Addr) (H H':Hp):Prop:=∀b o,b≠p->H b=some o->H' b=some o
theorem zaa.trans {p:Addr}{H H1 H2:Hp} (a:zaa p H H1) (b:zaa p H1 H2):zaa p H H2:=fun c o hc e=>b c o hc (a c o hc e)
theorem zaa.of {p:Addr}{H H1:Hp} (a:Same H H1):zaa p H H1:=fun c o _ e=>a c o e
theorem zaa.free {p:Addr}{H H':Hp} (e:zaa p H H') (hb:zal H p) (hb':zal H' p) {l:Addr} (h:H' l=none):H l=none:=by
 cases q:H l with
 | none=>rfl
 | some o=>
  obtain⟨x,y,e1,_⟩:=hb';have hl:l≠p:=fun z=>by rw[z,e1] at h; cases h
  rw[e l o hl q] at h;cases h
theorem zal.same {H H':Hp}{p:Addr} (b:zal H p) (e:Same H H'):zal H' p:=let ⟨x,y,h,o⟩:=b; ⟨x,y,e _ _ h,o⟩
theorem zal.ne {H:Hp}{p l:Addr}{as:List Addr} (b:zal H p) (h:H l=some (.lst (as.map V.ref))):l≠p:=by
 obtain⟨x,y,e,_⟩:=b;refine zbz h e fun z=>?_;injection z with z
 cases as with
 | nil=>cases z
 | cons a r=>rw[Av] at z; cases z
theorem zal.net {H:Hp}{p t:Addr}{xs:List V} (b:zal H p) (h:H t=some (.tup xs)):t≠p:=by
 obtain⟨x,y,e,_⟩:=b;exact zbz h e (by intro z; cases z)
theorem zaa.tp {p:Addr}{H H':Hp}{a:Addr}{ps:List Int} (e:zaa p H H') (b:zal H p) (h:Tp H a ps):Tp H' a ps:=e _ _ (b.net h) h
theorem zaa.tps {p:Addr}{H H':Hp}{as:List Addr}{pss:List (List Int)} (e:zaa p H H') (b:zal H p) (h:Tps H as pss):Tps H' as pss:=Paired.mapP h fun _ _ q=>e.tp b q
theorem zaa.then {p:Addr}{H H1:Hp}{a:Addr}{o:HO} (e:zaa p H H1) (h:H a=none):zaa p H (L2.upd H1 a o):=fun b u hb q=>by rw[zk (zj q h)]; exact e b u hb q
theorem zal.upd {H:Hp}{p l:Addr}{o:HO} (b:zal H p) (h:l≠p):zal (L2.upd H l o) p:=let ⟨x,y,e,k⟩:=b; ⟨x,y,by rw[zk h.symm]; exact e,k⟩
theorem zal.new {H:Hp}{p l:Addr}{o:HO} (b:zal H p) (h:H l=none):zal (L2.upd H l o) p:=b.same (Same.new h)
section
variable {P:Program}{w:World}{K:Ad}{mg:Str->Option Value}{base:Heap}
def zki (K:Ad):Sp:=fun vs H Q _=>∃(l:Addr) (ns:List Int),vs=[.ref l,.int 0]/\SqL K H l (ns.map V.int)/\∀n,Q (.int n) H
theorem zlR:zu ["script","k"] ["script","k"] (zh ze5):=⟨rfl,rfl,rfl,by decide +kernel,rfl,by decide +kernel,by decide +kernel⟩
theorem zkr {f:Addr}{fd:FuncData} (F:Fun K "_law_cell_at" "_law_cell_at" ze5 f fd) (B:Bt mg):FnOk P w K mg base CX0 1 f fd ["script","k"] (zki K):=by
 refine F.ok zlR (fun vs H Q E h=>?_) (fun cdv A outer s H vs Q E hr h=>?_)
 ·obtain⟨l,ns,rfl,_⟩:=h; rfl
 ·obtain⟨l,ns,rfl,hl,k⟩:=h
  refine⟨_,zf (zaf (zy zjg (pv 1) (zv zo rfl B.len zaI (ze (pv 0) zg)) (nomark _)) (zi (zt (zR zab (pv 0) (pv 1) (fun _ _=>rfl)))) zA) (zi (zt zl)),?_⟩;refine⟨_,rfl,_,rfl,l,_,rfl,.inl hl,_,_,rfl,rfl,_,rfl,?_⟩;refine ite2 (fun h1=>?_) (fun h1=>?_)
  ·cases ns with
   | nil=>have:=of_decide_eq_true h1; simp at this
   | cons n ns=>exact⟨_,rfl,_,rfl,l,_,_,_,rfl,rfl,hl,zC (j:=0) rfl,k n⟩
  ·exact k 0
def zmT:Sp:=fun vs H Q _=>∃n,vs=[.int n]/\∀p x y,H p=none->zmL x y->Q (.ref p) (upd H p (.lst [.int x,.int y]))
theorem zm5:zu ["cell"] ["cell"] (zh sBox):=⟨rfl,rfl,rfl,by decide +kernel,rfl,by decide +kernel,by decide +kernel⟩
theorem zlL {f:Addr}{fd:FuncData} (F:Fun K "_law_box" "_law_box" sBox f fd):FnOk P w K mg base CX0 1 f fd ["cell"] zmT:=by
 refine F.ok zm5 (fun vs H Q E h=>?_) (fun cdv A outer s H vs Q E hr h=>?_)
 ·obtain⟨n,rfl,_⟩:=h; rfl
 ·obtain⟨n,rfl,k⟩:=h
  refine⟨_,zf (zaf (zy znh (pv 0) (zH zik zl zl) (nomark _)) (zi (zt (zY (ze (zH zj4 (pv 0) (zH zik zl zl)) (ze zl zg))))) zA)
   (zi (zt (zY (ze (zH zbW (zH zat (zH za1 (zH zbW (pv 0) (zH zik zl zl)) zl) zl) zl) (ze zl zg))))),?_⟩
  have hc:CPow 10 18:=⟨by decide,by decide,by decide⟩;have e18:(10:Int) ^ (18:Int).toNat=1000000000000000000:=by decide
  refine⟨_,rfl,_,_,rfl,rfl,hc,_,_,rfl,rfl,_,rfl,?_⟩;refine ite2 (fun h1=>?_) (fun h1=>?_)
  ·refine⟨_,rfl,_,_,rfl,rfl,hc,_,_,rfl,rfl,line_big (by simp),fun p hp=>k p _ 0 hp ⟨?_,.inl rfl⟩⟩
   have:=of_decide_eq_true h1;omega
  ·refine⟨_,rfl,_,_,rfl,rfl,hc,_,_,rfl,rfl,(by show (0:Int)<10 ^ (18:Int).toNat; rw[e18]; decide),_,_,rfl,rfl,.inr ⟨by decide,by decide⟩,_,_,rfl,rfl,_,_,rfl,rfl,(by show (0:Int)<2147483629; decide),line_big (by simp),fun p hp=>k p _ 1 hp ⟨?_,.inr ⟨rfl,?_⟩⟩⟩
   ·exact Int.emod_nonneg _ (by decide)
   ·have:=Int.emod_lt_of_pos (n % 10 ^ (18:Int).toNat*69621+7001) (show (0:Int)<2147483629 by decide)
    omega
def zf1:Sp:=fun vs H Q _=>∃p m,vs=[.ref p,.int m]/\zal H p/\0<m/\m<1073741824/\∀r H',0<=r->r<m->zaa p H H'->zal H' p->Q (.int r) H'
theorem zhI:zu ["box","most","found","mixed"] ["box","most"] (zh zdV):=⟨rfl,rfl,rfl,by decide +kernel,rfl,by decide +kernel,by decide +kernel⟩
theorem ze7 {f:Addr}{fd:FuncData} (F:Fun K "_law_take" "_law_take" zdV f fd):FnOk P w K mg base CX0 1 f fd ["box","most"] zf1:=by
 refine F.ok zhI (fun vs H Q E h=>?_) (fun cdv A outer s H vs Q E hr h=>?_)
 ·obtain⟨p,m,rfl,_⟩:=h; rfl
 ·obtain⟨p,m,rfl,⟨x,y,hp,h0,hxy⟩,hm0,hm,k⟩:=h
  refine⟨_,zf (zaf (zy ziA (zR zab (pv 0) zl (fun _ _=>rfl)) zl (nomark _))
    (zf (zq (i:=2) zhI.nd rfl (Or.inl rfl) (zH zbW (zR zab (pv 0) zl (fun _ _=>rfl)) (pv 1)))
    (zf (zj0 (zH zig (zR zab (pv 0) zl (fun _ _=>rfl)) (pv 1)) (zkp (pv 0) zl set_list))
    (zi (zt (pv 2))))) zA)
   (zf (zq (i:=3) zhI.nd rfl (Or.inl rfl) (zH zbW (zH zat (zH zat (zH za1 (zR zab (pv 0) zl (fun _ _=>rfl)) (zR zab (pv 0) zl (fun _ _=>rfl))) (zH za1 zl (zR zab (pv 0) zl (fun _ _=>rfl)))) zl) zl))
   (zf (zj0 (zH zbW (zH zat (zH zat (zH za1 (pv 3) (pv 3)) (zH za1 zl (pv 3))) zl) zl) (zkp (pv 0) zl set_list))
   (zi (zt (zH zbW (zH zig (zR zab (pv 0) zl (fun _ _=>rfl)) zl) (pv 1)))))),?_⟩
  have a0:atI ([.int x,.int y]:List V) 0=some (.int x):=zC (j:=0) rfl;have a1:atI ([.int x,.int y]:List V) 1=some (.int y):=zC (j:=1) rfl;refine⟨_,rfl,p,_,_,_,rfl,rfl,SqL.of hp,a1,rfl,_,rfl,?_⟩;refine ite2 (fun h1=>?_) (fun h1=>?_)
  ·refine⟨_,rfl,p,_,_,_,rfl,rfl,SqL.of hp,a0,_,rfl,_,_,rfl,rfl,hm0,?_⟩
   refine⟨_,rfl,p,_,_,_,rfl,rfl,SqL.of hp,a0,_,rfl,_,_,rfl,rfl,⟨hm0,hm⟩,_,rfl,p,_,_,0,rfl,rfl,hp,rfl,?_⟩;refine⟨_,rfl,k (x % m) _ (Int.emod_nonneg _ (by omega)) (Int.emod_lt_of_pos _ hm0) (fun b o hb e=>by rw[zk hb]; exact e) ⟨x / m,y,upd_same,Int.ediv_nonneg h0 (by omega),?_⟩⟩;rcases hxy with q | ⟨q,hx⟩
   ·exact .inl q
   ·refine .inr ⟨q,Int.lt_of_le_of_lt (Int.ediv_le_self _ h0) hx⟩
  ·have hy:y=1/\x<4294967296:=by
    rcases hxy with q | q
    ·exact absurd (by subst q; rfl) h1
    ·exact q
   obtain⟨rfl,hx⟩:=hy;have hb:CMul x x:=.inl ⟨by omega,by omega⟩;refine⟨_,rfl,p,_,_,_,rfl,rfl,SqL.of hp,a0,_,rfl,p,_,_,_,rfl,rfl,SqL.of hp,a0,_,_,rfl,rfl,hb,_,rfl,p,_,_,_,rfl,rfl,SqL.of hp,a0,_,_,rfl,rfl,.inl ⟨by decide,by decide⟩,_,_,rfl,rfl,_,_,rfl,rfl,_,_,rfl,rfl,(by show (0:Int)<2147483647; decide),?_⟩;have m0:=Int.emod_nonneg (x*x+39373*x+12345) (show (2147483647:Int)≠0 by decide);have m1:=Int.emod_lt_of_pos (x*x+39373*x+12345) (show (0:Int)<2147483647 by decide);obtain⟨z,ez⟩:∃z,z=(x*x+39373*x+12345) % 2147483647:=⟨_,rfl⟩;rw[<- ez] at m0 m1;show tSeq _ _ _ ([some (.ref p),some (.int m),none,some (.int ((x*x+39373*x+12345) % 2147483647))]:St) H;rw[<- ez];refine⟨_,rfl,_,rfl,_,_,rfl,rfl,.inl ⟨by omega,by omega⟩,_,rfl,_,_,rfl,rfl,.inl ⟨by decide,by decide⟩,_,_,rfl,rfl,_,_,rfl,rfl,_,_,rfl,rfl,(by show (0:Int)<2147483587; decide),_,rfl,p,_,_,0,rfl,rfl,hp,rfl,?_⟩;have g0:=Int.emod_nonneg (z*z+16807*z+7) (show (2147483587:Int)≠0 by decide);have g1:=Int.emod_lt_of_pos (z*z+16807*z+7) (show (0:Int)<2147483587 by decide);obtain⟨u,eu⟩:∃u,u=(z*z+16807*z+7) % 2147483587:=⟨_,rfl⟩;rw[<- eu] at g0 g1;have hpu:upd H p (.lst [.int ((z*z+16807*z+7) % 2147483587),.int 1]) p=some (.lst [.int u,.int 1]):=by rw[eu]; exact upd_same
   refine⟨_,rfl,p,_,_,_,rfl,rfl,SqL.of hpu,zC (j:=0) rfl,_,_,rfl,rfl,⟨by decide,by decide⟩,_,rfl,_,_,rfl,rfl,hm0,?_⟩;exact k _ _ (Int.emod_nonneg _ (by omega)) (Int.emod_lt_of_pos _ hm0) (fun b o hb e=>by rw[zk hb]; exact e) ⟨u,1,hpu,g0,.inr ⟨rfl,by omega⟩⟩
end
end K48
end
section
namespace K48
open K1
open PySem L2 STb
abbrev zbd:Stmt:=top 40
abbrev zaV:Stmt:=top 41
section
variable {P:Program}{w:World}{K:Ad}{mg:Str->Option Value}{base:Heap}
theorem zeM {H2:Hp}{as:List Addr}{fs:List (List Int)}{D l:Addr}{Q:VK} (hl:H2 l=some (.lst (as.map V.ref))) (ht:Tps H2 as fs) (hz:as.length<=100) (hD:H2 D=none)
  (k:∀bs H3,Same H2 H3->H3 D=some (.lst (bs.map V.ref))->Tps H3 bs (fs.filter fun q=>!decide (q=[]))->Q (.ref D) H3) :
  zaj (Itl K l) (zX 0) (zdg (tOp (rEqT true K) (tVar 0) (tTup tNil))) (tVar 0) [none] H2 D Q:=by
 have hla:=ht.length;refine zL (xs:=as.map V.ref) (fun j σ ys H3=>∃bs v,σ=[v]/\Same H2 H3/\H3 D=some (.lst ys)/\ys=bs.map V.ref/\Tps H3 bs ((fs.take j).filter fun q=>!decide (q=[]))) ?_ ?_ ?_ ?_
 ·exact⟨[],none,rfl,Same.new hD,upd_same,rfl,.nil⟩
 ·rintro j σ ys H3 ⟨bs,v,rfl,sm,hD3,rfl,hb⟩
  exact SqL.of (sm _ _ hl)
 ·rintro j σ ys H3 x hx hj hy ⟨bs,v,rfl,sm,hD3,rfl,hb⟩
  obtain⟨a,ea,rfl⟩:=zE hx;obtain⟨f,ef,hf⟩:=ht.get ea;refine⟨_,rfl,line_big (by simp),fun t htn=>?_⟩;have hf3:=sm.tp hf;have s1:Same H3 (upd H3 t (.tup [])):=Same.new htn;refine .inl ⟨a,t,f,[],rfl,rfl,s1.tp hf3,upd_same,_,rfl,?_⟩;have sm1:=sm.trans s1;have keep:∀(o:HO) c xs,upd H3 t (.tup []) c=some (.tup xs)->upd (upd H3 t (.tup [])) D o c=some (.tup xs):=fun o c xs e=>by
   rw[zk (zbz e (s1 _ _ hD3) (by intro z; cases z))]; exact e
  by_cases h:f=[]
  ·subst h
   refine iteF (cskip hj hy ⟨bs,_,rfl,sm1,s1 _ _ hD3,rfl,?_⟩);rw[AH ef,A8]
   simpa using s1.tps hb
  ·rw[if_pos rfl,show (!decide (f=[]))=true by simp[h]]
   refine iteT ⟨_,rfl,cput (ys:=bs.map V.ref) (by rw[Ab]; exact line_big (by omega)) hj hy (s1 _ _ hD3) ⟨bs++[a],_,rfl,sm1.then hD,upd_same,by rw[Ag]; rfl,?_⟩⟩;rw[AH ef,A8,show [f].filter (fun q=>!decide (q=[]))=[f] by simp[h]];exact Tps.snoc (Paired.mapP (s1.tps hb) fun c xs e=>keep _ c _ e) (keep _ a _ (s1.tp hf3))
 ·rintro σ ys H3 ⟨bs,v,rfl,sm,hD3,rfl,hb⟩
  rw[Ab,hla,take_all] at hb;exact k bs H3 sm hD3 hb
theorem zcp:zu ["piece","found","point"] ["piece"] (zh zbd):=⟨rfl,rfl,rfl,by decide +kernel,rfl,by decide +kernel,by decide +kernel⟩
theorem zg1 {f:Addr}{fd:FuncData} (F:Fun K "_law_parts" "_law_parts" zbd f fd):FnOk P w K mg base CX0 1 f fd ["piece"] zdB:=by
 refine F.ok zcp (fun vs H Q E h=>?_) (fun cdv A outer s H vs Q E hr h=>?_)
 ·obtain⟨a,ps,rfl,_⟩:=h; rfl
 ·obtain⟨a,ps,rfl,ha,h5,k⟩:=h
  have hu64:=hr.units;refine⟨_,zf (zq (i:=1) zcp.nd rfl (Or.inl rfl) (zY (ze (zak zg) zg)))
   (zf (zM AF rfl (zcb (pv 0)) (zm (i:=2) zcp.nd rfl (Or.inr rfl))
    (zi (zq (i:=1) zcp.nd rfl (Or.inl rfl) (zH zcR (pv 1) (zx ["piece","found","point"] ["part","point"] [none,some 2] (zw (pv 1)) (fun cl C s₀ H₀ ex=>zm (i:=0) (ndN ["part","point"]) rfl (Or.inl rfl)) (fun cl C s₀ H₀ ex=>zN)
     (fun cl C s₀ H₀ ex=>zH zdj (pv 0) (zak (ze (pv 1) zg))) (hfr:=frOf (zh zbd) (by decide +kernel)))))))
   (zi (zt (zx ["piece","found","point"] ["part"] [none] (zw (pv 1)) (fun cl C s₀ H₀ ex=>zm (i:=0) (ndN ["part"]) rfl (Or.inl rfl)) (fun cl C s₀ H₀ ex=>zbB (zy (zh7 hu64) (pv 0) (zak zg) (nomark _)))
     (fun cl C s₀ H₀ ex=>pv 0) (hfr:=nofr (by decide +kernel)) (tc:=zdg (tOp (rEqT true K) (tVar 0) (tTup tNil))))))),?_⟩
  refine⟨line_big (by simp),fun e he=>⟨line_big (by simp),fun l hl=>?_⟩⟩;have s1:Same H (upd (upd H e (.tup [])) l (.lst [.ref e])):=(Same.new he).then ((Same.new he).free hl);have hle:e≠l:=zj (H:=upd H e (.tup [])) upd_same hl;refine⟨_,rfl,a,rfl,⟨_,SqT.of (s1 _ _ ha)⟩,zcH (K:=K) (a:=a) (xs:=ps.map V.int) (fun i σ H2=>∃l as v,σ=[some (.ref a),some (.ref l),v]/\Same H H2/\H l=none/\H2 l=some (.lst (as.map V.ref))/\Tps H2 as (subs (ps.take i)))
   ⟨l,[e],none,rfl,s1,(Same.new he).free hl,upd_same,.cons (by show upd _ _ _ e=_; rw[zk hle]; exact upd_same) .nil⟩ (fun i σ H2 _ ⟨_,_,_,_,sm,_⟩=>SqT.of (sm _ _ ha)) ?_ ?_⟩
  ·rintro i x σ H2 hx ⟨l,as,v,rfl,sm,hl0,hl,ht⟩
   obtain⟨q,eq,rfl⟩:=zd0 hx;have hi:i<ps.length:=(List.getElem?_eq_some_iff.mp eq).1;have hla:=ht.length;have hn:as.length<=32:=by
    rw[hla,zcj,AC];exact pow5 (by omega)
   have hm:∀f∈subs (ps.take i),f.length<=100:=fun f hf=>by
    have:=zcd _ f hf;rw[AC] at this;omega
   refine⟨_,rfl,_,rfl,l,rfl,⟨_,SqL.of hl⟩,fun D hD=>zG (zc3 hl ht (by omega) hm hD fun bs H3 sm3 hD3 hb=>?_)⟩;have hlb:=hb.length;rw[Ab] at hlb;refine⟨l,D,_,_,rfl,rfl,sm3 _ _ hl,hD3,by rw[Ab,Ab]; exact line_big (by omega),fun l2 hl2=>?_⟩;have h02:H l2=none:=(sm.trans sm3).free hl2;refine⟨l2,as++bs,_,rfl,(sm.trans sm3).then h02,h02,by rw[upd_same,Ag],?_⟩;rw[AH eq,zcK];exact (Same.new hl2).tps ((sm3.tps ht).append hb)
  ·rintro σ H2 ⟨l,as,v,rfl,sm,hl0,hl,ht⟩
   rw[Ab,take_all] at ht;have hla:=ht.length;refine⟨_,rfl,l,rfl,⟨_,SqL.of hl⟩,fun D hD=>zG (zeM hl ht (by rw[hla,zcj]; have:=pow5 h5; omega) hD fun bs H3 sm3 hD3 hb=>?_)⟩;rw[zez] at hb;exact k D bs H3 (sm.trans sm3) (sm.free hD) hD3 hb
theorem zgu {H2:Hp}{bs:List Addr}{fs:List (List Int)}{D l:Addr}{Q:VK} (hl:H2 l=some (.lst (bs.map V.ref))) (ht:Tps H2 bs fs) (hz:bs.length<=1000) (hD:H2 D=none)
  (k:∀(cs:List Addr) H3,Same H2 H3->H3 D=some (.lst (cs.map V.ref))->cs.length=bs.length->(∀(i:Nat) c,cs[i]?=some c->∃b f,bs[i]?=some b/\fs[i]?=some f/\H3 c=some (.tup [.int f.length,.ref b]))->Q (.ref D) H3) :
  zaj (Itl K l) (zX 0) tYes (tTup (zW (tCB (fun xs H Q=>∃p ys,xs=[V.ref p]/\(SqL K H p ys \/ SqT K H p ys)/\Q (.int ys.length) H) (zW (tVar 0) tNil)) (zW (tVar 0) tNil))) [none] H2 D Q:=by
 have hla:=ht.length;refine zL (xs:=bs.map V.ref) (fun j σ ys H3=>∃(cs:List Addr) (v:Option V),σ=[v]/\Same H2 H3/\H3 D=some (.lst ys)/\ys=cs.map V.ref/\cs.length=j/\∀(i:Nat) c,cs[i]?=some c->∃b f,bs[i]?=some b/\fs[i]?=some f/\H3 c=some (.tup [.int f.length,.ref b])) ?_ ?_ ?_ ?_
 ·exact⟨[],none,rfl,Same.new hD,upd_same,rfl,rfl,fun i c e=>by simp at e⟩
 ·rintro j σ ys H3 ⟨cs,v,rfl,sm,hD3,rfl,hj,hc⟩
  exact SqL.of (sm _ _ hl)
 ·rintro j σ ys H3 x hx hj hy ⟨cs,v,rfl,sm,hD3,rfl,hcl,hc⟩
  obtain⟨b,eb,rfl⟩:=zE hx;obtain⟨f,ef,hf⟩:=ht.get eb;refine gyes ?_;refine⟨_,rfl,b,_,rfl,.inr (SqT.of (sm.tp hf)),_,rfl,line_big (by simp),fun t htn=>?_⟩;rw[show (f.map V.int).length=f.length from Ab _];have s1:Same H3 (upd H3 t (.tup [.int f.length,.ref b])):=Same.new htn;have keep:∀(o:HO) c xs,upd H3 t (.tup [.int f.length,.ref b]) c=some (.tup xs)->upd (upd H3 t (.tup [.int f.length,.ref b])) D o c=some (.tup xs):=fun o c xs e=>by
   rw[zk (zbz e (s1 _ _ hD3) (by intro z; cases z))]; exact e
  refine cput (ys:=cs.map V.ref) (by rw[Ab]; exact line_big (by omega)) hj hy (s1 _ _ hD3) ⟨cs++[t],_,rfl,(sm.trans s1).then hD,upd_same,by rw[Ag]; rfl,by rw[Ah,hcl]; rfl,fun i c e=>?_⟩
  by_cases hi:i<cs.length
  ·rw[List.getElem?_append_left hi] at e
   obtain⟨b',f',e1,e2,e3⟩:=hc i c e;exact⟨b',f',e1,e2,keep _ c _ (s1 _ _ e3)⟩
  ·rw[List.getElem?_append_right (by omega)] at e
   have h0:i - cs.length=0:=by
    rcases Nat.eq_zero_or_pos (i - cs.length) with z | z
    ·exact z
    ·rw[List.getElem?_eq_none (by simp only[Aw,List.length_nil]; omega)] at e; cases e
   rw[h0] at e;obtain rfl:t=c:=by simpa using e
   have:i=j:=by omega
   subst this;exact⟨b,f,eb,ef,keep _ t _ upd_same⟩
 ·rintro σ ys H3 ⟨cs,v,rfl,sm,hD3,rfl,hcl,hc⟩
  rw[Ab] at hcl;exact k cs H3 sm hD3 hcl hc
def zeA (H:Hp) (c:Addr):Addr:=match H c with
 | some (.tup [_,.ref b])=>b
 | _=>0
theorem zie {H2:Hp}{cs:List Addr}{D l:Addr}{Q:VK} (hl:H2 l=some (.lst (cs.map V.ref))) (ht:∀c∈cs,∃n b,H2 c=some (.tup [.int n,.ref b])) (hz:cs.length<=1000) (hD:H2 D=none)
  (k:∀H3,Same H2 H3->H3 D=some (.lst (cs.map fun c=>V.ref (zeA H2 c)))->Q (.ref D) H3) :
  zaj (Itl K l) (zX 0) tYes (tOp (rIxT K) (tVar 0) (tC (.int 1))) [none] H2 D Q:=by
 refine zL (xs:=cs.map V.ref) (fun j σ ys H3=>∃v,σ=[v]/\Same H2 H3/\H3 D=some (.lst ys)/\ys=(cs.take j).map fun c=>V.ref (zeA H2 c)) ?_ ?_ ?_ ?_
 ·exact⟨none,rfl,Same.new hD,upd_same,rfl⟩
 ·rintro j σ ys H3 ⟨v,rfl,sm,hD3,rfl⟩
  exact SqL.of (sm _ _ hl)
 ·rintro j σ ys H3 x hx hj hy ⟨v,rfl,sm,hD3,rfl⟩
  obtain⟨c,ec,rfl⟩:=zE hx;obtain⟨n,b,e⟩:=ht c (Ak ec);refine gyes ?_;refine⟨_,rfl,c,_,_,_,rfl,rfl,SqT.of (sm _ _ e),zC (j:=1) rfl,cput (by rw[Ab]; exact line_big (by omega)) hj hy hD3 ⟨_,rfl,sm.then hD,upd_same,?_⟩⟩;rw[AH ec,Ag];have:zeA H2 c=b:=by unfold zeA; rw[e]
  rw[<- this]; rfl
 ·rintro σ ys H3 ⟨v,rfl,sm,hD3,rfl⟩
  rw[Ab,take_all] at hD3;exact k H3 sm hD3
theorem za3:zu ["web","found","piece","part","ranked"] ["web"] (zh zaV):=⟨rfl,rfl,rfl,by decide +kernel,rfl,by decide +kernel,by decide +kernel⟩
theorem zgk {f fp:Addr}{fd fdp:FuncData} (F:Fun K "_law_pieces" "_law_pieces" zaV f fd) (B:Bt mg)
  (Fp:Fun K "_law_parts" "_law_parts" zbd fp fdp) (bp:Binds K fdp ["piece"] []) (mp:mg "_law_parts"=some (.ref fp)):FnOk P w K mg base CX0 2 f fd ["web"] (zg0 K):=by
 have Gp:FnOk P w K mg base CX0 1 fp fdp ["piece"] zdB:=zg1 Fp;refine F.ok za3 (fun vs H Q E h=>?_) (fun cdv A outer s H vs Q E hr h=>?_)
 ·obtain⟨l,as,pss,rfl,_⟩:=h; rfl
 ·obtain⟨l,as,pss,rfl,hl,ht,h5,h20,h64,k⟩:=h
  have hu:=zbo hr;have hu64:=hr.units;refine⟨_,zf (zq (i:=1) za3.nd rfl (Or.inl rfl) zP)
   (zf (zM AF rfl (zw (pv 0)) (zm (i:=2) za3.nd rfl (Or.inl rfl))
    (zi (zM AF rfl (zw (zn Gp hr rfl mp Fp.kp bp .nil pass0 (ze (pv 2) zg))) (zm (i:=3) za3.nd rfl (Or.inl rfl))
     (zi (zQ hu (pv 1) (pv 3) zbf rfl)))))
   (zf (zq (i:=4) za3.nd rfl (Or.inl rfl) (zv (zcF hu64) rfl B.sorted zdf (ze
    (zx ["web","found","piece","part","ranked"] ["piece"] [none] (zw (zB (za6 rfl) rfl B.list zaK (ze (pv 1) zg))) (fun cl C s₀ H₀ ex=>zm (i:=0) (ndN ["piece"]) rfl (Or.inl rfl)) (fun cl C s₀ H₀ ex=>zN)
     (fun cl C s₀ H₀ ex=>zak (ze (zv zo rfl B.len zaI (ze (pv 0) zg)) (ze (pv 0) zg))) (hfr:=nofr (by decide +kernel)) (te:=tTup (zW (tCB (fun xs H Q=>∃p ys,xs=[V.ref p]/\(SqL K H p ys \/ SqT K H p ys)/\Q (.int ys.length) H) (zW (tVar 0) tNil)) (zW (tVar 0) tNil)))) zg)))
   (zi (zt (zx ["web","found","piece","part","ranked"] ["one"] [none] (zw (pv 4)) (fun cl C s₀ H₀ ex=>zm (i:=0) (ndN ["one"]) rfl (Or.inl rfl)) (fun cl C s₀ H₀ ex=>zN)
     (fun cl C s₀ H₀ ex=>zR zZ (pv 0) zl (fun _ _=>rfl)) (hfr:=nofr (by decide +kernel)) (te:=tOp (rIxT K) (tVar 0) (tC (.int 1)))))))),?_⟩
  intro d hd;have hla:=ht.length;refine⟨_,rfl,l,rfl,⟨_,(Same.new hd).seq hl⟩,zK (K:=K) (a:=l) (xs:=as.map V.ref) (fun i σ H2=>∃v v' u,σ=[some (.ref l),some (.ref d),v,v',u]/\Same H H2/\H2 d=some (.dT (kvM ((pss.take i).flatMap parts))))
   ⟨none,none,none,rfl,Same.new hd,upd_same⟩ (fun i σ H2 _ ⟨_,_,_,_,sm,_⟩=>sm.seq hl) ?_ ?_⟩
  ·rintro i x σ H2 hx ⟨v,v',u,rfl,sm,hd2⟩
   obtain⟨a,ea,rfl⟩:=zE hx;obtain⟨ps,eps,hps⟩:=ht.get ea;have hps5:=h5 ps (Ak eps);have hi:i<pss.length:=(List.getElem?_eq_some_iff.mp eps).1;refine⟨_,rfl,a,ps,rfl,sm.tp hps,hps5,fun D cs H3 sm3 hD0 hD hcs=>⟨D,rfl,⟨_,SqL.of hD⟩,?_⟩⟩;have hlc:=hcs.length;have hdD:D≠d:=zbz hD (sm3 _ _ hd2) (by intro z; cases z);refine zK (K:=K) (a:=D) (xs:=cs.map V.ref) (fun j σ H4=>∃v',σ=[some (.ref l),some (.ref d),some (.ref a),v',u]/\Same H H4/\H4 D=some (.lst (cs.map V.ref))/\Tps H4 cs (parts ps)/\H4 d=some (.dT (kvM ((pss.take i).flatMap parts++(parts ps).take j))))
    ⟨_,rfl,sm.trans sm3,hD,hcs,by rw[List.take_zero,List.append_nil]; exact sm3 _ _ hd2⟩ (fun j σ H4 _ ⟨_,_,_,q,_⟩=>SqL.of q) ?_ ?_
   ·rintro j x σ H4 hx ⟨v',rfl,sm4,hD4,hcs4,hd4⟩
    obtain⟨c,ec,rfl⟩:=zE hx;obtain⟨f,ef,hf⟩:=hcs4.get ec;have hlen:(kvM ((pss.take i).flatMap parts++(parts ps).take j)).length<sizeLine:=by
     refine zF (AG (zaY _) ?_);rw[Ah];have h1:=zfR (pss.take i) (fun q hq=>h5 q (List.mem_of_mem_take hq));have h2:=zaP ps;have h3:=pow5 hps5;rw[AC] at h1 ⊢;omega
    refine⟨_,rfl,_,rfl,d,_,rfl,DPut.t (k:=f.map Sum.inl) hd4 (by rw[Ap]; exact hf) hlen,⟨_,rfl,sm4.then hd,?_,?_,?_⟩⟩
    ·rw[zk hdD]; exact hD4
    ·exact Tps.upd hcs4 hd4 (by intro xs z; cases z)
    ·rw[upd_same,zaX,A4,<- AH ef]
   ·rintro σ H4 ⟨v',rfl,sm4,hD4,hcs4,hd4⟩
    refine⟨_,_,_,rfl,sm4,?_⟩;rw[Ab,hlc,take_all] at hd4;rw[zed eps];exact hd4
  ·rintro σ H2 ⟨v,v',u,rfl,sm,hd2⟩
   rw[Ab,hla,take_all] at hd2;refine⟨_,rfl,d,_,rfl,hd2,fun bs hb l2 hl2=>?_⟩;have tb:=zfw hb;have hlb:=tb.length;have hdl:(dd (pss.flatMap parts)).length<=1000:=by omega
   have s2:Same H2 (upd H2 l2 (.lst (bs.map V.ref))):=Same.new hl2;refine⟨l2,rfl,⟨_,SqL.of upd_same⟩,fun D hD=>zG (zgu (K:=K) upd_same (s2.tps tb) (by omega) hD fun cs H3 sm3 hD3 hcl hc=>?_)⟩;have tb3:=sm3.tps (s2.tps tb);refine⟨D,cs,(dd (pss.flatMap parts)).map fun f=>((f.length:Int)::f),rfl,SqL.of hD3,?_,(by rw[Ab]; exact h64),fun R qs hp hs hR=>?_⟩
   ·refine Paired.of_at (by rw[Ab]; omega) fun i c y e1 e2=>?_
    obtain⟨b,f,g1,g2,g3⟩:=hc i c e1;rw[Al,g2] at e2;obtain rfl:=Ao e2;exact⟨_,b,f,rfl,g3,za9 tb3 i b f g1 g2⟩
   ·have s4:Same H3 (upd H3 R (.lst (qs.map fun q=>V.ref q.2))):=Same.new hR
    have hq:∀q∈qs,∃b f,q.1=((f:List Int).length:Int)::f/\H3 q.2=some (.tup [.int f.length,.ref b])/\Tp H3 b f:=fun q hq=>by
     obtain⟨m,em⟩:=List.mem_iff_getElem?.mp (hp.mem_iff.mp hq);rw[Srt.zipget,Al] at em;cases e2:cs[m]? with
     | none=>rw[e2] at em; cases h:(dd (pss.flatMap parts))[m]? <;> rw[h] at em <;> cases em
     | some c=>
      obtain⟨b,f,g1,g2,g3⟩:=hc m c e2;rw[g2,e2] at em;obtain rfl:(((f.length:Int)::f),c)=q:=Ao em;exact⟨b,f,rfl,g3,za9 tb3 m b f g1 g2⟩
    have hql:qs.length<=1000:=by rw[hp.length_eq,List.length_zip,Ab]; omega
    refine⟨_,rfl,R,rfl,⟨_,SqL.of upd_same⟩,fun D2 hD2=>zG (zie (K:=K) (cs:=qs.map (·.2)) (by rw[upd_same,Ap]; rfl) (fun c hcm=>?_) (by rw[Ab]; omega) hD2 fun H5 sm5 hD5=>?_)⟩
    ·obtain⟨q,hqm,rfl⟩:=List.mem_map.mp hcm
     obtain⟨b,f,_,g2,_⟩:=hq q hqm;exact⟨_,b,s4 _ _ g2⟩
    ·have sAll:Same H H5:=((sm.trans s2).trans sm3).trans (s4.trans sm5)
     have snd:∀q∈qs,∀b f,H3 q.2=some (.tup [.int (f:List Int).length,.ref b])->zeA (upd H3 R (.lst (qs.map fun q=>V.ref q.2))) q.2=b:=fun q _ b f e=>by
      unfold zeA; rw[s4 _ _ e]
     refine k D2 H5 (qs.map fun q=>(q.1.tail,zeA (upd H3 R (.lst (qs.map fun q=>V.ref q.2))) q.2)) ⟨sAll,(((sm.trans s2).trans sm3).trans s4).free hD2,?_,fun q hqm=>?_,?_,?_⟩
     ·rw[hD5,Ap,Ap]; rfl
     ·obtain⟨q0,h0,rfl⟩:=List.mem_map.mp hqm
      obtain⟨b,f,g1,g2,g3⟩:=hq q0 h0;show Tp H5 (zeA _ q0.2) q0.1.tail;rw[snd q0 h0 b f g2,g1];exact sm5.tp (s4.tp g3)
     ·rw[Ap]
      have h1:=hp.map (fun q:List Int×Addr=>q.1.tail);have e:((((dd (pss.flatMap parts)).map fun f=>((f.length:Int)::f)).zip cs).map fun q:List Int×Addr=>q.1.tail)=dd (pss.flatMap parts):=by
       rw[show (fun q:List Int×Addr=>q.1.tail)=(fun l:List Int=>l.tail) ∘ Prod.fst from rfl,<- Ap,List.map_fst_zip (by rw[Ab]; omega),Ap];exact List.map_id' _
      rw[e] at h1;exact h1
     ·rw[List.pairwise_map]
      refine hs.imp_of_mem fun {p q} h1 h2 h3=>?_;obtain⟨_,f,g1,_⟩:=hq p h1;obtain⟨_,f',g1',_⟩:=hq q h2;rw[g1,g1'] at h3;rw[g1,g1'];exact h3
end
end K48
end
section
namespace K48
open K1
open PySem L2 STb
abbrev zcx:Stmt:=top 42
abbrev zcg:Stmt:=top 43
def texts:List Str:=(["","0","01 12 02","012 013 023 123","01 02 03","012 023 034 014","0123","01 23 45","012 34"]:List Str)++(["012 123 234 034 014","01 12 23 03 13","012 013 014","0 1 2 3"]:List Str)++(["01 12 02 34 45 35","023 234 1"]:List Str)
++(["014 015 023 025 034 123 124 135 245 345","012 013 024 034 125 135 245 345"]:List Str)++(["01234","0123 0124 0134 0234 1234"]:List Str)++(["013 123 234 024 014 145 125 025 056 016 126 267 027 037 345 356 367"]:List Str)
def wordsOf (n:Nat):List Str:=Txt.split (texts.getD n "") " "
def digits (x:Str):List Int:=x.cps.toList.map fun (c:Nat)=>((c:Int) - 48)
def known (n:Nat):List (List Int):=((wordsOf n).filter fun (x:Str)=>!decide (x="")).map digits
theorem zjA:∀n,n<20->(texts.getD n "").length+2<=1000/\(wordsOf n).length<=20/\∀x∈wordsOf n,x.cps.size<=5/\∀c∈x.cps.toList,48<=c/\c<=57:=by decide +kernel
theorem zlC:∀c,48<=c->c<=57->intText? ⟨#[c]⟩=some ((c:Int) - 48):=by
 intro c h1 h2;have:∀c,c<58->48<=c->intText? ⟨#[c]⟩=some ((c:Int) - 48):=by decide +kernel
 exact this c (by omega) h1
section
variable {P:Program}{w:World}{K:Ad}{mg:Str->Option Value}{base:Heap}
def zh9:Sp:=fun vs H Q _=>∃n:Nat,vs=[.int n]/\n<20/\∀D as H',Same H H'->H D=none->H' D=some (.lst (as.map V.ref))->Tps H' as (known n)->Q (.ref D) H'
theorem zby:zu ["number","some","web","word"] ["number"] (zh zcx):=⟨rfl,rfl,rfl,by decide +kernel,rfl,by decide +kernel,by decide +kernel⟩
theorem zgv {H2:Hp}{x:Str}{D:Addr}{Q:VK} (hx:x.cps.size<=5) (hc:∀c∈x.cps.toList,48<=c/\c<=57) (hD:H2 D=none)
  (k:∀H3,Same H2 H3->H3 D=some (.lst ((digits x).map V.int))->Q (.ref D) H3) :
  zaj (Its x) (zX 0) tYes (tCB (fun xs H Q=>∃x n,xs=[.str x]/\intText? x=some n/\x.length<=640/\Q (.int n) H) (zW (tVar 0) tNil)) [none] H2 D Q:=by
 refine ziQ (fun j σ ys H3=>∃v,σ=[v]/\Same H2 H3/\H3 D=some (.lst ys)/\ys=((digits x).take j).map V.int) ?_ ?_ ?_
 ·exact⟨none,rfl,Same.new hD,upd_same,rfl⟩
 ·rintro j σ ys H3 c ec hj hy ⟨v,rfl,sm,hD3,rfl⟩
  have ecl:x.cps.toList[j]?=some c:=by simpa using ec
  obtain⟨c1,c2⟩:=hc c (Ak ecl);refine gyes ?_;refine⟨_,rfl,⟨#[c]⟩,_,rfl,zlC c c1 c2,by show 1<=640; decide,cput (line_big (by omega)) hj hy hD3 ⟨_,rfl,sm.then hD,upd_same,?_⟩⟩;have e:(digits x)[j]?=some ((c:Int) - 48):=by unfold digits; rw[Al,ecl]; rfl
  rw[AH e,Ag]; rfl
 ·rintro σ ys H3 ⟨v,rfl,sm,hD3,rfl⟩
  rw[An (by unfold digits; simp)] at hD3;exact k H3 sm hD3
theorem zjt {f:Addr}{fd:FuncData} (F:Fun K "_law_known" "_law_known" zcx f fd) (B:Bt mg):FnOk P w K mg base CX0 1 f fd ["number"] zh9:=by
 refine F.ok zby (fun vs H Q E h=>?_) (fun cdv A outer s H vs Q E hr h=>?_)
 ·obtain⟨n,rfl,_⟩:=h; rfl
 ·obtain⟨n,rfl,hn,k⟩:=h
  refine⟨_,zf (zq (i:=1) zby.nd rfl (Or.inl rfl) (zY (ze zV (ze zV (ze zV (ze zV (ze zV (ze zV (ze zV (ze zV (ze zV zg)))))))))))
   (zf (zq (i:=1) zby.nd rfl (Or.inl rfl) (zH zcR (pv 1) (zY (ze zV (ze zV (ze zV (ze zV (ze zV (ze zV zg)))))))))
   (zf (zq (i:=1) zby.nd rfl (Or.inl rfl) (zH zcR (pv 1) (zY (ze zV (ze zV zg)))))
   (zf (zq (i:=1) zby.nd rfl (Or.inl rfl) (zH zcR (pv 1) (zY (ze zV (ze zV zg)))))
   (zf (zaz (zci AU PySem.F.slot_list_append PySem.F.type_list_append zaA (pv 1) (ze zV zg)))
   (zf (zq (i:=2) zby.nd rfl (Or.inl rfl) (zY zg))
   (zf (zM AF rfl (zw (zci PySem.F.plainAttrs_str PySem.F.slot_str_split PySem.F.type_str_split ziZ (zR zab (pv 1) (zH zbW (pv 0) zl) (fun _ _=>rfl)) (ze zV zg))) (zm (i:=3) zby.nd rfl (Or.inl rfl))
    (zi (zaf (zy zlb (pv 3) zV (nomark _))
     (zi (zaz (zci AU PySem.F.slot_list_append PySem.F.type_list_append zaA (pv 2) (ze (zB zaW rfl B.tuple zfn (ze
      (zx ["number","some","web","word"] ["sign"] [none] (zmf (pv 3)) (fun cl C s₀ H₀ ex=>zm (i:=0) (ndN ["sign"]) rfl (Or.inl rfl)) (fun cl C s₀ H₀ ex=>zN)
       (fun cl C s₀ H₀ ex=>zB zdm rfl B.int zng (ze (pv 0) zg)) (hfr:=nofr (by decide +kernel))) zg)) zg)))) zA)))
   (zi (zt (pv 2))))))))),?_⟩
  have t20:texts.length=20:=rfl;have hat:atI (texts.map V.str) ((n:Int) % 20)=some (.str (texts.getD n "")):=by
   rw[show (n:Int) % 20=(n:Int) by omega];refine zC ?_;have e:texts[n]?=some texts[n]:=Ai (by omega);rw[Al,List.getD_eq_getElem?_getD,e]; rfl
  obtain⟨g1,g2,g3⟩:=zjA n hn;refine⟨line_big (by simp),fun l1 h1=>?_⟩;have s1:=Same.new (H:=H) (o:=.lst [.str "",.str "0",.str "01 12 02",.str "012 013 023 123",.str "01 02 03",.str "012 023 034 014",.str "0123",.str "01 23 45",.str "012 34"]) h1;refine⟨_,rfl,line_big (by simp),fun m1 hm1=>⟨l1,m1,_,_,rfl,rfl,Same.new hm1 _ _ upd_same,upd_same,line_big (by simp),fun l3 h3=>?_⟩⟩;have s3:=(s1.trans (Same.new hm1)).trans (Same.new (o:=.lst ((texts.take 15).map V.str)) h3);refine⟨_,rfl,line_big (by simp),fun m3 hm3=>⟨l3,m3,_,_,rfl,rfl,Same.new hm3 _ _ upd_same,upd_same,line_big (by simp),fun l4 h4=>?_⟩⟩;have s4:=(s3.trans (Same.new hm3)).trans (Same.new (o:=.lst ((texts.take 17).map V.str)) h4);refine⟨_,rfl,line_big (by simp),fun m4 hm4=>⟨l4,m4,_,_,rfl,rfl,Same.new hm4 _ _ upd_same,upd_same,line_big (by simp),fun l5 h5=>?_⟩⟩;have s5:=(s4.trans (Same.new hm4)).trans (Same.new (o:=.lst ((texts.take 19).map V.str)) h5);have h50:H l5=none:=(s4.trans (Same.new hm4)).free h5;refine⟨_,rfl,.inl ⟨rfl,_,SqL.of upd_same⟩,l5,_,_,rfl,rfl,upd_same,zF (by simp),line_big (by simp),fun wl hwl=>?_⟩;generalize hH6:upd (upd _ l5 _) l5 _=H6 at hwl;have e6:H6 l5=some (.lst (texts.map V.str)):=by rw[<- hH6,upd_same]; rfl
  have s6:Same H H6:=by
   rw[<- hH6];exact s5.then h50
  have hw0:H wl=none:=s6.free hwl;have s7:Same H (upd H6 wl (.lst [])):=s6.then hw0;have e7:upd H6 wl (.lst []) l5=some (.lst (texts.map V.str)):=Same.new hwl _ _ e6;refine⟨_,rfl,_,rfl,_,_,rfl,rfl,(by show (0:Int)<20; decide),l5,_,_,_,rfl,rfl,SqL.of e7,hat,rfl,_,_,rfl,rfl,by decide,line_big (by omega),line_big (show (wordsOf n).length<=100000 by omega),fun D hD=>⟨D,rfl,⟨_,SqL.of upd_same⟩,?_⟩⟩;have hwD:wl≠D:=zj (H:=upd H6 wl (.lst [])) upd_same hD;have hD0:H D=none:=s7.free hD;refine zK (K:=K) (a:=D) (xs:=(wordsOf n).map V.str) (fun i σ H2=>∃as v,σ=[some (.int n),some (.ref l5),some (.ref wl),v]/\Same H H2/\H2 D=some (.lst ((wordsOf n).map V.str))/\H2 wl=some (.lst (as.map V.ref))/\Tps H2 as ((((wordsOf n).take i).filter fun (x:Str)=>!decide (x="")).map digits))
   ⟨[],none,rfl,s7.then hD0,upd_same,by rw[zk hwD]; exact upd_same,.nil⟩ (fun i σ H2 _ ⟨_,_,_,_,q,_⟩=>SqL.of q) ?_ ?_
  ·rintro i x σ H2 hx ⟨as,v,rfl,sm,hD2,hw2,ht⟩
   rw[Al] at hx;cases ex:(wordsOf n)[i]? with
   | none=>rw[ex] at hx; cases hx
   | some y=>
    rw[ex] at hx;obtain rfl:=Ao hx;have hi:i<(wordsOf n).length:=(List.getElem?_eq_some_iff.mp ex).1;obtain⟨y5,yc⟩:=g3 y (Ak ex);refine⟨_,rfl,rfl,_,rfl,?_⟩
    by_cases hy:y=""
    ·subst hy
     refine iteF ⟨as,_,rfl,sm,hD2,hw2,?_⟩;rw[AH ex,A8,Ag]
     simpa using ht
    ·rw[show (!decide (V.str y=V.str ""))=true from by simp[hy]]
     refine iteT ⟨_,rfl,.inl ⟨rfl,_,SqL.of hw2⟩,_,rfl,y,rfl,fun D2 hDn=>zG (zgv y5 yc hDn fun H3 sm3 hD3=>⟨D2,_,rfl,.inl ⟨SqL.of hD3,fun t htn=>?_⟩⟩)⟩;have s8:Same H2 (upd H3 t (.tup ((digits y).map V.int))):=sm3.trans (Same.new htn);have hla:=ht.length;have hl20:as.length<=20:=by
      rw[hla,Ab];exact AG (List.length_filter_le _ _) (by rw[AC]; omega)
     refine⟨wl,_,_,rfl,rfl,s8 _ _ hw2,zF (by rw[Ab]; omega),⟨as++[t],_,rfl,(sm.trans s8).then hw0,?_,by rw[upd_same,Ag]; rfl,?_⟩⟩
     ·rw[zk hwD.symm]; exact s8 _ _ hD2
     ·rw[AH ex,A8,Ag,show [y].filter (fun (x:Str)=>!decide (x=""))=[y] by simp[hy]]
      exact Tps.upd (Tps.snoc (s8.tps ht) upd_same) (s8 _ _ hw2) (by intro xs z; cases z)
  ·rintro σ H2 ⟨as,v,rfl,sm,hD2,hw2,ht⟩
   rw[Ab,take_all] at ht;exact⟨_,rfl,k wl as H2 sm hw0 hw2 ht⟩
def ren (first gap:Int) (ps:List Int):List Int:=ps.map fun x=>first+gap*x
def zg5:Sp:=fun vs H Q _=>∃p l as pss,vs=[.ref p,.ref l]/\zal H p/\H l=some (.lst (as.map V.ref))/\Tps H as pss/\pss.length<=20/\(∀ps∈pss,ps.length<=10)/\
 ∀D bs qss first gap H',zaa p H H'->zal H' p->H D=none->H' D=some (.lst (bs.map V.ref))->Tps H' bs qss->0<=first->first<12->1<=gap->gap<=3->qss.Perm (pss.map (ren first gap))->Q (.ref D) H'
theorem zcw:zu ["box","web","gap","first","found","piece"] ["box","web"] (zh zcg):=⟨rfl,rfl,rfl,by decide +kernel,rfl,by decide +kernel,by decide +kernel⟩
theorem ziU {H2:Hp}{a D:Addr}{ps:List Int}{first gap:Int}{Q:VK} (ha:Tp H2 a ps) (hz:ps.length<=10) (hg:1<=gap/\gap<=3) (hD:H2 D=none)
  (k:∀H3,Same H2 H3->H3 D=some (.lst ((ren first gap ps).map V.int))->Q (.ref D) H3) :
  zaj (Itt K a) (zX 0) tYes (tOp (rI0 fun i j=>.int (i+j)) (tVar 1) (tOp (rI CMul fun i j=>.int (i*j)) (tVar 2) (tVar 0))) [none,some (.int first),some (.int gap)] H2 D Q:=by
 refine zfY (xs:=ps.map V.int) (fun j σ ys H3=>∃v,σ=[v,some (.int first),some (.int gap)]/\Same H2 H3/\H3 D=some (.lst ys)/\ys=((ren first gap ps).take j).map V.int) ?_ ?_ ?_ ?_
 ·exact⟨none,rfl,Same.new hD,upd_same,rfl⟩
 ·rintro j σ ys H3 ⟨v,rfl,sm,hD3,rfl⟩
  exact SqT.of (sm.tp ha)
 ·rintro j σ ys H3 x hx hj hy ⟨v,rfl,sm,hD3,rfl⟩
  obtain⟨q,eq,rfl⟩:=zd0 hx;refine gyes ?_;refine⟨_,rfl,_,rfl,_,rfl,_,_,rfl,rfl,.inl ⟨by omega,by omega⟩,_,_,rfl,rfl,cput (by rw[Ab]; exact line_big (by omega)) hj hy hD3 ⟨_,rfl,sm.then hD,upd_same,?_⟩⟩;have e:(ren first gap ps)[j]?=some (first+gap*q):=by unfold ren; rw[Al,eq]; rfl
  rw[AH e,Ag]; rfl
 ·rintro σ ys H3 ⟨v,rfl,sm,hD3,rfl⟩
  rw[An (by unfold ren; simp)] at hD3;exact k H3 sm hD3
theorem zjI {f ft:Addr}{fd fdt:FuncData} (F:Fun K "_law_named" "_law_named" zcg f fd) (B:Bt mg) (Ft:Fun K "_law_take" "_law_take" zdV ft fdt) (bt:Binds K fdt ["box","most"] []) (mt:mg "_law_take"=some (.ref ft)) :
  FnOk P w K mg base CX0 2 f fd ["box","web"] zg5:=by
 have Gt:FnOk P w K mg base CX0 1 ft fdt ["box","most"] zf1:=ze7 Ft;refine F.ok zcw (fun vs H Q E h=>?_) (fun cdv A outer s H vs Q E hr h=>?_)
 ·obtain⟨p,l,as,pss,rfl,_⟩:=h; rfl
 ·obtain⟨p,l,as,pss,rfl,hb,hl,ht,h20,h10,k⟩:=h
  refine⟨_,zf (zq (i:=2) zcw.nd rfl (Or.inr rfl) (zH zat zl (zn Gt hr rfl mt Ft.kp bt .nil pass0 (ze (pv 0) (ze zl zg)))))
   (zf (zq (i:=3) zcw.nd rfl (Or.inr rfl) (zn Gt hr rfl mt Ft.kp bt .nil pass0 (ze (pv 0) (ze zl zg))))
   (zf (zq (i:=4) zcw.nd rfl (Or.inl rfl) (zY zg))
   (zf (zM AF rfl (zw (pv 1)) (zm (i:=5) zcw.nd rfl (Or.inl rfl))
    (zi (zaz (zci AU PySem.F.slot_list_insert PySem.F.type_list_insert zem (pv 4)
     (ze (zn Gt hr rfl mt Ft.kp bt .nil pass0 (ze (pv 0) (ze (zH zat (zv zo rfl B.len zaI (ze (pv 4) zg)) zl) zg)))
     (ze (zB zaW rfl B.tuple zfn (ze
      (zx ["box","web","gap","first","found","piece"] ["point","first","gap"] [none,some 3,some 2] (zcb (pv 5)) (fun cl C s₀ H₀ ex=>zm (i:=0) (ndN ["point","first","gap"]) rfl (Or.inl rfl)) (fun cl C s₀ H₀ ex=>zN)
       (fun cl C s₀ H₀ ex=>zH zat (pv 1) (zH za1 (pv 2) (pv 0))) (hfr:=frOf (zh zcg) (by decide +kernel))) zg)) zg))))))
   (zi (zt (pv 4)))))),?_⟩
  refine⟨_,rfl,p,3,rfl,hb,by decide,by decide,fun r1 H1 a1 a2 sb1 hb1=>⟨_,_,rfl,rfl,?_⟩⟩;refine⟨_,rfl,p,12,rfl,hb1,by decide,by decide,fun r2 H2 c1 c2 sb2 hb2=>⟨line_big (by simp),fun D hD=>?_⟩⟩;have sb12:=sb1.trans sb2;have hD0:H D=none:=sb12.free hb hb2 hD;have hlp:l≠p:=hb.ne hl;have hla:=ht.length;refine⟨_,rfl,l,rfl,⟨_,SqL.of ((sb12.then hD0) _ _ hlp hl)⟩,zK (K:=K) (a:=l) (xs:=as.map V.ref) (fun i σ H3=>∃bs qss v,σ=[some (.ref p),some (.ref l),some (.int (1+r1)),some (.int r2),some (.ref D),v]/\zaa p H H3/\zal H3 p/\H3 D=some (.lst (bs.map V.ref))/\Tps H3 bs qss/\qss.Perm ((pss.take i).map (ren r2 (1+r1))))
   ⟨[],[],none,rfl,sb12.then hD0,hb2.new hD,upd_same,.nil,List.Perm.nil⟩ (fun i σ H3 _ ⟨_,_,_,_,sb,_⟩=>SqL.of (sb _ _ hlp hl)) ?_ ?_⟩
  ·rintro i x σ H3 hx ⟨bs,qss,v,rfl,sb3,hb3,hD3,hq,hp⟩
   obtain⟨a,ea,rfl⟩:=zE hx;obtain⟨ps,eps,hps⟩:=ht.get ea;have hi:i<pss.length:=(List.getElem?_eq_some_iff.mp eps).1;have hlb:=hq.length;have hql:qss.length=i:=by rw[hp.length_eq,Ab,AC]; omega
   have hDp:D≠p:=hb3.ne hD3;refine⟨_,rfl,.inl ⟨rfl,_,SqL.of hD3⟩,_,rfl,_,rfl,D,_,rfl,.inl (SqL.of hD3),_,_,rfl,rfl,p,_,rfl,hb3,by rw[Ab]; omega,by rw[Ab]; omega,fun r H4 r0 r1' sb4 hb4=>?_⟩;rw[Ab] at r1';have hps4:Tp H4 a ps:=(sb3.trans sb4).tp hb hps;refine⟨_,rfl,a,rfl,⟨_,SqT.of hps4⟩,fun D2 hD2=>zG (ziU hps4 (h10 ps (Ak eps)) ⟨by omega,by omega⟩ hD2 fun H5 sm5 hD5=>⟨D2,_,rfl,.inl ⟨SqL.of hD5,fun t htn=>?_⟩⟩)⟩;have s6:Same H4 (upd H5 t (.tup ((ren r2 (1+r1) ps).map V.int))):=sm5.trans (Same.new htn);have hD4:=sb4 _ _ hDp hD3;have hD6:=s6 _ _ hD4;have hb6:=hb4.same s6;refine⟨D,_,r,_,rfl,rfl,hD6,r0,by rw[Ab]; omega,zF (by rw[Ab]; omega),⟨bs.take r.toNat++t::bs.drop r.toNat,qss.take r.toNat++ren r2 (1+r1) ps::qss.drop r.toNat,_,rfl,((sb3.trans sb4).trans (zaa.of s6)).then hD0,hb6.upd hDp,?_,?_,?_⟩⟩
   ·rw[upd_same,Ag,Av,List.map_take,List.map_drop]
   ·have tq:=s6.tps (sb4.tps hb3 hq)
    exact Tps.upd (Tps.append (tq.take _) (.cons upd_same (tq.drop _))) hD6 (by intro xs z; cases z)
   ·rw[AH eps,Ag]
    have h1:(qss.take r.toNat++ren r2 (1+r1) ps::qss.drop r.toNat).Perm (ren r2 (1+r1) ps::qss):=by
     have:=List.perm_middle (a:=ren r2 (1+r1) ps) (l₁:=qss.take r.toNat) (l₂:=qss.drop r.toNat)
     rwa [List.take_append_drop] at this
    exact h1.trans ((List.perm_append_singleton _ _).symm.trans (List.Perm.append_right _ hp))
  ·rintro σ H3 ⟨bs,qss,v,rfl,sb3,hb3,hD3,hq,hp⟩
   rw[Ab,hla,take_all] at hp;exact⟨_,rfl,k D bs qss r2 (1+r1) H3 sb3 hb3 hD0 hD3 hq c1 c2 (by omega) (by omega) hp⟩
end
end K48
end
section
namespace K48
open K1
open PySem L2 STb
abbrev sWeb:Stmt:=top 44
def kvI (seq:List Int):List (Key×V):=(dd seq).map fun n=>((Sum.inl n:Key),V.bl true)
theorem zkH (seq:List Int):(kvI seq).length<=seq.length:=by unfold kvI; rw[Ab]; exact zca seq
theorem zlr (seq:List Int) (n:Int):putK (kvI seq) (Sum.inl n) (.bl true)=kvI (seq++[n]):=by
 unfold putK kvI;rw[zcT];have ha:(((dd seq).map fun n=>((Sum.inl n:Key),V.bl true)).any fun kv=>decide (kv.1=Sum.inl n))=decide (n∈dd seq):=by
  rw[List.any_map]
  by_cases h:n∈dd seq
  ·rw[decide_eq_true h,List.any_eq_true]
   exact⟨n,h,by simp⟩
  ·rw[decide_eq_false h,List.any_eq_false]
   intro q hq;simp only[Function.comp,decide_eq_true_eq,Sum.inl.injEq];rintro rfl;exact h hq
 rw[ha]
 by_cases h:n∈dd seq
 ·rw[decide_eq_true h,if_pos rfl,if_pos h,Ap]
  refine A6 fun q hq=>?_;simp only[Function.comp];split <;> rfl
 ·rw[decide_eq_false h,if_neg (by simp),if_neg h,Ag]
  rfl
theorem zje (seq:List Int):((kvI seq).map fun kv=>kV kv.1)=(dd seq).map V.int:=by unfold kvI; rw[Ap]; rfl
theorem zjN {ms:List Int} (h1:ms.Pairwise (·<=·)) (h2:ms.Nodup):rises ms=true:=by
 rw[zdG];intro i a b ha hb;obtain⟨la,ea⟩:=List.getElem?_eq_some_iff.mp ha;obtain⟨lb,eb⟩:=List.getElem?_eq_some_iff.mp hb;have g1:=List.pairwise_iff_getElem.mp h1 i (i+1) la lb (by omega);have g2:=List.pairwise_iff_getElem.mp h2 i (i+1) la lb (by omega);rw[ea,eb] at g1 g2;omega
def Small (pss:List (List Int)):Prop:=pss.Nodup/\∀ps∈pss,ps≠[]/\ps.length<=4/\rises ps=true/\∀x∈ps,0<=x/\x<=5
def Base (b:List (List Int)):Prop:=(∃n,n<20/\b=known n) \/ (b.length<=5/\Small b)
def Drawn (qss:List (List Int)):Prop:=∃b first gap,Base b/\0<=first/\first<12/\1<=gap/\gap<=3/\qss.Perm (b.map (ren first gap))
theorem zfh:∀n,n<20->(known n).length<=20/\∀ps∈known n,ps≠[]/\ps.length<=5:=by decide +kernel
section
variable {P:Program}{w:World}{K:Ad}{mg:Str->Option Value}{base:Heap}
def zmp:Sp:=fun vs H Q _=>∃p,vs=[.ref p]/\zal H p/\∀D bs qss H',zaa p H H'->zal H' p->H D=none->H' D=some (.lst (bs.map V.ref))->Tps H' bs qss->Drawn qss->Q (.ref D) H'
theorem zgG:zu ["box","found","k","some","j","piece"] ["box"] (zh sWeb):=⟨rfl,rfl,rfl,by decide +kernel,rfl,by decide +kernel,by decide +kernel⟩
theorem zmQ {f ft fn fk:Addr}{fd fdt fdn fdk:FuncData} (F:Fun K "_law_web" "_law_web" sWeb f fd) (B:Bt mg) (Ft:Fun K "_law_take" "_law_take" zdV ft fdt) (bt:Binds K fdt ["box","most"] []) (mt:mg "_law_take"=some (.ref ft))
  (Fn:Fun K "_law_named" "_law_named" zcg fn fdn) (bn:Binds K fdn ["box","web"] []) (mn:mg "_law_named"=some (.ref fn)) (Fk:Fun K "_law_known" "_law_known" zcx fk fdk) (bk:Binds K fdk ["number"] []) (mk:mg "_law_known"=some (.ref fk)) :
  FnOk P w K mg base CX0 3 f fd ["box"] zmp:=by
 have Gt:FnOk P w K mg base CX0 1 ft fdt ["box","most"] zf1:=ze7 Ft;have Gn:FnOk P w K mg base CX0 2 fn fdn ["box","web"] zg5:=zjI Fn B Ft bt mt;have Gk:FnOk P w K mg base CX0 1 fk fdk ["number"] zh9:=zjt Fk B;refine F.ok zgG (fun vs H Q E h=>?_) (fun cdv A outer s H vs Q E hr h=>?_)
 ·obtain⟨p,rfl,_⟩:=h; rfl
 ·obtain⟨p,rfl,hb,k⟩:=h
  have hu:=zbo hr;have hu64:=hr.units;have hr1:Room 1 _:=hr.mono (by decide);refine⟨_,zf (zaf (zy ziA (zn Gt hr1 rfl mt Ft.kp bt .nil pass0 (ze (pv 0) (ze zl zg))) zl (nomark _))
    (zi (zt (zn Gn hr rfl mn Fn.kp bn .nil pass0 (ze (pv 0) (ze (zn Gk hr1 rfl mk Fk.kp bk .nil pass0 (ze (zn Gt hr1 rfl mt Ft.kp bt .nil pass0 (ze (pv 0) (ze zl zg))) zg)) zg))))) zA)
   (zf (zq (i:=1) zgG.nd rfl (Or.inl rfl) (zY zg))
   (zf (zM AF rfl (zaN rfl B.range (ze (zn Gt hr1 rfl mt Ft.kp bt .nil pass0 (ze (pv 0) (ze zl zg))) zg)) (zm (i:=2) zgG.nd rfl (Or.inl rfl))
    (zf (zq (i:=3) zgG.nd rfl (Or.inl rfl) ziM)
    (zf (zM AF rfl (zaN rfl B.range (ze (zH zat zl (zn Gt hr1 rfl mt Ft.kp bt .nil pass0 (ze (pv 0) (ze zl zg)))) zg)) (zm (i:=4) zgG.nd rfl (Or.inl rfl))
     (zi (zQ hu (pv 3) (zn Gt hr1 rfl mt Ft.kp bt .nil pass0 (ze (pv 0) (ze zl zg))) zbf rfl)))
    (zf (zq (i:=5) zgG.nd rfl (Or.inl rfl) (zB zaW rfl B.tuple zfn (ze (zv zch rfl B.sorted zdf (ze (zB (zer rfl) rfl B.list zaK (ze (pv 3) zg)) zg)) zg)))
    (zi (zaf (zy (zeg (in1_units hu64)) (pv 5) (pv 1) (by with_unfolding_all rfl)) (zi (zaz (zci AU PySem.F.slot_list_append PySem.F.type_list_append zaA (pv 1) (ze (pv 5) zg)))) zA))))))
   (zi (zt (zn Gn hr rfl mn Fn.kp bn .nil pass0 (ze (pv 0) (ze (pv 1) zg))))))),?_⟩
  refine⟨_,rfl,p,2,rfl,hb,by decide,by decide,fun r H1 r0 r1 sb1 hb1=>⟨rfl,_,rfl,?_⟩⟩;refine ite2 (fun h1=>?_) (fun h1=>?_)
  ·refine⟨_,rfl,_,rfl,p,20,rfl,hb1,by decide,by decide,fun n H2 n0 n1 sb2 hb2=>?_⟩
   obtain⟨m,rfl⟩:=Int.eq_ofNat_of_zero_le n0;refine⟨m,rfl,by omega,fun D as H3 sm3 hD0 hD ht=>?_⟩;obtain⟨g1,g2⟩:=zfh m (by omega);have sb3:=(sb1.trans sb2).trans (zaa.of sm3);have hb3:=hb2.same sm3;refine⟨p,D,as,known m,rfl,hb3,hD,ht,g1,fun ps hp=>by have:=(g2 ps hp).2; omega,fun D' bs qss first gap H4 sb4 hb4 hD' hD4 ht4 c1 c2 c3 c4 hperm=>?_⟩;exact k D' bs qss H4 (sb3.trans sb4) hb4 (sb3.free hb hb3 hD') hD4 ht4 ⟨known m,first,gap,.inl ⟨m,by omega,rfl⟩,c1,c2,c3,c4,hperm⟩
  ·refine⟨line_big (by simp),fun L hL=>?_⟩
   have hL0:H L=none:=sb1.free hb hb1 hL;refine⟨_,rfl,p,6,rfl,hb1.new hL,by decide,by decide,fun r6 H3 a1 a2 sb3 hb3=>⟨r6,rfl,by omega,by omega,?_⟩⟩;have hLp:L≠p:=zal.ne (as:=[]) (hb1.new hL) upd_same;have sb03:zaa p H H3:=(sb1.then hL0).trans sb3;refine zbI (lo:=0) (n:=r6.toNat) (fun i σ H4=>∃as pss v2 v3 v4 v5,σ=[some (.ref p),some (.ref L),v2,v3,v4,v5]/\zaa p H H4/\zal H4 p/\H4 L=some (.lst (as.map V.ref))/\Tps H4 as pss/\Small pss/\pss.length<=i)
    ⟨[],[],none,none,none,none,rfl,sb03,hb3,sb3 _ _ hLp upd_same,.nil,⟨List.nodup_nil,fun ps h=>nomatch h⟩,Af _⟩ ?_ ?_
   ·rintro i σ H4 hi ⟨as,pss,v2,v3,v4,v5,rfl,sb4,hb4,hL4,ht4,hsm,hlen⟩
    have hla:=ht4.length;intro d hd;have hd0:H d=none:=sb4.free hb hb4 hd;have hLd:L≠d:=zj hL4 hd;refine⟨_,rfl,p,4,rfl,hb4.new hd,by decide,by decide,fun r4 H5 e1 e2 sb5 hb5=>⟨_,_,rfl,rfl,_,rfl,by omega,by omega,?_⟩⟩;have hdp:d≠p:=by
     obtain⟨x,y,e,_⟩:=hb4.new (o:=.dK []) hd;exact zbz upd_same e (by intro z; cases z)
    have s4:=Same.new (o:=.dK []) hd;refine zbI (lo:=0) (n:=(1+r4).toNat) (fun j σ H6=>∃seq v4,σ=[some (.ref p),some (.ref L),some (.int (0+i)),some (.ref d),v4,v5]/\zaa p H H6/\zal H6 p/\H6 L=some (.lst (as.map V.ref))/\Tps H6 as pss/\H6 d=some (.dK (kvI seq))/\seq.length=j/\∀x∈seq,0<=x/\x<=5)
     ⟨[],_,rfl,(sb4.then hd0).trans sb5,hb5,sb5 _ _ hLp (s4 _ _ hL4),sb5.tps (hb4.new hd) (s4.tps ht4),sb5 _ _ hdp upd_same,rfl,fun x h=>nomatch h⟩ ?_ ?_
    ·rintro j σ H6 hj ⟨seq,v4,rfl,sb6,hb6,hL6,ht6,hd6,hs6,hx6⟩
     refine⟨_,rfl,_,rfl,p,6,rfl,hb6,by decide,by decide,fun r H7 f1 f2 sb7 hb7=>⟨d,_,rfl,DPut.k (k:=Sum.inl r) (sb7 _ _ hdp hd6) (zF (by have:=zkH seq; omega)),⟨seq++[r],_,rfl,(sb6.trans sb7).then hd0,hb7.upd hdp,?_,?_,by rw[upd_same,zlr],by rw[Ah,hs6]; rfl,?_⟩⟩⟩
     ·rw[zk hLd]; exact sb7 _ _ hLp hL6
     ·exact Tps.upd (sb7.tps hb6 ht6) (sb7 _ _ hdp hd6) (by intro xs z; cases z)
     ·intro x hx
      rcases List.mem_append.mp hx with hx | hx
      ·exact hx6 x hx
      ·rw[List.mem_singleton] at hx; subst hx; omega
    ·rintro σ H6 ⟨seq,v4,rfl,sb6,hb6,hL6,ht6,hd6,hs6,hx6⟩
     refine⟨_,rfl,d,_,rfl,hd6,fun l2 hl2=>⟨l2,dd seq,rfl,SqL.of (by rw[upd_same,zje]),(by have:=zca seq; omega),fun D2 ms hp hs hD2=>⟨D2,_,rfl,.inl ⟨SqL.of upd_same,fun t htn=>?_⟩⟩⟩⟩;have s6:Same H6 (upd (upd (upd H6 l2 (.lst ((kvI seq).map fun kv=>kV kv.1))) D2 (.lst (ms.map V.int))) t (.tup (ms.map V.int))):=((Same.new hl2).trans (Same.new hD2)).trans (Same.new htn);generalize hH7:upd (upd (upd H6 l2 (.lst ((kvI seq).map fun kv=>kV kv.1))) D2 (.lst (ms.map V.int))) t (.tup (ms.map V.int))=H7 at s6;have htt:Tp H7 t ms:=by rw[<- hH7]; exact upd_same
     have sb7:=sb6.trans (zaa.of s6);have hb7:=hb6.same s6;refine⟨_,rfl,_,rfl,t,L,ms,as,pss,rfl,rfl,htt,SqL.of (s6 _ _ hL6),s6.tps ht6,_,rfl,?_⟩;have hms:ms≠[]/\ms.length<=4/\rises ms=true/\∀x∈ms,0<=x/\x<=5:=by
      refine⟨fun z=>?_,?_,zjN hs (hp.nodup_iff.mpr (zcr seq)),fun x hx=>hx6 x ((zbO seq x).mp (hp.mem_iff.mp hx))⟩
      ·have h0:dd seq=[]:=by rw[z] at hp; exact (List.nil_perm.mp hp)
       cases hq:seq with
       | nil=>rw[hq] at hs6; simp at hs6; omega
       | cons x r=>
        have:=(zbO seq x).mpr (by rw[hq]; exact Am);rw[h0] at this;cases this
      ·have:=zca seq
       rw[hp.length_eq];omega
     by_cases hin:ms∈pss
     ·rw[decide_eq_true hin]
      exact iteF ⟨as,pss,_,_,_,_,rfl,sb7,hb7,s6 _ _ hL6,s6.tps ht6,hsm,by omega⟩
     ·rw[decide_eq_false hin]
      refine iteT ⟨_,rfl,.inl ⟨rfl,_,SqL.of (s6 _ _ hL6)⟩,_,rfl,L,_,_,rfl,rfl,s6 _ _ hL6,zF (by rw[Ab]; omega),⟨as++[t],pss++[ms],_,_,_,_,rfl,sb7.then hL0,hb7.upd hLp,by rw[upd_same,Ag]; rfl,Tps.upd (Tps.snoc (s6.tps ht6) htt) (s6 _ _ hL6) (by intro xs z; cases z),⟨?_,?_⟩,by rw[Ah]; simp; omega⟩⟩
      ·rw[AL]
       refine⟨hsm.1,by simp,fun a ha b hb' e=>?_⟩;rw[List.mem_singleton] at hb';subst hb'; subst e; exact hin ha
      ·intro ps hps
       rcases List.mem_append.mp hps with h | h
       ·exact hsm.2 ps h
       ·rw[List.mem_singleton] at h; subst h; exact hms
   ·rintro σ H4 ⟨as,pss,v2,v3,v4,v5,rfl,sb4,hb4,hL4,ht4,hsm,hlen⟩
    refine⟨_,rfl,_,rfl,p,L,as,pss,rfl,hb4,hL4,ht4,by omega,fun ps hp=>by have:=(hsm.2 ps hp).2.1; omega,fun D' bs qss first gap H5 sb5 hb5 hD' hD5 ht5 c1 c2 c3 c4 hperm=>?_⟩;exact k D' bs qss H5 (sb4.trans sb5) hb5 (sb4.free hb hb4 hD') hD5 ht5 ⟨pss,first,gap,.inr ⟨by omega,hsm⟩,c1,c2,c3,c4,hperm⟩
end
end K48
end
section
namespace K1
open PySem L2 STb
theorem zf8:∀a b:List Int,HT.lexLt a b=true->HT.lexLt b a=false
 | [],[],h=>rfl
 | [],_::_,h=>rfl
 | _::_,[],h=>by rw[HT.zbq] at h; exact absurd h AA
 | x::xs,y::ys,h=>by
  rw[HT.zT] at h ⊢
  by_cases e:x=y
  ·rw[if_pos e] at h; rw[if_pos e.symm]; exact zf8 xs ys h
  ·rw[if_neg e] at h; rw[if_neg (fun z=>e z.symm)]
   have:=of_decide_eq_true h;exact decide_eq_false (by omega)
theorem zgc:∀a b:List Int,HT.lexLt a b=false->HT.lexLt b a=false->a=b
 | [],[],_,_=>rfl
 | [],_::_,h,_=>by rw[HT.zad] at h; exact absurd h (by decide)
 | _::_,[],_,h=>by rw[HT.zad] at h; exact absurd h (by decide)
 | x::xs,y::ys,h,h'=>by
  rw[HT.zT] at h h'
  by_cases e:x=y
  ·rw[if_pos e] at h; rw[if_pos e.symm] at h'
   rw[e,zgc xs ys h h']
  ·rw[if_neg e] at h; rw[if_neg (fun z=>e z.symm)] at h'
   have:=of_decide_eq_false h;have:=of_decide_eq_false h';omega
theorem zaM:∀a b c:List Int,HT.lexLt b a=false->HT.lexLt c b=false->HT.lexLt c a=false
 | [],b,c,_,_=>by cases c with
  | nil=>rfl
  | cons _ _=>rfl
 | _::_,[],c,h,_=>by rw[HT.zad] at h; exact absurd h (by decide)
 | _::_,_::_,[],_,h=>by rw[HT.zad] at h; exact absurd h (by decide)
 | x::xs,y::ys,z::zs,h,h'=>by
  rw[HT.zT] at h h' ⊢
  by_cases e:y=x
  ·rw[if_pos e] at h
   by_cases e2:z=y
   ·rw[if_pos e2] at h'; rw[if_pos (e2.trans e)]; exact zaM xs ys zs h h'
   ·rw[if_neg e2] at h'; rw[if_neg (by omega)]
    have:=of_decide_eq_false h';exact decide_eq_false (by omega)
  ·rw[if_neg e] at h
   have h1:=of_decide_eq_false h
   by_cases e2:z=y
   ·rw[if_neg (by omega)]
    exact decide_eq_false (by omega)
   ·rw[if_neg e2] at h'
    have h2:=of_decide_eq_false h';rw[if_neg (by omega)];exact decide_eq_false (by omega)
def key (p:List Int):List Int:=(p.length:Int)::p
def kle (a b:List Int):Bool:=!HT.lexLt (key b) (key a)
theorem zb7 {a b:List Int}:kle a b=true ↔ HT.lexLt (key b) (key a)=false:=by unfold kle; simp
def canon (pss:List (List Int)):List (List Int):=(dd (pss.flatMap parts)).mergeSort kle
theorem zbj (pss:List (List Int)):(canon pss).Perm (dd (pss.flatMap parts)):=List.mergeSort_perm _ _
theorem zeq (pss:List (List Int)):(canon pss).Pairwise (fun a b=>kle a b=true):=by
 refine List.pairwise_mergeSort (fun a b c h1 h2=>?_) (fun a b=>?_) _
 ·rw[zb7] at h1 h2 ⊢; exact zaM _ _ _ h1 h2
 ·rw[Bool.or_eq_true,zb7,zb7]
  cases h:HT.lexLt (key b) (key a) with
  | false=>exact .inl rfl
  | true=>exact .inr (zf8 _ _ h)
theorem zeb {pss:List (List Int)}{x:List Int}:x∈canon pss ↔ x∈pss.flatMap parts:=by rw[(zbj pss).mem_iff,zbO]
theorem zeS (pss:List (List Int)):(canon pss).Nodup:=(zbj pss).nodup_iff.mpr (zcr _)
theorem zas (pss:List (List Int)):(canon pss).length=(dd (pss.flatMap parts)).length:=(zbj pss).length_eq
theorem zhK {l m:List (List Int)} (hp:l.Perm m) (h1:l.Pairwise (fun a b=>kle a b=true)) (h2:m.Pairwise (fun a b=>kle a b=true)):l=m:=by
 refine List.Perm.eq_of_pairwise (fun a b _ _ g1 g2=>?_) h1 h2 hp;rw[zb7] at g1 g2;have:=zgc _ _ g2 g1;unfold key at this;exact (List.cons.inj this).2
theorem canon_of {pss l:List (List Int)} (hp:l.Perm (dd (pss.flatMap parts))) (hs:l.Pairwise (fun a b=>HT.lexLt ((b.length:Int)::b) ((a.length:Int)::a)=false)):l=canon pss:=
 zhK (hp.trans (zbj pss).symm) (hs.imp fun h=>zb7.mpr h) (zeq pss)
theorem zct:∀(n:Nat) (p q:List Int),p.length=n->(q∈subs p ↔ q.Sublist p)
 | 0,p,q,h=>by
  obtain rfl:=List.eq_nil_of_length_eq_zero h;show q∈[[]] ↔ _;simp
 | n+1,p,q,h=>by
  obtain⟨r,x,rfl⟩:∃r x,p=r++[x]:=by
   rcases List.eq_nil_or_concat p with e | ⟨r,x,e⟩
   ·rw[e] at h; cases h
   ·exact⟨r,x,by rw[e,List.concat_eq_append]⟩
  have hr:r.length=n:=by simpa using h
  rw[zcK,List.mem_append,zct n r q hr,List.mem_map,List.sublist_append_iff];constructor
  ·rintro (h1 | ⟨y,hy,rfl⟩)
   ·exact⟨q,[],by simp,h1,List.nil_sublist _⟩
   ·exact⟨y,[x],rfl,(zct n r y hr).mp hy,List.Sublist.refl _⟩
  ·rintro⟨l1,l2,rfl,s1,s2⟩
   cases s2 with
   | cons _ h=>
    obtain rfl:=List.sublist_nil.mp h;exact .inl (by simpa using s1)
   | cons_cons _ h=>
    obtain rfl:=List.sublist_nil.mp h;exact .inr ⟨l1,(zct n r l1 hr).mpr s1,rfl⟩
theorem zau {p q:List Int}:q∈parts p ↔ q≠[]/\q.Sublist p:=by
 obtain⟨t,e,ht⟩:=zcy p;have hs:=zct p.length p q rfl;rw[e] at hs;unfold parts;rw[e];show q∈t ↔ _;constructor
 ·intro h
  exact⟨ht q h,hs.mp (Ar _ h)⟩
 ·rintro⟨h1,h2⟩
  rcases List.mem_cons.mp (hs.mpr h2) with h | h
  ·exact absurd h h1
  ·exact h
theorem zbQ:∀p:List Int,rises p=true ↔ p.Pairwise (·<·)
 | []=>by simp[rises]
 | [a]=>by simp[rises]
 | a::b::r=>by
  have ih:=zbQ (b::r);rw[show rises (a::b::r)=(decide (a<b) && rises (b::r)) from rfl,AY,decide_eq_true_eq,ih,List.pairwise_cons (a:=a)];constructor
  ·rintro⟨h1,h2⟩
   refine⟨fun x hx=>?_,h2⟩;rcases List.mem_cons.mp hx with rfl | hx
   ·exact h1
   ·have:=(List.pairwise_cons.mp h2).1 x hx
    omega
  ·rintro⟨h1,h2⟩
   exact⟨h1 b Am,h2⟩
theorem zam {p:List Int}:zaL p=true ↔ p≠[]/\p.length<=5/\(∀x∈p,0<=x/\x<=99)/\p.Pairwise (·<·):=by
 unfold zaL;simp only[AY,decide_eq_true_eq,List.all_eq_true,zbQ];constructor
 ·rintro⟨⟨⟨h1,h2⟩,h3⟩,h4⟩
  exact⟨fun z=>by rw[z] at h1; simp at h1,h2,h3,h4⟩
 ·rintro⟨h1,h2,h3,h4⟩
  refine⟨⟨⟨?_,h2⟩,h3⟩,h4⟩;cases p with
  | nil=>exact absurd rfl h1
  | cons _ _=>simp
theorem zgz {p q:List Int} (h:zaL p=true) (hq:q∈parts p):zaL q=true:=by
 rw[zam] at h ⊢;rw[zau] at hq;exact⟨hq.1,AG hq.2.length_le h.2.1,fun x hx=>h.2.2.1 x (hq.2.subset hx),h.2.2.2.sublist hq.2⟩
theorem zla {pss:List (List Int)} (hn:pss.Nodup) (hp:∀p∈pss,zaL p=true):zj1 pss pss.length:=by
 intro i p hi e;refine⟨fun hm=>?_,hp p (Ak e)⟩;obtain⟨j,ej⟩:=List.mem_iff_getElem?.mp hm;obtain⟨lj,ej'⟩:=List.getElem?_eq_some_iff.mp ej;rw[AC] at lj;obtain⟨li,ei⟩:=List.getElem?_eq_some_iff.mp e;have:=List.pairwise_iff_getElem.mp hn j i (by omega) li (by omega);rw[List.getElem_take] at ej';exact this (ej'.trans ei.symm)
theorem zmz {pss:List (List Int)} (h20:pss.length<=20) (hn:pss.Nodup) (hp:∀p∈pss,zaL p=true) (h:(dd (pss.flatMap parts)).length<=200):webM pss=true:=by
 rw[zju pss h20 (zla hn hp),decide_eq_true h]
theorem za7 {pss:List (List Int)} (h:webM pss=true):pss.length<=20/\(∀p∈pss,zaL p=true)/\(∀p∈pss,p.length<=5)/\(dd (pss.flatMap parts)).length<=200:=by
 unfold webM at h;simp only[AY,decide_eq_true_eq,List.all_eq_true] at h;obtain⟨⟨⟨h1,h2⟩,h3⟩,h4⟩:=h;have h5:∀p∈pss,zaL p=true:=fun p hp=>by rw[<- zfu]; exact h2 p hp
 exact⟨h1,h5,fun p hp=>(zam.mp (h5 p hp)).2.1,h4⟩
def over (o p:List Int):Bool:=decide (p.length<o.length) && p.all fun x=>decide (x∈o)
end K1
end
section
namespace K48
open K1
open PySem L2 STb
def BOk (b:List (List Int)):Prop:=b.Nodup/\b.length<=17/\(∀ps∈b,ps≠[]/\ps.length<=5/\rises ps=true/\∀x∈ps,0<=x/\x<=7)/\(b.flatMap parts).length<=200
theorem zmj:∀n,n<20->(known n).Nodup/\(known n).length<=17/\(∀ps∈known n,ps≠[]/\ps.length<=5/\rises ps=true/\∀x∈ps,0<=x/\x<=7)/\((known n).flatMap parts).length<=200:=by decide +kernel
theorem zfW {m:Nat}:∀{b:List (List Int)},(∀ps∈b,(parts ps).length<=m)->(b.flatMap parts).length<=m*b.length
 | [],_=>by simp
 | p::r,h=>by
  have h1:=h p Am;have h2:=zfW (b:=r) fun q hq=>h q (Ar _ hq);rw[List.flatMap_cons,Ah,Aw,Nat.mul_succ];omega
theorem zkW {b:List (List Int)} (h:Base b):BOk b:=by
 rcases h with ⟨n,hn,rfl⟩ | ⟨h5,hs⟩
 ·exact zmj n hn
 ·refine⟨hs.1,by omega,fun ps hp=>?_,?_⟩
  ·obtain⟨h1,h2,h3,h4⟩:=hs.2 ps hp
   exact⟨h1,by omega,h3,fun x hx=>by have:=h4 x hx; omega⟩
  ·have:=zfW (m:=15) (b:=b) fun ps hp=>by
    rw[zaP];have h2:=(hs.2 ps hp).2.1;have:2 ^ ps.length<=2 ^ 4:=Nat.pow_le_pow_right (by decide) h2;omega
   omega
theorem zly {first gap:Int} (hg:1<=gap) {p q:List Int} (h:ren first gap p=ren first gap q):p=q:=by
 unfold ren at h;refine (List.map_inj_right (f:=fun x=>first+gap*x) (fun x y e=>?_)).mp h;have:gap*x=gap*y:=by omega
 exact Int.eq_of_mul_eq_mul_left (by omega) this
theorem zhQ {first gap:Int} (h0:0<=first) (h1:first<12) (hg:1<=gap) (hg3:gap<=3) {p:List Int} (h:p≠[]/\p.length<=5/\rises p=true/\∀x∈p,0<=x/\x<=7):zaL (ren first gap p)=true:=by
 obtain⟨a,b,c,d⟩:=h;rw[zam];unfold ren;refine⟨fun z=>a (List.map_eq_nil_iff.mp z),by rw[Ab]; exact b,fun y hy=>?_,?_⟩
 ·obtain⟨x,hx,rfl⟩:=List.mem_map.mp hy
  have:=d x hx;have hg':gap=1 \/ gap=2 \/ gap=3:=by omega
  rcases hg' with rfl | rfl | rfl <;> omega
 ·rw[zbQ] at c
  rw[List.pairwise_map];refine c.imp fun {x y} e=>?_;have:gap*x<gap*y:=Int.mul_lt_mul_of_pos_left e (by omega);omega
theorem zgM {q:List (List Int)} (h:Drawn q):webM q=true/\q.Nodup/\q.length<=17:=by
 obtain⟨b,first,gap,hb,h0,h1,hg,hg3,hp⟩:=h;obtain⟨n1,n2,n3,n4⟩:=zkW hb;have hl:q.length<=17:=by rw[hp.length_eq,Ab]; exact n2
 have hn:q.Nodup:=by
  rw[hp.nodup_iff];unfold List.Nodup at n1 ⊢;rw[List.pairwise_map];exact n1.imp fun {x y} e z=>e (zly hg z)
 refine⟨zmz (by omega) hn (fun p hm=>?_) ?_,hn,hl⟩
 ·obtain⟨r,hr,rfl⟩:=List.mem_map.mp (hp.mem_iff.mp hm)
  exact zhQ h0 h1 hg hg3 (n3 r hr)
 ·refine AG (zca _) ?_
  rw[(hp.flatMap_right parts).length_eq];have:∀b:List (List Int),((b.map (ren first gap)).flatMap parts).length=(b.flatMap parts).length:=by
   intro b
   induction b with
   | nil=>rfl
   | cons p r ih=>
    rw[Av,List.flatMap_cons,List.flatMap_cons,Ah,Ah,ih,zaP,zaP];unfold ren;rw[Ab]
  rw[this];exact n4
end K48
end
section
namespace K1
open PySem L2 STb
def rims (q:List Int):List (List Int):=if q.length=1 then [] else (A7 q.length).map fun k=>q.take k++q.drop (k+1)
theorem zao (q:List Int):(rims q).length<=q.length:=by
 unfold rims;split
 ·exact AO _
 ·simp
theorem zdp {p q:List Int}:p∈rims q ↔ q.length≠1/\∃k,k<q.length/\p=q.take k++q.drop (k+1):=by
 unfold rims;split
 next h=>simp[h]
 next h=>
  rw[List.mem_map];constructor
  ·rintro⟨k,hk,rfl⟩
   exact⟨h,k,List.mem_range.mp hk,rfl⟩
  ·rintro⟨_,k,hk,rfl⟩
   exact⟨k,List.mem_range.mpr hk,rfl⟩
theorem zb0:∀(o p:List Int),o.Pairwise (·<·)->p.Pairwise (·<·)->(∀x∈p,x∈o)->p.Sublist o
 | [],p,_,_,h=>by
  cases p with
  | nil=>exact List.Sublist.slnil
  | cons a r=>exact absurd (h a Am) (by simp)
 | b::o,p,ho,hp,h=>by
  obtain⟨ho1,ho2⟩:=List.pairwise_cons.mp ho;cases p with
  | nil=>exact List.nil_sublist _
  | cons a r=>
   obtain⟨hp1,hp2⟩:=List.pairwise_cons.mp hp
   by_cases e:a=b
   ·subst e
    refine (zb0 o r ho2 hp2 fun x hx=>?_).cons_cons a;rcases List.mem_cons.mp (h x (Ar _ hx)) with rfl | q
    ·have:=hp1 x hx; omega
    ·exact q
   ·have ha:a∈o:=by
     rcases List.mem_cons.mp (h a Am) with q | q
     ·exact absurd q e
     ·exact q
    have hab:=ho1 a ha;refine (zb0 o (a::r) ho2 hp fun x hx=>?_).cons b;rcases List.mem_cons.mp (h x hx) with q | q
    ·exfalso
     rcases List.mem_cons.mp hx with z | z
     ·omega
     ·have:=hp1 x z; omega
    ·exact q
theorem zfc {p q:List Int}{k:Nat} (hk:k<q.length) (h:p=q.take k++q.drop (k+1)):p.Sublist q/\p.length<q.length:=by
 subst h;refine⟨?_,?_⟩
 ·have h1:(q.take k++q.drop (k+1)).Sublist (q.take k++q.drop k):=(List.Sublist.refl _).append (by
   rw[show q.drop (k+1)=(q.drop k).drop 1 by rw[List.drop_drop]];exact List.drop_sublist _ _)
  rwa [List.take_append_drop] at h1
 ·rw[Ah,AC,List.length_drop]
  omega
end K1
end
section
namespace K48
open K1
open PySem L2 STb
theorem zib:∀n,n<20->(dd ((known n).flatMap parts)).length<=56:=by decide +kernel
def six:List (List Int):=(parts [0,1,2,3,4,5]).filter fun q=>decide (q.length<=4)
theorem zkI:six.length=56:=by decide +kernel
theorem zi2 {b:List (List Int)} (h:Base b):(dd (b.flatMap parts)).length<=56:=by
 rcases h with ⟨n,hn,rfl⟩ | ⟨h5,hs⟩
 ·exact zib n hn
 ·rw[<- zkI]
  refine (zcr _).length_le_of_subset fun x hx=>?_;rw[zbO,List.mem_flatMap] at hx;obtain⟨p,hp,hx⟩:=hx;obtain⟨_,h4,hr,hb⟩:=hs.2 p hp;rw[zau] at hx;have hl:=hx.2.length_le;unfold six;rw[List.mem_filter,zau];refine⟨⟨hx.1,hx.2.trans (zb0 _ _ (by decide) ((zbQ p).mp hr) fun y hy=>?_)⟩,decide_eq_true (by omega)⟩;have:=hb y hy;have:y=0 \/ y=1 \/ y=2 \/ y=3 \/ y=4 \/ y=5:=by omega
  rcases this with rfl | rfl | rfl | rfl | rfl | rfl <;> decide
theorem zhE {q:List (List Int)} (h:Drawn q):(dd (q.flatMap parts)).length<=56:=by
 obtain⟨b,first,gap,hb,_,_,_,_,hp⟩:=h;refine AG ?_ (zi2 hb);have e:((dd (b.flatMap parts)).map (ren first gap)).length=(dd (b.flatMap parts)).length:=Ab _;rw[<- e];refine (zcr _).length_le_of_subset fun x hx=>?_;rw[zbO,List.mem_flatMap] at hx;obtain⟨p,hm,hx⟩:=hx;obtain⟨r,hr,rfl⟩:=List.mem_map.mp (hp.mem_iff.mp hm);rw[zau] at hx;obtain⟨hne,hsub⟩:=hx;unfold ren at hsub;obtain⟨y,hy,rfl⟩:=List.sublist_map_iff.mp hsub;refine List.mem_map.mpr ⟨y,?_,rfl⟩;rw[zbO,List.mem_flatMap];exact⟨r,hr,zau.mpr ⟨fun z=>hne (by rw[z]; rfl),hy⟩⟩
end K48
end
section
namespace K48
open K1
open PySem L2 STb
def webS (pss:List (List Int)):Prop:=webM pss=true/\(canon pss).length<64
abbrev zeU:Stmt:=top 17
abbrev zaR:Stmt:=top 18
theorem zdn {H:Hp}:∀{qs:List (List Int×Addr)},(∀q∈qs,Tp H q.2 q.1)->Tps H (qs.map (·.2)) (qs.map (·.1))
 | [],_=>.nil
 | q::r,h=>.cons (h q Am) (zdn fun x hx=>h x (Ar _ hx))
theorem zc4 {H H2:Hp}{pss:List (List Int)}{D:Addr}{qs:List (List Int×Addr)} (t:Told H H2 pss D qs):∃bs,Same H H2/\H D=none/\H2 D=some (.lst (bs.map V.ref))/\Tps H2 bs (canon pss):=by
 obtain⟨sm,hD,hD2,hq,hp,hs⟩:=t;have e:qs.map (·.1)=canon pss:=canon_of hp (List.pairwise_map.mpr hs);refine⟨qs.map (·.2),sm,hD,by rw[hD2,Ap]; rfl,?_⟩;rw[<- e];exact zdn hq
section
variable {P:Program}{w:World}{K:Ad}{mg:Str->Option Value}{base:Heap}
def zcq (K:Ad):Sp:=fun vs H Q _=>∃l as pss,vs=[.ref l]/\SqL K H l (as.map V.ref)/\Tps H as pss/\webS pss/\∀D H2 bs,Same H H2->H D=none->H2 D=some (.lst (bs.map V.ref))->Tps H2 bs (canon pss)->Q (.ref D) H2
theorem zi4:zu ["web"] ["web"] (zh zaR):=⟨rfl,rfl,rfl,by decide +kernel,rfl,by decide +kernel,by decide +kernel⟩
theorem zmF:zu ["web"] ["web"] (zh zeU):=⟨rfl,rfl,rfl,by decide +kernel,rfl,by decide +kernel,by decide +kernel⟩
def zkb (K:Ad):Sp:=fun vs H Q _=>∃l as pss,vs=[.ref l]/\SqL K H l (as.map V.ref)/\Tps H as pss/\webS pss/\∀H2,Same H H2->Q .non H2
theorem zkZ {f fw:Addr}{fd fdw:FuncData} (F:Fun K "must_be_web" "must_be_web" zeU f fd)
  (Fw:Fun K "is_web" "is_web" zcM fw fdw) (bw:Binds K fdw ["web"] []) (mw:mg "is_web"=some (.ref fw)) (Gw:FnOk P w K mg base CX0 6 fw fdw ["web"] (zh0 K)):FnOk P w K mg base CX0 7 f fd ["web"] (zkb K):=by
 refine F.ok zmF (fun vs H Q E h=>?_) (fun cdv A outer s H vs Q E hr h=>?_)
 ·obtain⟨l,as,pss,rfl,_⟩:=h; rfl
 ·obtain⟨l,as,pss,rfl,hl,ht,hw,k⟩:=h
  refine⟨_,zi (zaf (zc5 (zbS (zn Gw hr rfl mw Fw.kp bw .nil pass0 (ze (pv 0) zg)))) zbb zA),?_⟩;refine⟨_,rfl,l,as,pss,rfl,hl,ht,(fun _=>by rw[<- zas]; exact hw.2),fun H1 sm1=>⟨_,rfl,?_⟩⟩;rw[hw.1];exact iteF (k H1 sm1)
theorem zhP {f fw fa:Addr}{fd fdw fda:FuncData} (F:Fun K "pieces" "pieces" zaR f fd)
  (Fw:Fun K "must_be_web" "must_be_web" zeU fw fdw) (bw:Binds K fdw ["web"] []) (mw:mg "must_be_web"=some (.ref fw)) (Gw:FnOk P w K mg base CX0 7 fw fdw ["web"] (zkb K))
  (Fa:Fun K "all_parts" "all_parts" sAll fa fda) (ba:Binds K fda ["some"] []) (ma:mg "all_parts"=some (.ref fa)) (Ga:FnOk P w K mg base CX0 5 fa fda ["some"] (zg0 K)):FnOk P w K mg base CX0 8 f fd ["web"] (zcq K):=by
 refine F.ok zi4 (fun vs H Q E h=>?_) (fun cdv A outer s H vs Q E hr h=>?_)
 ·obtain⟨l,as,pss,rfl,_⟩:=h; rfl
 ·obtain⟨l,as,pss,rfl,hl,ht,hw,k⟩:=h
  have hr5:Room 5 _:=hr.mono (by decide);refine⟨_,zf (zaz (zn Gw hr rfl mw Fw.kp bw .nil pass0 (ze (pv 0) zg)))
   (zi (zt (zn Ga hr5 rfl ma Fa.kp ba .nil pass0 (ze (pv 0) zg)))),?_⟩
  obtain⟨h20,_,h5,_⟩:=za7 hw.1;refine⟨_,rfl,l,as,pss,rfl,hl,ht,hw,fun H1 sm1=>?_⟩;refine⟨_,rfl,l,as,pss,rfl,sm1.seq hl,sm1.tps ht,h5,AG h20 (by decide),(by rw[<- zas]; exact hw.2),fun D H2 qs t=>?_⟩;obtain⟨bs,sm2,hD,hD2,hb⟩:=zc4 t;exact k D H2 bs (sm1.trans sm2) (sm1.free hD) hD2 hb
end
end K48
end
section
namespace K48
open K1
open PySem L2 STb
abbrev zcB:Stmt:=top 9
theorem cutk (xs:List V) (i:Nat) (h:i<=xs.length):cutV xs none (some (i:Int))=xs.take i:=by
 unfold cutV;rw[HT.zcm,HT.zcW,Nat.min_eq_left h,List.drop_zero,Nat.sub_zero]
theorem cutd (xs:List V) (i:Nat) (h:i<=xs.length):cutV xs (some (i:Int)) none=xs.drop i:=by
 unfold cutV;rw[HT.zcm,HT.zcW,Nat.min_eq_left h];exact An (by rw[List.length_drop]; exact Af _)
abbrev tRim:TE:=tOp zlk (tSl rSlA (tVar 1) zeW (zky (tVar 0))) (tSl rSlA (tVar 1) (zky (tOp (rI0 fun i j=>.int (i+j)) (tVar 0) (tC (.int 1)))) zeW)
section
variable {P:Program}{w:World}{K:Ad}{mg:Str->Option Value}{base:Heap}
theorem zjQ {H2:Hp}{a D:Addr}{ps:List Int}{Q:VK} (ha:Tp H2 a ps) (hz:ps.length<=5) (hD:H2 D=none)
  (k:∀(H3:Hp) (bs:List Addr),Same H2 H3->H3 D=some (.lst (bs.map V.ref))->Tps H3 bs ((A7 ps.length).map fun k=>ps.take k++ps.drop (k+1))->Q (.ref D) H3) :
  zaj (Itr 0 ps.length) (zX 0) tYes tRim [none,some (.ref a)] H2 D Q:=by
 refine zc8 (fun j σ ys H3=>∃(v:Option V) (bs:List Addr),σ=[v,some (.ref a)]/\Same H2 H3/\H3 D=some (.lst ys)/\ys=bs.map V.ref/\Tps H3 bs (((A7 ps.length).map fun k=>ps.take k++ps.drop (k+1)).take j)) ?_ ?_ ?_
 ·exact⟨none,[],rfl,Same.new hD,upd_same,rfl,.nil⟩
 ·rintro j σ ys H3 hj hy ⟨v,bs,rfl,sm,hD3,rfl,hb⟩
  have e:((A7 ps.length).map fun k=>ps.take k++ps.drop (k+1))[j]?=some (ps.take j++ps.drop (j+1)):=by rw[Al,List.getElem?_range hj]; rfl
  refine gyes ?_;refine⟨_,rfl,_,rfl,_,rfl,a,_,rfl,sm.tp ha,fun p1 H4 sm4 hp1=>⟨_,rfl,_,rfl,_,_,rfl,rfl,_,rfl,a,_,rfl,sm4 _ _ (sm.tp ha),fun p2 H5 sm5 hp2=>?_⟩⟩;rw[show (0:Int)+((j:Nat):Int)=((j:Nat):Int) by omega,cutk _ _ (by rw[Ab]; omega),<- List.map_take] at hp1;rw[show (0:Int)+((j:Nat):Int)+1=((j+1:Nat):Int) by omega,cutd _ _ (by rw[Ab]; omega),<- List.map_drop] at hp2;refine⟨p1,p2,_,_,rfl,rfl,sm5 _ _ hp1,hp2,line_big (by simp; omega),fun p3 H6 sm6 hp3=>?_⟩;rw[<- Ag] at hp3;have s6:=(sm4.trans sm5).trans sm6;refine cput (line_big (by omega)) hj hy (s6 _ _ hD3) ⟨_,bs++[p3],rfl,(sm.trans s6).then hD,upd_same,by rw[Ag]; rfl,?_⟩;rw[AH e];exact Tps.upd (Tps.snoc (s6.tps hb) hp3) (s6 _ _ hD3) (by intro xs z; cases z)
 ·rintro σ ys H3 ⟨v,bs,rfl,sm,hD3,rfl,hb⟩
  rw[An (by simp)] at hb;exact k H3 bs sm hD3 hb
def zbK:Sp:=fun vs H Q _=>∃a ps,vs=[.ref a]/\Tp H a ps/\ps.length<=5/\∀D H2 (bs:List Addr),Same H H2->H D=none->H2 D=some (.lst (bs.map V.ref))->Tps H2 bs (rims ps)->Q (.ref D) H2
theorem zlP:zu ["piece"] ["piece"] (zh zcB):=⟨rfl,rfl,rfl,by decide +kernel,rfl,by decide +kernel,by decide +kernel⟩
theorem zdh {f:Addr}{fd:FuncData} (F:Fun K "rims_of" "rims_of" zcB f fd) (B:Bt mg):FnOk P w K mg base CX0 1 f fd ["piece"] zbK:=by
 refine F.ok zlP (fun vs H Q E h=>?_) (fun cdv A outer s H vs Q E hr h=>?_)
 ·obtain⟨a,ps,rfl,_⟩:=h; rfl
 ·obtain⟨a,ps,rfl,ha,h5,k⟩:=h
  refine⟨_,zf (zaf (zy ziA (zv zo rfl B.len zaI (ze (pv 0) zg)) zl (nomark _)) (zi (zt (zY zg))) zA)
   (zi (zt (zx ["piece"] ["k","piece"] [none,some 0] (zaN rfl B.range (ze (zv zo rfl B.len zaI (ze (pv 0) zg)) zg)) (fun cl C s₀ H₀ ex=>zm (i:=0) (ndN ["k","piece"]) rfl (Or.inl rfl)) (fun cl C s₀ H₀ ex=>zN)
    (fun cl C s₀ H₀ ex=>zH zdj (zaF zdq (pv 1) za5 (za2 (pv 0))) (zaF zdq (pv 1) (za2 (zH zat (pv 0) zl)) za5)) (hfr:=frOf (zh zcB) (by decide +kernel)) (te:=tRim)))),?_⟩
  refine⟨_,rfl,a,_,rfl,.inr (SqT.of ha),rfl,_,rfl,?_⟩;rw[Ab]
  by_cases h1:ps.length=1
  ·rw[show decide (V.int (ps.length:Int)=V.int 1)=true from decide_eq_true (by rw[h1]; rfl)]
   refine iteT ⟨line_big (by simp),fun D hD=>k D _ [] (Same.new hD) hD upd_same ?_⟩;unfold rims;rw[if_pos h1];exact .nil
  ·rw[show decide (V.int (ps.length:Int)=V.int 1)=false from decide_eq_false fun z=>h1 (by injection z with z; omega)]
   refine iteF ⟨_,rfl,a,_,rfl,.inr (SqT.of ha),_,rfl,by rw[Ab]; omega,by rw[Ab]; omega,fun D hD=>?_⟩;rw[Ab];refine zG (zjQ ha h5 hD fun H3 bs sm hD3 hb=>k D H3 bs sm hD hD3 ?_);unfold rims;rw[if_neg h1];exact hb
theorem zdW (seq:List (List Int)) (p:List Int):(valV (kvM seq) (p.map Sum.inl)).isSome=decide (p∈seq):=by
 rw[<- zaw,Bool.eq_iff_iff,List.any_eq_true,decide_eq_true_eq];unfold kvM;constructor
 ·rintro⟨kv,hm,e⟩
  obtain⟨q,hq,rfl⟩:=List.mem_map.mp hm;have e':=of_decide_eq_true e;have:q=p:=(List.map_inj_right (f:=(Sum.inl:Int->Key)) (fun x y h=>Sum.inl.inj h)).mp e';rw[<- this];exact (zbO seq q).mp hq
 ·intro h
  exact⟨_,List.mem_map.mpr ⟨p,(zbO seq p).mpr h,rfl⟩,by simp⟩
end
end K48
end
section
namespace Dk
open PySem PySem.Spec PyProof.Rows
section
variable {prog:Program}{w:World}{A:Around}{E:Value->Shared->Prop}{s:Shared}{it d v:Addr}{i ep:Nat}{es:Array DictEntry}
end
end Dk
namespace L2
open PySem PySem.Spec PyProof.Rows
section
variable {X:Cx}
theorem zay (hc:X.calm=true):zaS X (.type "list") (fun xs H Q=>∃a kvs,xs=[.ref a]/\Rd H a (.dT kvs)/\
  ∀(bs:List Addr),Paired (fun (p:List Key×V) b=>H b=some (.tup (p.1.map kV))) kvs bs->∀l,H l=none->Q (.ref l) (upd H l (.lst (bs.map V.ref)))):=by
 intro pins s σ H xs us Q I r h;obtain⟨a,kvs,rfl,hq,q⟩:=h;obtain⟨u,rfl,ru⟩:=vals1 r;cases ru;obtain⟨z,y,ys,rel,o,es,ep,h1,h2,h3,h4,h5⟩:=(show zJ X.prog X.w H s.heap a (.dT kvs) from hq.ok I.hok);have hl:es.size=kvs.length:=by
  have:=congrArg List.length h4;rw[Ab,<- AN rel] at this
  simpa using this
 refine PySem.W.kdl_call (Dk.src (ep:=ep) (es:=es) y) (I.ok.hd hc) ⟨o,h1,h2,h3⟩ (by rw[hl]; exact z) fun h' tk acc c' kk e it=>?_;obtain⟨n1,n2⟩:=it;have pb:Paired (fun (p:List Key×V) b=>H b=some (.tup (p.1.map kV))) kvs (ys.map (·.2.1)):=by
  have:∀{l:List (List Key×V)} {m:List (List Key×Addr×Value)},KT H l m->Paired (fun (p:List Key×V) b=>H b=some (.tup (p.1.map kV))) l (m.map (·.2.1)):=by
   intro l m q
   induction q with
   | nil=>exact .nil
   | cons hq t ih=>exact .cons hq.2.1 ih
  exact this rel
 have ea:acc.toList=(ys.map (·.2.1)).map Value.ref:=by
  apply List.ext_getElem?;intro i;have hy:ys.length=acc.size:=by rw[n1,hl]; exact (AN rel).symm
  by_cases hi:i<acc.size
  ·obtain⟨e',g1,g2⟩:=n2 i acc[i] (by simp[hi])
   have g3:es.toList[i]?=some e':=by simpa using g1
   rw[h4,Al] at g3;have g4:ys[i]?=some ys[i]:=by simp[hy,hi]
   rw[g4] at g3;simp only[A3,Option.some.injEq] at g3;simp only[Al,g4,A3,AR,Array.getElem?_eq_getElem hi];rw[g2,<- g3]
   rfl
  ·have g1:acc.toList.length<=i:=by simp; omega
   have g2:((ys.map (·.2.1)).map Value.ref).length<=i:=by simp[hy]; omega
   rw[List.getElem?_eq_none g1,List.getElem?_eq_none g2]
 have vv:Vals ((ys.map (·.2.1)).map V.ref) acc.toList:=by
  rw[ea];generalize ys.map (·.2.1)=bs
  induction bs with
  | nil=>exact .nil
  | cons b bs ih=>exact .cons rfl ih
 refine⟨.ref s.heap.objs.size,_,I.laid kk (Af _) (show zJ X.prog X.w _ h' _ (.lst ((ys.map (·.2.1)).map V.ref)) from ⟨?_,acc.toList,c',vv,by simpa using e⟩),rfl,q _ pb _ (I.hok.fresh (Af _))⟩;simp only[Ab];rw[<- AN rel];exact z
theorem zkn {H:Hp}:∀{l:List (List Key×V)}{m:List (List Key×Addr×Value)}{i:Nat}{kv:List Key×V},KT H l m->l[i]?=some kv->∃w,m[i]?=some w/\kv.1=w.1/\RelV kv.2 w.2.2
 | _,_,0,_,.cons h _,e=>by cases e; exact⟨_,rfl,h.1,h.2.2⟩
 | _,_,i+1,_,.cons _ t,e=>zkn (i:=i) t (by simpa using e)
end
end L2
end
section
namespace L2
open PySem PySem.Spec PyProof.Rows
section
variable {X:Cx}
def Itk (d:Addr) (o:Obj) (kvs:List (List Key×V)):It:=⟨fun i H=>i<kvs.length/\H d=some (.frz o (.dT kvs)),fun i H v H'=>H'=H/\∃kv b,kvs[i]?=some kv/\v=.ref b/\H b=some (.tup (kv.1.map kV)),fun i H=>i=kvs.length/\H d=some (.frz o (.dT kvs))⟩
theorem kt_at {H:Hp}:∀{l:List (List Key×V)}{m:List (List Key×Addr×Value)}{i:Nat}{kv:List Key×V},KT H l m->l[i]?=some kv->∃w,m[i]?=some w/\H w.2.1=some (.tup (kv.1.map kV))
 | _,_,0,_,.cons h _,e=>by cases e; exact⟨_,rfl,h.2.1⟩
 | _,_,i+1,_,.cons _ t,e=>kt_at (i:=i) t (by simpa using e)
theorem zgF {P:Program}{w:World}{K:Ad}{tg:Expr} (d it:Addr) {o:Obj}{kvs:List (List Key×V)}{es:Array DictEntry}{ep:Nat} (hx:o.ExactDict) (hdat:o.data=.dict es ep) (hsz:es.size=kvs.length) :
  Turn P w K tg (Itk d o kvs) [it] it (fun i h=>h.IsKeyIter it d i es.size ep) where
 mem:=by simp
 obj:=fun i h st b hb=>by
  have e:b=it:=by simpa using hb
  subst e;obtain⟨o,e,c,dd⟩:=st;exact⟨o,e,fun v z=>by rw[dd] at z; cases z⟩
 keep:=fun i h h' st k=>by
  obtain⟨o,e,c⟩:=st;exact⟨o,k it (by simp) o e,c⟩
 item:=by
  intro X hP hw hK hc i pins s σ H E I hf st hg;subst hP hw hK;obtain⟨f0,f1,f2,f3,f4,f5⟩:=hf it (by simp);obtain⟨hi,hH⟩:=hg;obtain⟨g0,z,hs,ys,rel,o',es',ep',h1,h2,h3,h4,h5⟩:=(show zJ X.prog X.w H s.heap d (.frz o (.dT kvs)) from I.hok d _ hH);obtain rfl:o=o':=Ao (g0.symm.trans h1);have hde:=hdat.symm.trans h3;injection hde with hde hep
  subst hde;have hm:Dk.IsD s.heap d es ep:=⟨o,g0,hx,hdat⟩;have hi':i<es.size:=by rw[hsz]; exact hi
  refine Dk.item st hm hi' fun h' st' sb=>?_;have I1:Inv X pins σ H { s with heap:=h' }:=I.turned (t':=s.toks) (fun b o hb e=>(sb.2 b hb).trans e) f0 f1 f3 f4 f5;obtain⟨oi,e1,e2,e3⟩:=id st';have ek:kvs[i]?=some kvs[i]:=Ai hi;obtain⟨w',ew,hb⟩:=kt_at rel ek;have g3:es.toList[i]?=some es[i]:=by simp[hi']
  rw[h4,Al,ew] at g3;simp only[A3,Option.some.injEq] at g3;have gk:es[i].key=.ref w'.2.1:=by rw[<- g3]; rfl
  exact⟨_,rfl,zgs (s:={ s with heap:=h' }) e1 e2 e3 (by decide) ⟨.ref w'.2.1,H,I1,by rw[gk]; rfl,⟨rfl,_,_,ek,rfl,hb⟩,st',fun b hb=>(hf b hb).1⟩⟩
 done:=by
  intro X hP hw hK hc i pins s σ H E I hf st hg;subst hP hw hK;obtain⟨f0,f1,f2,f3,f4,f5⟩:=hf it (by simp);obtain⟨hi,hH⟩:=hg;have hm:Dk.IsD s.heap d es ep:=⟨o,(show zJ X.prog X.w H s.heap d (.frz o (.dT kvs)) from I.hok d _ hH).1,hx,hdat⟩;have hi':i=es.size:=by rw[hsz]; exact hi
  subst hi';exact Dk.done (I.ok.hd hc) st hm fun h' eb=>⟨rfl,I.turned (t':=s.toks) (fun b o hb e=>eb b o hb e) f0 f1 f3 f4 f5⟩
 self:=fun A i s Q E st h=>wpAny_pyIter_keyiter st h
def zm8 (te:TE):TI:=fun σ H R=>te σ H fun x H1=>∃d kvs,x=.ref d/\Rd H1 d (.dT kvs)/\∀o H2,H2 d=some (.frz o (.dT kvs))->(∀b,b≠d->H2 b=H1 b)->R (Itk d o kvs) H2
theorem zkq {tg l:Expr}{tl:TE} (hl:PE X l tl):PI X tg l (zm8 tl):=by
 intro pins s σ H R I h;refine thn (hl pins s σ H _ I h) fun v s1 ⟨x,H1,I1,r1,q1⟩=>?_;obtain⟨d,kvs,e,hd,q⟩:=q1;subst e;cases r1;have go:∀(o:Obj) (H2:Hp),Inv X pins σ H2 s1->H2 d=some (.frz o (.dT kvs))->(∀b,b≠d->H2 b=H1 b)->wpAny (model X.prog X.w) X.A (pyIter (.ref d)) (PIE X pins σ tg R) X.xe s1:=by
  intro o H2 I2 hd2 hoth;obtain⟨g0,z,hs,ys,rel,o',es,ep,h1,h2,h3,h4,h5⟩:=(show zJ X.prog X.w H2 s1.heap d (.frz o (.dT kvs)) from I2.hok d _ hd2);obtain rfl:o=o':=Ao (g0.symm.trans h1);have hsz:es.size=kvs.length:=by
   have:=congrArg List.length h4;rw[Ab,<- AN rel] at this
   simpa using this
  have hm:Dk.IsD s1.heap d es ep:=⟨o,h1,h2,h3⟩;refine Dk.iter hs hm ?_;have hfr:H2 s1.heap.objs.size=none:=I2.hok.fresh (Af _);refine⟨s1.heap.objs.size,[s1.heap.objs.size],_,_,_,rfl,I2.kept (t':=s1.toks) fun b o e=>Ae _ e,zgF d _ h2 h3 hsz,⟨_,Aq _ rfl,rfl,rfl⟩,fun b hb=>?_,q o H2 hd2 hoth⟩;have e:b=s1.heap.objs.size:=by simpa using hb
  subst e;exact I2.fpOk (Af _) hfr
 rcases hd with hd | ⟨o,hd⟩
 ·obtain⟨z,hs,ys,rel,o,es,ep,h1,h2,h3,h4,h5⟩:=(show zJ X.prog X.w H1 s1.heap d (.dT kvs) from I1.hok d _ hd)
  have hkt:KT (upd H1 d (.frz o (.dT kvs))) kvs ys:=KT.keeps rel fun b zs e=>by rw[zk (fun zz=>by rw[zz,hd] at e; cases e)]; exact e
  exact go o (upd H1 d (.frz o (.dT kvs))) (zcv (ob:=.frz o (.dT kvs)) (t':=s1.toks) I1 (by rw[hd]; exact True.intro) (Heap.SameBut.refl _ _) ⟨o,h1⟩ ⟨h1,z,hs,ys,hkt,o,es,ep,h1,h2,h3,h4,h5⟩) upd_same fun b hb=>zk hb
 ·exact go o H1 I1 hd fun _ _=>rfl
theorem zjB {d:Addr}{o:Obj}{kvs:List (List Key×V)}{g:TG}{tb:TS}{D:Ends}{σ:St}{H:Hp} (Pv:Nat->St->Hp->Prop) (h0:Pv 0 σ H) (hl:∀i σ H,i<=kvs.length->Pv i σ H->H d=some (.frz o (.dT kvs)))
  (hs:∀i kv b σ H,kvs[i]?=some kv->H b=some (.tup (kv.1.map kV))->Pv i σ H->g (.ref b) σ H fun σ2 H2=>tb { D with nx:=Pv (i+1),ct:=Pv (i+1),bk:=D.nx } σ2 H2) (hd:∀σ H,Pv kvs.length σ H->D.nx σ H) :
  ∃W:Nat->Nat->St->Hp->Prop,(∃m,W 0 m σ H)/\∀i m σ H,W i m σ H->
   ((Itk d o kvs).stop i H/\D.nx σ H) \/ ((Itk d o kvs).go i H/\∃N:St->Hp->Prop,(∀σ' H',N σ' H'->∃m',m'<m/\W (i+1) m' σ' H')/\∀x H',(Itk d o kvs).yld i H x H'->g x σ H' fun σ2 H2=>tb { D with nx:=N,ct:=N,bk:=D.nx } σ2 H2):=by
 refine⟨fun i m σ H=>m=kvs.length - i/\i<=kvs.length/\Pv i σ H,⟨kvs.length,by simp,AO _,h0⟩,?_⟩;rintro i m σ H ⟨rfl,hi,p⟩;have q:=hl i σ H hi p
 by_cases hlt:i<kvs.length
 ·refine .inr ⟨⟨hlt,q⟩,Pv (i+1),fun σ' H' p'=>⟨kvs.length - (i+1),by omega,rfl,hlt,p'⟩,fun x H' y=>?_⟩
  obtain⟨e,kv,b,ek,rfl,hb⟩:=y;subst e;exact hs i kv b σ _ ek hb p
 ·have:i=kvs.length:=by omega
  subst this;exact .inl ⟨⟨rfl,q⟩,hd σ H p⟩
end
end L2
end
section
namespace Dk
open PySem PySem.Spec PyProof.Rows
def II (h:Heap) (it d:Addr) (i n ep:Nat):Prop:=∃(f0:Value) (b:Bool) (k v:Value),(f0=.none \/ ∃a:Addr,f0=rawInt a)/\
 h.get? it=some { cls:=.type "dict_itemiterator",dict:=none,data:=.fields #[f0,.bool b,.ref d,.int i 0,.int n 0,.int ep 0,k,v],slots:=#[] }
theorem II.at {h h':Heap}{it d:Addr}{i n ep:Nat} (x:II h it d i n ep) (k:∀o,h.get? it=some o->h'.get? it=some o):II h' it d i n ep:=by
 obtain⟨f0,b,k0,v0,hf,e⟩:=x;exact⟨f0,b,k0,v0,hf,k _ e⟩
section
variable {prog:Program}{w:World}{A:Around}{E:Value->Shared->Prop}{s:Shared}{it d v:Addr}{i ep:Nat}{es:Array DictEntry}
theorem zhM {a:Addr}{Q:Option Obj->Shared->Prop} (h:Q (s.heap.get? a) s):wpAny (model prog w) A (loadIfAlive a) Q E s:=fun _ _ _=>h
theorem iiter {Q:Value->Shared->Prop} (hv:s.heap.IsItemsView v d) (hm:IsD s.heap d es ep)
  (hQ:Q (.ref s.heap.objs.size) { s with heap:=s.heap.push { cls:=.type "dict_itemiterator",data:=.fields #[.none,.bool false,.ref d,.int 0 0,.int es.size 0,.int ep 0,.none,.none] } }):wpAny (model prog w) A (pyIter (.ref v)) Q E s:=by
 obtain⟨ov,hov,hcv,hdv⟩:=id hv;obtain⟨o,ho,hc,hdat⟩:=id hm;refine wpAny_pyIter_slot hv.typeIs PySem.F.slot_dict_items_iter (A2 PySem.F.slot_dict_items_iter hv.typeIs PySem.F.entry_dict_items_iter ?_ (PySem.F.args_dict_items_iter_1 _));unfold Builtin.«dict_items.__iter__»;refine Aa (Ac ?_);refine Aa ?_;unfold Builtin.Dict_items.dictOf;refine Aa (A9 hov hdv (x:=.ref d) rfl (Ac ?_));refine Aa ?_;unfold Builtin.Dict_items.newIterator;refine Aa (wpAny_dictEntries ho hdat ?_);refine Aa (wpAny_dictEpoch ho hdat ?_);have hown:Builtin.Dict_items.ownsTuple "dict_itemiterator"=true:=by decide
 simp only[hown,if_true];refine AZ (Ac ⟨_,rfl,"dict_itemiterator",_,⟨_,Aq _ rfl,rfl⟩,PySem.F.slot_dict_itemiterator_next.lookup,?_⟩)
  (by simp only[sizeOk,Builtin.Dict_items.ownedTupleFields,Aj,Ah,Aw,List.length_nil,sizeLine_eq]; omega)
 simpa[rawInt,Builtin.Dict_items.ownedTupleFields] using hQ
theorem iitem {Q:Option Value->Shared->Prop} (hit:II s.heap it d i es.size ep) (hm:IsD s.heap d es ep) (hx:i<es.size)
  (hQ:∀h',II h' it d (i+1) es.size ep->h'.get? s.heap.objs.size=some { cls:=.type "tuple",data:=.seq #[es[i].key,es[i].val] }->
   (∀b o,b≠it->s.heap.get? b=some o->h'.get? b=some o)->Q (some (.ref s.heap.objs.size)) { s with heap:=h' }):wpAny (model prog w) A (pyNext (.ref it)) Q E s:=by
 obtain⟨hp,g,dr,tk,os⟩:=s;obtain⟨f0,fb,ok,ov,hf0,hit⟩:=hit;obtain⟨od,hod,hcd,hdd⟩:=id hm;have hT:Shared.TypeIs ⟨hp,g,dr,tk,os⟩ (.ref it) "dict_itemiterator":=⟨_,hit,rfl⟩;unfold pyNext;refine Aa (wpAny_attempt (wpAny_callSpecial?_slot (name:=Str.ofString "__next__") hT PySem.F.slot_dict_itemiterator_next
  (A2 PySem.F.slot_dict_itemiterator_next hT PySem.F.entry_dict_itemiterator_next ?_ (PySem.F.args_dict_itemiterator_next_1 _))))
 refine Aa (Ac ?_);refine Aa ?_;refine Aa ?_
 first | refine Aa (wpAny_typeNameOfWhole_itemiter hT (Ac ?_)) | refine Aa (wpAny_typeNameOf_itemiter hT (Ac ?_))
 refine Aa (wpAny_fieldsOf hit rfl ?_);have hown:Builtin.Dict_items.ownsTuple "dict_itemiterator"=true:=by decide
 simp only[hown,if_true];show wpAny _ _ (if (Value.ref d == Value.none)=true then _ else _) _ _ _;rw[if_neg (show ¬ ((Value.ref d == Value.none)=true) from AA)];refine Aa (Ac ?_);refine Aa (wpAny_dictEntries hod hdd ?_);rw[if_neg (by simp)];refine Aa (Ac ?_);refine Aa (wpAny_dictEpoch hod hdd ?_);rw[if_neg (by simp)];refine Ac ?_;simp only[show ¬ ((i:Int)<0) from by omega,if_false,Int.toNat_natCast,Array.getElem?_eq_getElem hx];refine Aa ?_
 first | refine Aa (wpAny_typeNameOfWhole_itemiter hT (Ac ?_)) | refine Aa (wpAny_typeNameOf_itemiter hT (Ac ?_))
 refine Aa (wpAny_isOneOf_itemiter hT ?_);show wpAny _ _ (setField (.ref it) 3 (rawInt ((i:Int)+1)) >>= _) _ _ ⟨hp,g,dr,tk,os⟩;refine Aa (A5 hit (by simp) fun h₁ he₁ hs₁=>?_);replace hs₁:AX it hp h₁:=hs₁;replace he₁:h₁.get? it=some { cls:=.type "dict_itemiterator",dict:=none,data:=.fields #[f0,.bool fb,.ref d,.int ((i+1:Nat):Int) 0,.int es.size 0,.int ep 0,ok,ov],slots:=#[] }:=by
  have e:((i+1:Nat):Int)=(i:Int)+1:=by omega
  rw[e]; simpa[rawInt] using he₁
 have hT₁:Shared.TypeIs ⟨h₁,g,dr,tk,os⟩ (.ref it) "dict_itemiterator":=⟨_,he₁,rfl⟩;refine Aa (AW ?_);refine Aa (wpAny_isOneOf_itemiter hT₁ ?_);refine Aa (wpAny_isOneOf_itemiter hT₁ ?_);show wpAny _ _ (Builtin.Dict_items.pairFromOwner (.ref it) 6 es[i].key es[i].val) _ _ ⟨h₁,g,dr,tk,os⟩;unfold Builtin.Dict_items.pairFromOwner;refine Aa (wpAny_newTuple ?_);have he₂:(h₁.push { cls:=.type "tuple",data:=.seq #[es[i].key,es[i].val] }).get? it=some { cls:=.type "dict_itemiterator",dict:=none,data:=.fields #[f0,.bool fb,.ref d,.int ((i+1:Nat):Int) 0,.int es.size 0,.int ep 0,ok,ov],slots:=#[] }:=Ae _ he₁;generalize hh₂:h₁.push { cls:=.type "tuple",data:=.seq #[es[i].key,es[i].val] }=h₂ at he₂;have hz₁:h₁.objs.size=hp.objs.size:=hs₁.1;have hil:it<hp.objs.size:=Au hit;have ht₂:h₂.get? hp.objs.size=some { cls:=.type "tuple",data:=.seq #[es[i].key,es[i].val] }:=by rw[<- hh₂,<- hz₁]; exact Aq _ rfl
 have hk₂:∀b o,b≠it->hp.get? b=some o->h₂.get? b=some o:=fun b o hb e=>by rw[<- hh₂]; exact Ae _ (hs₁.extBut b o hb e)
 show wpAny _ _ (Builtin.Dict_items.ownedTupleIsFree (.ref it) >>= _) _ _ ⟨h₂,g,dr,tk,os⟩;rw[hz₁];clear hh₂ he₁ hs₁ hT₁ hz₁ h₁;have free:∀(E':Value->Shared->Prop) (R:Value->Shared->Prop),(∀h',II h' it d (i+1) es.size ep->h'.get? hp.objs.size=some { cls:=.type "tuple",data:=.seq #[es[i].key,es[i].val] }->
   (∀b o,b≠it->hp.get? b=some o->h'.get? b=some o)->R (.ref hp.objs.size) ⟨h',g,dr,tk,os⟩)->wpAny (model prog w) A.in1 (do
    let old:=[<- field (.ref it) 6,<- field (.ref it) (6+1)]
    setField (.ref it) 6 es[i].key; setField (.ref it) (6+1) es[i].val
    setField (.ref it) 0 (rawInt hp.objs.size); setField (.ref it) 1 (.bool false)
    letGo old [.ref hp.objs.size]
    return .ref hp.objs.size) R E' ⟨h₂,g,dr,tk,os⟩:=by
  intro E' R hR;refine Aa (A9 he₂ rfl (x:=ok) rfl ?_);refine Aa (A9 he₂ rfl (x:=ov) rfl ?_);refine Aa (A5 he₂ (by simp) fun h₃ he₃ hs₃=>?_);replace hs₃:AX it h₂ h₃:=hs₃;refine Aa (A5 he₃ (by simp) fun h₄ he₄ hs₄=>?_);replace hs₄:AX it h₃ h₄:=hs₄;refine Aa (A5 he₄ (by simp) fun h₅ he₅ hs₅=>?_);replace hs₅:AX it h₄ h₅:=hs₅;refine Aa (A5 he₅ (by simp) fun h₆ he₆ hs₆=>?_);replace hs₆:AX it h₅ h₆:=hs₆;replace he₆:h₆.get? it=some { cls:=.type "dict_itemiterator",dict:=none,data:=.fields #[rawInt hp.objs.size,.bool false,.ref d,.int ((i+1:Nat):Int) 0,.int es.size 0,.int ep 0,es[i].key,es[i].val],slots:=#[] }:=he₆;refine Aa (wpAny_letGo (Ac (hR h₆ ⟨_,_,_,_,.inr ⟨_,rfl⟩,he₆⟩ ?_ ?_)))
  ·exact hs₆.extBut _ _ (Nat.ne_of_gt hil) (hs₅.extBut _ _ (Nat.ne_of_gt hil) (hs₄.extBut _ _ (Nat.ne_of_gt hil) (hs₃.extBut _ _ (Nat.ne_of_gt hil) ht₂)))
  ·exact fun b o hb e=>hs₆.extBut b o hb (hs₅.extBut b o hb (hs₄.extBut b o hb (hs₃.extBut b o hb (hk₂ b o hb e))))
 refine Aa ?_;unfold Builtin.Dict_items.ownedTupleIsFree;refine Aa (A9 he₂ rfl (x:=f0) rfl ?_);rcases hf0 with rfl | ⟨a,rfl⟩
 ·refine Ac ?_
  simp only[if_true];exact free _ _ fun h' x1 x2 x3=>Ac ⟨_,rfl,Ac (hQ h' x1 x2 x3)⟩
 ·dsimp only[rawInt]
  refine Aa (zhM ?_);cases hal:h₂.get? ((a:Int)).toNat with
  | none=>
   simp only[Option.isNone_none,if_true];refine Ac ?_;simp only[if_true];exact free _ _ fun h' x1 x2 x3=>Ac ⟨_,rfl,Ac (hQ h' x1 x2 x3)⟩
  | some oa=>
   simp only[Option.isNone_some,As,if_false];refine Aa (A9 he₂ rfl (x:=.bool fb) rfl ?_);refine wpAny_ite_split (fun _=>?_) (fun _=>?_)
   ·refine Aa (A5 he₂ (by simp) fun h₃ he₃ hs₃=>?_)
    replace hs₃:AX it h₂ h₃:=hs₃;refine Ac ?_;simp only[As,if_false];refine Ac (Ac ⟨_,rfl,Ac (hQ h₃ ⟨_,_,_,_,.inr ⟨a,rfl⟩,he₃⟩ ?_ ?_)⟩)
    ·exact hs₃.extBut _ _ (Nat.ne_of_gt hil) ht₂
    ·exact fun b o hb e=>hs₃.extBut b o hb (hk₂ b o hb e)
   ·refine Ac ?_
    simp only[As,if_false];exact Ac (Ac ⟨_,rfl,Ac (hQ h₂ ⟨_,_,_,_,.inr ⟨a,rfl⟩,he₂⟩ ht₂ hk₂)⟩)
theorem iend {Q:Option Value->Shared->Prop} (hh:A.handled=none) (hit:II s.heap it d es.size es.size ep) (hm:IsD s.heap d es ep)
  (hQ:∀h',Heap.ExtBut it s.heap h'->Q none { s with heap:=h' }):wpAny (model prog w) A (pyNext (.ref it)) Q E s:=by
 obtain⟨f0,fb,ok,ov,hf0,hit⟩:=hit;obtain⟨od,hod,hcd,hdd⟩:=id hm;have hT:s.TypeIs (.ref it) "dict_itemiterator":=⟨_,hit,rfl⟩;unfold pyNext;refine Aa (wpAny_attempt (wpAny_callSpecial?_slot (name:=Str.ofString "__next__") hT PySem.F.slot_dict_itemiterator_next
  (A2 PySem.F.slot_dict_itemiterator_next hT PySem.F.entry_dict_itemiterator_next ?_ (PySem.F.args_dict_itemiterator_next_1 _))))
 refine Aa (Ac ?_);refine Aa ?_;refine Aa ?_
 first | refine Aa (wpAny_typeNameOfWhole_itemiter hT (Ac ?_)) | refine Aa (wpAny_typeNameOf_itemiter hT (Ac ?_))
 refine Aa (wpAny_fieldsOf hit rfl ?_);have hown:Builtin.Dict_items.ownsTuple "dict_itemiterator"=true:=by decide
 simp only[hown,if_true];show wpAny _ _ (if (Value.ref d == Value.none)=true then _ else _) _ _ s;rw[if_neg (show ¬ ((Value.ref d == Value.none)=true) from AA)];refine Aa (Ac ?_);refine Aa (wpAny_dictEntries hod hdd ?_);rw[if_neg (by simp)];refine Aa (Ac ?_);refine Aa (wpAny_dictEpoch hod hdd ?_);rw[if_neg (by simp)];refine Ac ?_;simp only[show ¬ ((es.size:Int)<0) from by omega,if_false,Int.toNat_natCast,Array.getElem?_eq_none (Af es.size)];refine Aa ?_
 first | refine Aa (wpAny_typeNameOfWhole_itemiter hT (Ac ?_)) | refine Aa (wpAny_typeNameOf_itemiter hT (Ac ?_))
 show wpAny _ _ (setField (.ref it) 2 .none >>= _) _ _ s;refine Aa (wpAny_setField hit rfl (by simp) ?_);show wpAny _ _ (newExc (.type "StopIteration") [] >>= _) _ _ _;refine Aa ?_;simp only[newExc,newTuple];refine Aa (AZ ?_ (by size_fits));refine Aa (m:=firstArgMember _ _) (wpAny_of_eq (a:=Value.none) (by first | rfl | (simp only[firstArgMember]; rfl)) ?_);refine AZ ?_ (by size_fits);simp only[raiseNew];refine Aa (wpAny_handled ?_);rw[show A.in1.handled=none from hh];refine Aa (Ac (wpAny_throw ?_));refine Aa (wpAny_isInstance (T:="StopIteration") (b:=true) ⟨_,Aq _ rfl,rfl⟩ isSubtype_stop ?_);exact Ac (hQ _ (((Heap.SameBut.update ..).extBut.push _).push _))
end
end Dk
end
section
namespace Dk
open PySem PySem.Spec PyProof.Rows
section
variable {prog:Program}{w:World}{A:Around}{E:Value->Shared->Prop}{s:Shared}{r d:Addr}{ep:Nat}{es:Array DictEntry}
end
end Dk
namespace L2
open PySem PySem.Spec PyProof.Rows
section
variable {X:Cx}{pins:List (Addr×Obj)}{σ:St}{H:Hp}{s:Shared}
end
section
variable {X:Cx}
def itO (v d:Addr):HO:=.ext fun h=>h.IsItemsView v d
def zhf:V->List V->Hp->VK->Prop:=fun x vs H Q=>∃d kvs,x=.ref d/\vs=[]/\Rd H d (.dT kvs)/\∀v,H v=none->Q (.ref v) (upd H v (itO v d))
theorem mt_itemsT:MtR X "dict.items" zhf:=by
 intro pins s σ H x vs v us Q I rx rv h;obtain⟨d,kvs,rfl,rfl,hd,q⟩:=h;cases rx;obtain rfl:=rv.zero;obtain⟨z,hs,ys,rel,o,es,ep,h1,h2,h3,h4,h5⟩:=(show zJ X.prog X.w H s.heap d (.dT kvs) from hd.ok I.hok);have hT:s.TypeIs (.ref d) "dict":=⟨o,h1,h2.1⟩;have mm:MeetsIn X.prog X.w (Builtin.«dict.items» ⟨[.ref d],[]⟩) (fun _ R s=>s.TypeIs (.ref d) "dict"/\R (.ok (.ret (.ref s.heap.objs.size))) { s with heap:=s.heap.push { cls:=.type "dict_items",data:=.fields #[.ref d] } }):=
  .of_wp fun A R s ⟨hT,h⟩=>by
   unfold Builtin.«dict.items»;refine Aa ?_;unfold Builtin.Dict.noArgs;refine Aa (wpAny_notOrdered_dict hT ?_);show wpAny _ _ (pure d) _ _ s;refine Ac ?_;show wpAny _ _ (Builtin.Dict.showsAll d >>= _) _ _ s;unfold Builtin.Dict.showsAll;rw[if_neg (by rw[hs]; exact AA)];refine Aa (Ac ?_);exact Aa (AZ (Ac ⟨_,rfl,h⟩))
 refine call_meetsIn PySem.F.slot_dict_items hT PySem.F.entry_dict_items (PySem.F.args_dict_items_1 _) mm ⟨hT,?_⟩;refine⟨.ref s.heap.objs.size,_,I.laid (t':=s.toks) (o:=itO s.heap.objs.size d) (fun b ob q=>Ae _ q) (Af _) ?_,rfl,q _ (I.hok.fresh (Af _))⟩;refine⟨⟨_,Aq _ rfl,rfl,rfl⟩,⟨_,Aq _ rfl⟩,fun h1 h2 p k=>?_⟩;obtain⟨o,ho,c⟩:=p;exact⟨o,k o ho,c⟩
def zkD (to:TE):TE:=fun σ H Q=>to σ H fun x H1=>zhf x [] H1 Q
theorem zhe {o:Expr}{to:TE}{apos cpos:Pos} (ho:PE X o to) (hbase:attributeBase o "items" X.env (eval o X.env)=eval o X.env:=by rfl) (hline:(apos.endLine == cpos.line)=true:=by rfl):PE X (.Call (.Attribute o "items" apos) [] [] cpos) (zkD to):=by
 intro pins s σ H Q I h;refine wpAny_Call_method0_late hbase hline (thn (ho pins s σ H _ I h) fun v s1 ⟨x,H1,I1,r1,q1⟩=>?_);have q2:=q1;obtain⟨d,kvs,rfl,_,hd,_⟩:=q1;cases r1;obtain⟨_,_,_,_,ob,_,_,e,ex,_⟩:=(show zJ X.prog X.w H1 s1.heap d (.dT kvs) from hd.ok I1.hok);exact⟨"dict","dict.items",PySem.F.plainAttrs_dict,PySem.F.slot_dict_items,PySem.F.type_dict_items,⟨ob,e,ex.1⟩,(fun a z=>by cases z; exact⟨ob,e,ex.2.1⟩),Calls.callWith_builtin rfl (PySem.evalArgs_none (mt_itemsT pins s1 σ H1 (.ref d) [] (.ref d) [] Q I1 rfl .nil q2))⟩
end
end L2
end
section
namespace L2
open PySem PySem.Spec PyProof.Rows
abbrev Pp:Type:=List Int×List Int
def Pr2 (H:Hp) (t:Addr) (x:Pp):Prop:=∃a b,H t=some (.tup [.ref a,.ref b])/\Tp H a x.1/\Tp H b x.2
def Prs2 (H:Hp) (ts:List Addr) (xs:List Pp):Prop:=Paired (Pr2 H) ts xs
abbrev ppD (x:Pp):PyData:=.tuple [.tuple (x.1.map A1),.tuple (x.2.map A1)]
abbrev ppsD (xs:List Pp):PyData:=.list (xs.map ppD)
theorem Pr2.same {H H':Hp}{t:Addr}{x:Pp} (h:Pr2 H t x) (s:Same H H'):Pr2 H' t x:=let ⟨a,b,e,p,q⟩:=h; ⟨a,b,s _ _ e,s.tp p,s.tp q⟩
theorem Prs2.same {H H':Hp}{ts:List Addr}{xs:List Pp} (h:Prs2 H ts xs) (s:Same H H'):Prs2 H' ts xs:=Paired.mapP h fun _ _ q=>q.same s
theorem Prs2.length {H:Hp}{ts:List Addr}{xs:List Pp} (h:Prs2 H ts xs):ts.length=xs.length:=AN h
theorem Pr2.upd {H:Hp}{d t:Addr}{o o':HO}{x:Pp} (h:Pr2 H t x) (hd:H d=some o') (hn:∀xs,o'≠.tup xs):Pr2 (L2.upd H d o) t x:=by
 obtain⟨a,b,e,p,q⟩:=h;have go:∀{c:Addr} {ys:List V},H c=some (.tup ys)->L2.upd H d o c=some (.tup ys):=fun {c ys} ec=>by rw[zk (zbz ec hd fun z=>hn _ z.symm)]; exact ec
 exact⟨a,b,go e,go (show H a=some _ from p),go (show H b=some _ from q)⟩
theorem Prs2.upd {H:Hp}{d:Addr}{o o':HO}{ts:List Addr}{xs:List Pp} (h:Prs2 H ts xs) (hd:H d=some o') (hn:∀xs,o'≠.tup xs):Prs2 (L2.upd H d o) ts xs:=Paired.mapP h fun _ _ q=>q.upd hd hn
theorem Prs2.snoc {H:Hp}{ts:List Addr}{xs:List Pp}{t:Addr}{x:Pp} (h:Prs2 H ts xs) (q:Pr2 H t x):Prs2 H (ts++[t]) (xs++[x]):=Paired.snoc h q
theorem Prs2.get {H:Hp}:∀{ts:List Addr}{xs:List Pp}{i:Nat}{t:Addr},Prs2 H ts xs->ts[i]?=some t->∃x,xs[i]?=some x/\Pr2 H t x
 | _,_,0,_,.cons h _,e=>by cases e; exact⟨_,rfl,h⟩
 | _,_,i+1,_,.cons _ t,e=>Prs2.get (i:=i) t (by simpa using e)
section
variable {X:Cx}{pins:List (Addr×Obj)}{σ:St}{H:Hp}{s:Shared}
theorem ziw {t:Addr}{x:Pp} (I:Inv X pins σ H s) (h:Pr2 H t x):Reads s.heap (.ref t) (ppD x) []:=by
 obtain⟨a,b,e,p,q⟩:=h;obtain⟨its,r,pt,_⟩:=I.tuple (SqT.of e);obtain rfl:=vals_refs (as:=[a,b]) r;obtain⟨o,ho,hc,n,hd⟩:=id pt;exact .tuple ho hc hd (.cons (as:=[]) (bs:=[]) (zaT I p) (.cons (as:=[]) (bs:=[]) (zaT I q) .nil))
theorem zhx (I:Inv X pins σ H s):∀{ts:List Addr}{xs:List Pp},Prs2 H ts xs->ReadsAll s.heap (ts.map Value.ref) (xs.map ppD) []:=by
 intro ts xs h
 induction h with
 | nil=>exact .nil
 | cons r t ih=>exact .cons (as:=[]) (bs:=[]) (ziw I r) ih
theorem zeD {l:Addr}{ts:List Addr}{xs:List Pp} (I:Inv X pins σ H s) (hl:SqL X.K H l (ts.map V.ref)) (h:Prs2 H ts xs):Reads s.heap (.ref l) (ppsD xs) [l]:=by
 obtain⟨its,r,p,_⟩:=I.list hl;obtain rfl:=vals_refs r;obtain⟨o,ho,hc,n,hd⟩:=p.isList;exact .list ho hc hd (by simpa using zhx I h)
end
theorem zhG (x:Pp):PyData.canLay0 (ppD x)=true:=by simp[PyData.canLay0,PyData.canLayAll0,zcI,PySem.W.ke_canLayAll0]
theorem zi6 (x:Pp):PyData.depth (ppD x)=2:=by simp[PyData.depth,PyData.depthAll,PySem.W.ke_depthAll]
theorem zdb:∀xs:List Pp,PyData.canLayAll0 (xs.map ppD)=true
 | []=>rfl
 | x::r=>by rw[Av,PyData.canLayAll0,zhG,zdb r]; rfl
theorem zeo:∀xs:List Pp,PyData.depthAll (xs.map ppD)<=2
 | []=>AO _
 | x::r=>by rw[Av,PyData.depthAll,zi6]; exact Nat.max_le.mpr ⟨Af _,zeo r⟩
theorem zgm (xs:List Pp):SeqAt.shaped (ppsD xs)=true:=by
 have:=zeo xs;have e:PyData.depth (ppsD xs)<=64:=by rw[PyData.depth]; omega
 unfold SeqAt.shaped;rw[decide_eq_true e,PyData.canLay0,zdb]
 rfl
theorem zlI (x y:Pp):same (ppD x) (ppD y)=decide (x=y):=by
 obtain⟨a,b⟩:=x;obtain⟨c,d⟩:=y;simp only[same,sameAll,PySem.W.ke_sameAll,Bool.and_true]
 by_cases h:a=c <;> by_cases h':b=d <;> simp[h,h']
theorem zf5:∀xs ys:List Pp,sameAll (xs.map ppD) (ys.map ppD)=decide (xs=ys)
 | [],[]=>by simp[sameAll]
 | [],_::_=>by simp[sameAll]
 | _::_,[]=>by simp[sameAll]
 | a::r,b::t=>by
  rw[Av,Av,sameAll,zlI,zf5 r t]
  by_cases h:a=b <;> by_cases h':r=t <;> simp[h,h']
theorem zhT (xs:List Pp):(Shape.list (.tuples (.tuples .int))).has (ppsD xs)=true:=by simp[Shape.has]
section
variable {X:Cx}
end
end L2
end
section
namespace K48
open K1
open PySem L2 STb
abbrev zbs:Stmt:=top 45
abbrev znf (K:Ad):List V->Hp->VK->Prop:=fun xs H Q=>∃p ys,xs=[.ref p]/\(SqL K H p ys \/ SqT K H p ys)/\Q (.int ys.length) H
abbrev tGt1 (K:Ad):TT:=zdg (tOp (rI0 fun i j=>.bl (decide (j<i))) (tCB (znf K) (zW (tVar 1) tNil)) (tC (.int 1)))
section
variable {P:Program}{w:World}{K:Ad}{mg:Str->Option Value}{base:Heap}
theorem zid {H2:Hp}{a D:Addr}{ps:List Int}{Q:VK} (ha:Tp H2 a ps) (hz:ps.length<=5) (hD:H2 D=none)
  (k:∀(H3:Hp) (bs:List Addr),Same H2 H3->H3 D=some (.lst (bs.map V.ref))->Tps H3 bs (rims ps)->Q (.ref D) H3) :
  zaj (Itr 0 ps.length) (zX 0) (tGt1 K) tRim [none,some (.ref a)] H2 D Q:=by
 refine zc8 (fun j σ ys H3=>∃(v:Option V) (bs:List Addr),σ=[v,some (.ref a)]/\Same H2 H3/\H3 D=some (.lst ys)/\ys=bs.map V.ref/\Tps H3 bs ((rims ps).take j)) ?_ ?_ ?_
 ·exact⟨none,[],rfl,Same.new hD,upd_same,rfl,by rw[List.take_zero]; exact .nil⟩
 ·rintro j σ ys H3 hj hy ⟨v,bs,rfl,sm,hD3,rfl,hb⟩
  refine⟨_,rfl,a,_,rfl,.inr (SqT.of (sm.tp ha)),_,_,rfl,rfl,_,rfl,?_⟩;rw[Ab]
  by_cases h1:ps.length=1
  ·have er:rims ps=[]:=by unfold rims; rw[if_pos h1]
   rw[decide_eq_false (by omega)];refine iteF (cskip hj hy ⟨_,bs,rfl,sm,hD3,rfl,?_⟩);rw[er] at hb ⊢;rw[List.take_nil] at hb ⊢;exact hb
  ·have er:rims ps=(A7 ps.length).map fun k=>ps.take k++ps.drop (k+1):=by unfold rims; rw[if_neg h1]
   rw[decide_eq_true (by omega)];refine iteT ?_;have e:(rims ps)[j]?=some (ps.take j++ps.drop (j+1)):=by rw[er,Al,List.getElem?_range hj]; rfl
   refine⟨_,rfl,_,rfl,_,rfl,a,_,rfl,sm.tp ha,fun p1 H4 sm4 hp1=>⟨_,rfl,_,rfl,_,_,rfl,rfl,_,rfl,a,_,rfl,sm4 _ _ (sm.tp ha),fun p2 H5 sm5 hp2=>?_⟩⟩;rw[show (0:Int)+((j:Nat):Int)=((j:Nat):Int) by omega,cutk _ _ (by rw[Ab]; omega),<- List.map_take] at hp1;rw[show (0:Int)+((j:Nat):Int)+1=((j+1:Nat):Int) by omega,cutd _ _ (by rw[Ab]; omega),<- List.map_drop] at hp2;refine⟨p1,p2,_,_,rfl,rfl,sm5 _ _ hp1,hp2,line_big (by simp; omega),fun p3 H6 sm6 hp3=>?_⟩;rw[<- Ag] at hp3;have s6:=(sm4.trans sm5).trans sm6;refine cput (line_big (by omega)) hj hy (s6 _ _ hD3) ⟨_,bs++[p3],rfl,(sm.trans s6).then hD,upd_same,by rw[Ag]; rfl,?_⟩;rw[AH e];exact Tps.upd (Tps.snoc (s6.tps hb) hp3) (s6 _ _ hD3) (by intro xs z; cases z)
 ·rintro σ ys H3 ⟨v,bs,rfl,sm,hD3,rfl,hb⟩
  rw[An (zao ps)] at hb;exact k H3 bs sm hD3 hb
theorem zlq:zu ["piece"] ["piece"] (zh zbs):=⟨rfl,rfl,rfl,by decide +kernel,rfl,by decide +kernel,by decide +kernel⟩
theorem zdT {f:Addr}{fd:FuncData} (F:Fun K "_law_rims" "_law_rims" zbs f fd) (B:Bt mg):FnOk P w K mg base CX0 1 f fd ["piece"] zbK:=by
 refine F.ok zlq (fun vs H Q E h=>?_) (fun cdv A outer s H vs Q E hr h=>?_)
 ·obtain⟨a,ps,rfl,_⟩:=h; rfl
 ·obtain⟨a,ps,rfl,ha,h5,k⟩:=h
  refine⟨_,zi (zt (zx ["piece"] ["k","piece"] [none,some 0] (zaN rfl B.range (ze (zv zo rfl B.len zaI (ze (pv 0) zg)) zg)) (fun cl C s₀ H₀ ex=>zm (i:=0) (ndN ["k","piece"]) rfl (Or.inl rfl))
    (fun cl C s₀ H₀ ex=>zbB (zy zc1 (zv zo rfl B.len zaI (ze (pv 1) zg)) zl (nomark _)))
    (fun cl C s₀ H₀ ex=>zH zdj (zaF zdq (pv 1) za5 (za2 (pv 0))) (zaF zdq (pv 1) (za2 (zH zat (pv 0) zl)) za5)) (hfr:=frOf (zh zbs) (by decide +kernel)) (tc:=tGt1 K) (te:=tRim))),?_⟩
  refine⟨_,rfl,a,_,rfl,.inr (SqT.of ha),_,rfl,by rw[Ab]; omega,by rw[Ab]; omega,fun D hD=>?_⟩;rw[Ab];exact zG (zid ha h5 hD fun H3 bs sm hD3 hb=>k D H3 bs sm hD hD3 hb)
theorem zdt {H2:Hp}{L D:Addr}{as:List Addr}{kn:List (List Int)}{Q:VK}{p:List Int->Bool}{tc:TT}{c:List (Option V)} (htc:∀(o:Addr) (os:List Int) (H:Hp) (R:Bool->Hp->Prop),Same H2 H->Tp H o os->os∈kn->(∀H',Same H H'->R (p os) H')->tc (some (.ref o)::c) H R)
  (hl:SqL K H2 L (as.map V.ref)) (ht:Tps H2 as kn) (hz:kn.length<=1000) (hD:H2 D=none) (k:∀H3 bs,Same H2 H3->H3 D=some (.lst (bs.map V.ref))->Tps H3 bs (kn.filter p)->Q (.ref D) H3) :
  zaj (Itl K L) (zX 0) tc (tVar 0) (none::c) H2 D Q:=by
 have hla:=ht.length;refine zL (xs:=as.map V.ref) (fun j σ ys H3=>∃(v:Option V) (bs:List Addr),σ=v::c/\Same H2 H3/\H3 D=some (.lst ys)/\ys=bs.map V.ref/\Tps H3 bs ((kn.take j).filter p)) ?_ ?_ ?_ ?_
 ·exact⟨none,[],rfl,Same.new hD,upd_same,rfl,.nil⟩
 ·rintro j σ ys H3 ⟨v,bs,rfl,sm,hD3,rfl,_⟩
  exact sm.seq hl
 ·rintro j σ ys H3 x hx hj hy ⟨v,bs,rfl,sm,hD3,rfl,hb⟩
  obtain⟨o,eo,rfl⟩:=zE hx;obtain⟨os,eos,ho⟩:=ht.get eo;have hn:(as.map V.ref).length<=sizeLine:=by rw[Ab]; exact line_big (by omega)
  refine htc o os H3 _ sm (sm.tp ho) (Ak eos) fun H4 sm4=>?_;cases hp:p os
  ·refine iteF (cskip hj hy ⟨_,bs,rfl,sm.trans sm4,sm4 _ _ hD3,rfl,?_⟩)
   rw[AH eos,A8,List.filter_cons_of_neg (by rw[hp]; simp),List.filter_nil,List.append_nil];exact sm4.tps hb
  ·refine iteT ⟨_,rfl,cput hn hj hy (sm4 _ _ hD3) ⟨_,bs++[o],rfl,(sm.trans sm4).then hD,upd_same,by rw[Ag]; rfl,?_⟩⟩
   rw[AH eos,A8,List.filter_cons_of_pos hp];exact Tps.upd (Tps.snoc (sm4.tps hb) ((sm.trans sm4).tp ho)) (sm4 _ _ hD3) (by intro xs z; cases z)
 ·rintro σ ys H3 ⟨v,bs,rfl,sm,hD3,rfl,hb⟩
  rw[Ab,hla,An (Af _)] at hb;exact k H3 bs sm hD3 hb
end
end K48
end
section
namespace K1
open PySem L2 STb
abbrev Pq:=List Int×List Int
def stp (x y:Pq):Bool:=decide (y.1≠x.1) && decide (y.1∈rims x.2)
theorem zcU {x y:Pq}:stp x y=true ↔ y.1≠x.1/\y.1∈rims x.2:=by unfold stp; rw[AY,decide_eq_true_eq,decide_eq_true_eq]
def Live (A:List Pq):Prop:=∀x∈A,∃y∈A,stp x y=true
def Acy (l:List Pq):Prop:=∀A:List Pq,(∀x∈A,x∈l)->Live A->A=[]
theorem zb1 {l m:List Pq} (h:Acy m) (hs:∀x∈l,x∈m):Acy l:=fun A ha hl=>h A (fun x hx=>hs x (ha x hx)) hl
theorem acy_nil:Acy []:=fun A ha _=>by
 cases A with
 | nil=>rfl
 | cons a r=>exact absurd (ha a Am) (by simp)
def trim (l:List Pq):List Pq:=l.filter fun x=>l.any (stp x)
theorem zbl {l:List Pq}{x:Pq}:x∈trim l ↔ x∈l/\∃y∈l,stp x y=true:=by unfold trim; rw[List.mem_filter,List.any_eq_true]
theorem zhv {l A:List Pq} (ha:∀x∈A,x∈l) (hl:Live A):∀x∈A,x∈trim l:=fun x hx=>by
 obtain⟨y,hy,e⟩:=hl x hx;exact zbl.mpr ⟨ha x hx,y,ha y hy,e⟩
theorem ziS {l:List Pq} (h:(trim l).length=l.length):Live l:=fun x hx=>by
 have e:trim l=l:=List.filter_sublist.eq_of_length h;rw[<- e] at hx;exact (zbl.mp hx).2
theorem zjj {l:List Pq}:Acy (trim l) ↔ Acy l:=
 ⟨fun h A ha hl=>h A (zhv ha hl) hl,fun h=>zb1 h fun x hx=>(zbl.mp hx).1⟩
theorem zkM {l:List Pq} (h:(trim l).length=l.length):l=[] ↔ Acy l:=
 ⟨fun e=>by rw[e]; exact acy_nil,fun a=>a l (fun _ hx=>hx) (ziS h)⟩
def Rnd (cs:List Pq):Prop:=cs≠[]/\∀i x,cs[i]?=some x->∃y,cs[(i+1) % cs.length]?=some y/\stp x y=true
theorem zjL {cs:List Pq} (h:Rnd cs):Live cs:=fun x hx=>by
 obtain⟨i,e⟩:=List.mem_iff_getElem?.mp hx;obtain⟨y,ey,hs⟩:=h.2 i x e;exact⟨y,Ak ey,hs⟩
theorem zhF {l cs:List Pq} (h:Rnd cs) (hs:∀x∈cs,x∈l):¬ Acy l:=fun a=>h.1 (a cs hs (zjL h))
theorem zkF {l R:List Pq}{z:Pq} (h:Acy l) (hR:∀x∈z::R,∀y∈z::l,stp x y=true->y≠z/\y∈R) (hRl:∀x∈R,x∈l):Acy (l++[z]):=fun A ha hl=>by
 have key:∀x∈A,(x=z \/ x∈R)->∃y∈A,y∈R/\stp x y=true:=fun x hx hc=>by
  obtain⟨y,hy,e⟩:=hl x hx;have hyl:y∈z::l:=by
   rcases List.mem_append.mp (ha y hy) with h | h
   ·exact Ar _ h
   ·rw[List.mem_singleton.mp h]; exact Am
  have:=hR x (hc.elim (fun e=>by rw[e]; exact Am) (Ar _)) y hyl e;exact⟨y,hy,this.2,e⟩
 have hB:(A.filter fun x=>decide (x∈R))=[]:=by
  refine h _ (fun x hx=>hRl x (of_decide_eq_true (List.mem_filter.mp hx).2)) fun x hx=>?_;obtain⟨h1,h2⟩:=List.mem_filter.mp hx;obtain⟨y,hy,hyR,e⟩:=key x h1 (.inr (of_decide_eq_true h2));exact⟨y,List.mem_filter.mpr ⟨hy,decide_eq_true hyR⟩,e⟩
 have hz:z∉A:=fun hz=>by
  obtain⟨y,hy,hyR,_⟩:=key z hz (.inl rfl);have:y∈(A.filter fun x=>decide (x∈R)):=List.mem_filter.mpr ⟨hy,decide_eq_true hyR⟩;rw[hB] at this;cases this
 refine h A (fun x hx=>?_) hl;rcases List.mem_append.mp (ha x hx) with h | h
 ·exact h
 ·rw[List.mem_singleton.mp h] at hx; exact absurd hx hz
end K1
end
section
namespace K48
open K1
open PySem L2 STb
abbrev zbp:Stmt:=top 28
abbrev sRW:Stmt:=top 27
def SecR (H:Hp) (kv:List Key×V) (x:Pq):Prop:=kv.1=x.1.map Sum.inl/\∃b,kv.2=.ref b/\Tp H b x.2
def Sec (H:Hp) (d:Addr) (ps:List Pq):Prop:=∃kvs,H d=some (.dT kvs)/\Paired (SecR H) kvs ps
theorem Sec.same {H H':Hp}{d:Addr}{ps:List Pq} (h:Sec H d ps) (s:Same H H'):Sec H' d ps:=let ⟨kvs,e,p⟩:=h; ⟨kvs,s _ _ e,Paired.mapP p fun _ _ ⟨h1,b,h2,h3⟩=>⟨h1,b,h2,s.tp h3⟩⟩
theorem Sec.upd {H:Hp}{d e:Addr}{ps:List Pq}{o o':HO} (h:Sec H d ps) (he:H e=some o') (hn:∀xs,o'≠.tup xs) (hd:d≠e):Sec (L2.upd H e o) d ps:=let ⟨kvs,e1,p⟩:=h; ⟨kvs,by rw[zk hd]; exact e1,Paired.mapP p fun _ _ ⟨h1,b,h2,h3⟩=>⟨h1,b,h2,by
 show L2.upd H e o b=_;rw[zk (fun z=>by subst z; have h4:H b=some _:=h3; rw[he] at h4; cases h4; exact hn _ rfl)]; exact h3⟩⟩
theorem sec_val {H:Hp}:∀{kvs:List (List Key×V)}{ps:List Pq},Paired (SecR H) kvs ps->∀p:List Int,(valV kvs (p.map Sum.inl)=none/\p∉ps.map (·.1)) \/ ∃b q,valV kvs (p.map Sum.inl)=some (.ref b)/\(p,q)∈ps/\Tp H b q
 | _,_,.nil,p=>.inl ⟨rfl,by simp⟩
 | kv::kvs,x::ps,.cons ⟨h1,b,h2,h3⟩ t,p=>by
  by_cases e:x.1=p
  ·refine .inr ⟨b,x.2,?_,?_,h3⟩
   ·rw[zU (by rw[h1,e]),h2]
   ·rw[<- e]; exact Am
  ·have hne:¬ kv.1=p.map Sum.inl:=fun z=>e (zai.mp (h1.symm.trans z))
   rcases sec_val t p with ⟨g1,g2⟩ | ⟨b',q,g1,g2,g3⟩
   ·refine .inl ⟨by rw[zO hne]; exact g1,?_⟩
    rw[Av,List.mem_cons];rintro (z | z)
    ·exact e z.symm
    ·exact g2 z
   ·exact .inr ⟨b',q,by rw[zO hne]; exact g1,Ar _ g2,g3⟩
theorem zhA {H:Hp}{kvs:List (List Key×V)}{ps:List Pq} (h:Paired (SecR H) kvs ps) {x:Pq}{b:Addr} (hx:x.1∉ps.map (·.1)) (hb:Tp H b x.2):∃kvs',putK kvs (x.1.map Sum.inl) (.ref b)=kvs'/\Paired (SecR H) kvs' (ps++[x])/\kvs'.length=kvs.length+1:=by
 have hv:valV kvs (x.1.map Sum.inl)=none:=by
  rcases sec_val h x.1 with ⟨g,_⟩ | ⟨b',q,_,g2,_⟩
  ·exact g
  ·exact absurd (List.mem_map.mpr ⟨_,g2,rfl⟩) hx
 refine⟨_,zcs _ hv,?_,by rw[Ah]; rfl⟩;have ap:∀{kvs:List (List Key×V)} {ps:List Pq},Paired (SecR H) kvs ps->Paired (SecR H) (kvs++[(x.1.map Sum.inl,.ref b)]) (ps++[x]):=fun {kvs ps} h=>by
  induction h with
  | nil=>exact .cons ⟨rfl,b,rfl,hb⟩ .nil
  | cons r t ih=>exact .cons r ih
 exact ap h
abbrev tOth (K:Ad):TT:=zdg (tOp (rEqT true K) (tVar 0) (tOp (rIxT K) (tVar 1) (tC (.int 0))))
section
variable {P:Program}{w:World}{K:Ad}{mg:Str->Option Value}{base:Heap}
abbrev oth (x:Pq):List (List Int):=(rims x.2).filter fun r=>!decide (r=x.1)
def zdk:Sp:=fun vs H Q _=>∃t x,vs=[.ref t]/\Pr2 H t x/\x.2.length<=5/\∀D H' bs,Same H H'->H D=none->H' D=some (.lst (List.map V.ref bs))->Tps H' bs (oth x)->Q (.ref D) H'
theorem zkA:zu ["pair"] ["pair"] (zh zbp):=⟨rfl,rfl,rfl,by decide +kernel,rfl,by decide +kernel,by decide +kernel⟩
theorem zjr {f fr:Addr}{fd fdr:FuncData} (F:Fun K "other_rims" "other_rims" zbp f fd) (B:Bt mg)
  (Fr:Fun K "rims_of" "rims_of" zcB fr fdr) (br:Binds K fdr ["piece"] []) (mr:mg "rims_of"=some (.ref fr)):FnOk P w K mg base CX0 2 f fd ["pair"] zdk:=by
 have Gr:FnOk P w K mg base CX0 1 fr fdr ["piece"] zbK:=zdh Fr B;refine F.ok zkA (fun vs H Q E h=>?_) (fun cdv A outer s H vs Q E hr h=>?_)
 ·obtain⟨t,x,rfl,_⟩:=h; rfl
 ·obtain⟨t,x,rfl,⟨a,b,ht,ha,hb⟩,h5,k⟩:=h
  have hu64:=hr.units;refine⟨_,zi (zt (zx ["pair"] ["rim","pair"] [none,some 0] (zw (zn Gr hr rfl mr Fr.kp br .nil pass0 (ze (zR zZ (pv 0) zl (fun _ _=>rfl)) zg))) (fun cl C s₀ H₀ ex=>zm (i:=0) (ndN ["rim","pair"]) rfl (Or.inl rfl))
   (fun cl C s₀ H₀ ex=>zbB (zy (zh7 hu64) (pv 0) (zR zZ (pv 1) zl (fun _ _=>rfl)) (nomark _))) (fun cl C s₀ H₀ ex=>pv 0) (hfr:=frOf (zh zbp) (by decide +kernel)) (tc:=tOth K))),?_⟩
  refine⟨_,rfl,t,_,_,_,rfl,rfl,SqT.of ht,zC (j:=1) rfl,b,x.2,rfl,hb,h5,fun RL H1 rs s1 _ hR1 hr1=>⟨RL,rfl,⟨_,SqL.of hR1⟩,fun D hD=>?_⟩⟩;refine zG (zdt (p:=fun r=>!decide (r=x.1)) (fun o os H' R sm ho _ hR=>⟨_,rfl,_,rfl,t,_,_,_,rfl,rfl,SqT.of ((s1.trans sm) _ _ ht),zC (j:=0) rfl,.inl ⟨o,a,os,x.1,rfl,rfl,ho,(s1.trans sm).tp ha,_,rfl,?_⟩⟩) (SqL.of hR1) hr1 (AG (zao _) (by omega)) hD fun H3 bs s3 hD3 hb3=>k D H3 bs (s1.trans s3) (s1.free hD) hD3 hb3);rw[if_pos rfl];exact hR H' (Same.refl _)
end
end K48
end
section
namespace K48
open K1
open PySem L2 STb
structure Pth (z:Pq) (R cs:List Pq):Prop where
 hd:∃r,cs=z::r
 st:∀(i:Nat) (x y:Pq),cs[i]?=some x->cs[i+1]?=some y->stp x y=true
 nd:cs.Nodup
 mem:∀x∈cs,x=z \/ x∈R
theorem Pth.mono {z:Pq}{R R' cs:List Pq} (h:Pth z R cs) (hs:∀x∈R,x∈R'):Pth z R' cs:=⟨h.hd,h.st,h.nd,fun x hx=>(h.mem x hx).imp id (hs x)⟩
structure RI (ps:List Pq) (z:Pq) (R:List Pq) (css:List (List Pq)):Prop where
 sub:∀y∈R,y∈ps
 nd:(R.map (·.1)).Nodup
 pth:∀cs∈css,Pth z R cs
theorem RI.le {ps R:List Pq}{z:Pq}{css:List (List Pq)} (h:RI ps z R css):R.length<=ps.length:=by
 have:=h.nd.length_le_of_subset (l₂:=ps.map (·.1)) fun x hx=>by
  obtain⟨y,hy,rfl⟩:=List.mem_map.mp hx;exact List.mem_map.mpr ⟨y,h.sub y hy,rfl⟩
 rw[Ab,Ab] at this;exact this
def Done (ps:List Pq) (z:Pq) (R:List Pq) (x:Pq):Prop:=∀r∈oth x,r≠z.1/\(r∈ps.map (·.1)->r∈R.map (·.1))
theorem Done.mono {ps R R':List Pq}{z x:Pq} (h:Done ps z R x) (hs:∀y∈R,y∈R'):Done ps z R' x:=fun r hr=>⟨(h r hr).1,fun hm=>by
 obtain⟨y,hy,e⟩:=List.mem_map.mp ((h r hr).2 hm);exact List.mem_map.mpr ⟨y,hs y hy,e⟩⟩
theorem zb2 {x:Pq}{r:List Int}:r∈oth x ↔ r∈rims x.2/\r≠x.1:=by
 show r∈(rims x.2).filter _ ↔ _;rw[List.mem_filter,Bool.not_eq_true',decide_eq_false_iff_not]
theorem zjx {ps R:List Pq}{z:Pq} (hn:(ps.map (·.1)).Nodup) (ha:Acy ps) (hs:∀y∈R,y∈ps) (hd:∀x∈z::R,Done ps z R x):Acy (ps++[z]):=by
 refine zkF ha (R:=R) (fun x hx y hy e=>?_) hs;obtain⟨e1,e2⟩:=zcU.mp e;obtain⟨d1,d2⟩:=hd x hx y.1 (zb2.mpr ⟨e2,e1⟩);have hyz:y≠z:=fun z'=>d1 (by rw[z']);refine⟨hyz,?_⟩;have hyp:y∈ps:=(List.mem_cons.mp hy).resolve_left hyz;obtain⟨y',hy',e'⟩:=List.mem_map.mp (d2 (List.mem_map.mpr ⟨y,hyp,rfl⟩));have:y'=y:=by
  have hnd:∀{l:List Pq},(l.map (·.1)).Nodup->∀a∈l,∀b∈l,a.1=b.1->a=b:=fun {l}=>by
   induction l with
   | nil=>intro _ a ha; cases ha
   | cons c r ih=>
    intro h a ha b hb e;rw[Av,List.nodup_cons] at h;rcases List.mem_cons.mp ha with ea | ha'
    ·rcases List.mem_cons.mp hb with eb | hb'
     ·rw[ea,eb]
     ·exact absurd (List.mem_map.mpr ⟨b,hb',by rw[<- e,ea]⟩) h.1
    ·rcases List.mem_cons.mp hb with eb | hb'
     ·exact absurd (List.mem_map.mpr ⟨a,ha',by rw[e,eb]⟩) h.1
     ·exact ih h.2 a ha' b hb' e
  exact hnd hn y' (hs y' hy') y hyp e'
 rw[<- this];exact hy'
theorem zlE {z x:Pq}{R c0:List Pq} (h:Pth z R (c0++[x])) (hx:stp x z=true):Rnd (c0++[x]):=by
 refine⟨by simp,fun i y e=>?_⟩;have hi:=(List.getElem?_eq_some_iff.mp e).1;rw[Ah,AQ] at hi
 by_cases hl:i=c0.length
 ·subst hl
  rw[List.getElem?_append_right (Af _),Nat.sub_self] at e;cases e;obtain⟨r,er⟩:=h.hd;refine⟨z,?_,hx⟩;rw[Ah,AQ,Nat.mod_self,er]
  rfl
 ·have hi2:i+1<(c0++[x]).length:=by rw[Ah,AQ]; omega
  refine⟨(c0++[x])[i+1],?_,h.st i y _ e (Ai hi2)⟩;rw[Nat.mod_eq_of_lt hi2];exact Ai hi2
theorem zkK {z x y:Pq}{R c0:List Pq} (h:Pth z R (c0++[x])) (hs:stp x y=true) (hz:y≠z) (hy:y∉R):Pth z (R++[y]) (c0++[x]++[y]):=by
 refine⟨?_,fun i a b ea eb=>?_,?_,fun a ha=>?_⟩
 ·obtain⟨r,er⟩:=h.hd
  exact⟨r++[y],by rw[er]; rfl⟩
 ·have hi:=(List.getElem?_eq_some_iff.mp eb).1
  rw[Ah,AQ] at hi
  by_cases hl:i+1=(c0++[x]).length
  ·rw[List.getElem?_append_right (by omega),hl,Nat.sub_self] at eb
   cases eb;rw[List.getElem?_append_left (by omega)] at ea;have:i=c0.length:=by rw[Ah,AQ] at hl; omega
   subst this;rw[List.getElem?_append_right (Af _),Nat.sub_self] at ea;cases ea;exact hs
  ·rw[List.getElem?_append_left (by omega)] at ea eb
   exact h.st i a b ea eb
 ·rw[AL]
  refine⟨h.nd,by simp,fun a ha b hb e=>?_⟩;rw[List.mem_singleton.mp hb] at e;subst e;exact (h.mem a ha).elim hz hy
 ·rcases List.mem_append.mp ha with ha | ha
  ·exact (h.mem a ha).imp id (AI _)
  ·exact .inr (AJ _ ha)
theorem Prs2.last {H:Hp}:∀{ts:List Addr}{c0:List Pq}{x:Pq},Prs2 H ts (c0++[x])->∃t0 t,ts=t0++[t]/\Prs2 H t0 c0/\Pr2 H t x
 | _,[],x,.cons r .nil=>⟨[],_,rfl,.nil,r⟩
 | _,c::c0,x,.cons r t=>by
  obtain⟨t0,t',e,h1,h2⟩:=Prs2.last t;exact⟨_::t0,t',by rw[e]; rfl,.cons r h1,h2⟩
theorem Prs2.add {H:Hp}:∀{ts:List Addr}{cs:List Pq}{t:Addr}{x:Pq},Prs2 H ts cs->Pr2 H t x->Prs2 H (ts++[t]) (cs++[x])
 | _,_,_,_,.nil,h=>.cons h .nil
 | _,_,_,_,.cons r q,h=>.cons r (Prs2.add q h)
theorem Pr2.upd {H:Hp}{t d:Addr}{x:Pq}{o o':HO} (h:Pr2 H t x) (hd:H d=some o') (hn:∀xs,o'≠.tup xs):Pr2 (L2.upd H d o) t x:=by
 obtain⟨a,b,e,p,q⟩:=h;have key:∀{c:Addr} {xs:List V},H c=some (.tup xs)->L2.upd H d o c=some (.tup xs):=fun {c xs} e=>by
  rw[zk (fun z=>by subst z; rw[hd] at e; cases e; exact hn _ rfl)]; exact e
 exact⟨a,b,key e,key p,key q⟩
theorem Prs2.upd {H:Hp}{ts:List Addr}{d:Addr}{xs:List Pq}{o o':HO} (h:Prs2 H ts xs) (hd:H d=some o') (hn:∀xs,o'≠.tup xs):Prs2 (L2.upd H d o) ts xs:=Paired.mapP h fun _ _ q=>Pr2.upd q hd hn
def RowH (H0 H:Hp) (r:Addr) (cs:List Pq):Prop:=H0 r=none/\∃ts,H r=some (.lst (List.map V.ref ts))/\Prs2 H ts cs
theorem RowH.same {H0 H H':Hp}{r:Addr}{cs:List Pq} (h:RowH H0 H r cs) (s:Same H H'):RowH H0 H' r cs:=⟨h.1,let ⟨ts,e,p⟩:=h.2; ⟨ts,s _ _ e,p.same s⟩⟩
theorem RowH.upd {H0 H:Hp}{r d:Addr}{cs:List Pq}{o o':HO} (h:RowH H0 H r cs) (hd:H d=some o') (hn:∀xs,o'≠.tup xs) (hr:r≠d):RowH H0 (L2.upd H d o) r cs:=⟨h.1,let ⟨ts,e,p⟩:=h.2; ⟨ts,by rw[zk hr]; exact e,Prs2.upd p hd hn⟩⟩
abbrev Rows (H0 H:Hp) (rws:List Addr) (css:List (List Pq)):Prop:=Paired (RowH H0 H) rws css
theorem Rows.upd {H0 H:Hp}{rws:List Addr}{css:List (List Pq)}{d:Addr}{o o':HO} (h:Rows H0 H rws css) (hd:H d=some o') (hn:∀xs,o'≠.tup xs) (hr:d∉rws):Rows H0 (L2.upd H d o) rws css:=by
 induction h with
 | nil=>exact .nil
 | cons r t ih=>exact .cons (r.upd hd hn fun z=>hr (by rw[z]; exact Am)) (ih fun z=>hr (Ar _ z))
theorem Rows.last {H0 H:Hp}:∀{rws:List Addr}{c0:List (List Pq)}{x:List Pq},Rows H0 H rws (c0++[x])->∃r0 r,rws=r0++[r]/\Rows H0 H r0 c0/\RowH H0 H r x
 | _,[],x,.cons r .nil=>⟨[],_,rfl,.nil,r⟩
 | _,c::c0,x,.cons r t=>by
  obtain⟨t0,t',e,h1,h2⟩:=Rows.last t;exact⟨_::t0,t',by rw[e]; rfl,.cons r h1,h2⟩
theorem Rows.add {H0 H:Hp}:∀{rws:List Addr}{css:List (List Pq)}{r:Addr}{cs:List Pq},Rows H0 H rws css->RowH H0 H r cs->Rows H0 H (rws++[r]) (css++[cs])
 | _,_,_,_,.nil,h=>.cons h .nil
 | _,_,_,_,.cons r q,h=>.cons r (Rows.add q h)
end K48
end
section
namespace K48
open K1
open PySem L2 STb
theorem zit {ps:List Pq}{z:Pq}:RI ps z [] [[z]]:=by
 refine⟨fun y hy=>(by cases hy),(by simp),fun cs hcs=>?_⟩;rw[List.mem_singleton.mp hcs];refine⟨⟨[],rfl⟩,fun i x y e1 e2=>?_,by simp,fun x hx=>.inl (List.mem_singleton.mp hx)⟩;have:=(List.getElem?_eq_some_iff.mp e2).1;simp at this
abbrev nmR:List Str:=["seconds","new","rows","seen","row","rim"]
section
variable {P:Program}{w:World}{K:Ad}{mg:Str->Option Value}{base:Heap}
def spRW:Sp:=fun vs H Q _=>∃d t ps z,vs=[.ref d,.ref t]/\Sec H d ps/\Pr2 H t z/\(ps.map (·.1)).Nodup/\z.1∉ps.map (·.1)/\(∀x∈ps,x.2.length<=5)/\z.2.length<=5/\ps.length<=1000/\Acy ps/\
 (∀D H',Same H H'->H D=none->H' D=some (.lst [])->Acy (ps++[z])->Q (.ref D) H')/\
 ∀D H' ts cs,Same H H'->H D=none->H' D=some (.lst (List.map V.ref ts))->Prs2 H' ts cs->Rnd cs->cs.Nodup->(∀x∈cs,x∈ps++[z])->Q (.ref D) H'
theorem scRW:zu nmR ["seconds","new"] (zh sRW):=⟨rfl,rfl,rfl,by decide +kernel,rfl,by decide +kernel,by decide +kernel⟩
theorem znd {f fo:Addr}{fd fdo:FuncData} (F:Fun K "round_with" "round_with" sRW f fd) (B:Bt mg)
  (Fo:Fun K "other_rims" "other_rims" zbp fo fdo) (bo:Binds K fdo ["pair"] []) (mo:mg "other_rims"=some (.ref fo)) (Go:FnOk P w K mg base CX0 2 fo fdo ["pair"] zdk):FnOk P w K mg base CX0 3 f fd ["seconds","new"] spRW:=by
 refine F.ok scRW (fun vs H Q E h=>?_) (fun cdv A outer s H vs Q E hr h=>?_)
 ·obtain⟨d,t,ps,z,rfl,_⟩:=h; rfl
 ·obtain⟨d,t,ps,z,rfl,hd,ht,hnd,hz,h5,z5,hpl,hac,k0,k1⟩:=h
  have hu:=zbo hr;have hu64:=hr.units;refine⟨_,zf (zq (i:=2) scRW.nd rfl (Or.inl rfl) (zY (ze (zY (ze (pv 1) zg)) zg)))
   (zf (zq (i:=3) scRW.nd rfl (Or.inl rfl) zP)
   (zf (zge AF (zy zc1 (zv zo rfl B.len zaI (ze (pv 2) zg)) zl (nomark _))
    (zf (zq (i:=4) scRW.nd rfl (Or.inl rfl) (zmM AU PySem.F.slot_list_pop PySem.F.type_list_pop zlX (pv 2)))
    (zi (zM AF rfl (zw (zn Go hr rfl mo Fo.kp bo .nil pass0 (ze (zR zab (pv 4) (zgN zeC zl) (fun _ _=>rfl)) zg))) (zm (i:=5) scRW.nd rfl (Or.inl rfl))
     (zf (zaf (zy (zmD hu64) (pv 5) (zR zZ (pv 1) zl (fun _ _=>rfl)) (nomark _)) (zi (zt (pv 4))) zA)
     (zi (zaf (PW.pt (zl4 (zet (zda hu (pv 5) (pv 0)) (by with_unfolding_all rfl)) (zlG (zet (zdX hu (pv 5) (pv 3)) (by with_unfolding_all rfl)))))
      (zf (zQ hu (pv 3) (pv 5) zbf rfl)
      (zi (zaz (zci AU PySem.F.slot_list_append PySem.F.type_list_append zaA (pv 2) (ze (zH zcR (pv 4) (zY (ze (zak (ze (pv 5) (ze (zan hu (pv 0) (pv 5) (fun _ _=>rfl)) zg))) zg))) zg))))) zA)))))))
   (zi (zt (zY zg))))),?_⟩
  refine⟨_,rfl,line_big (by simp),fun r1 hr1=>⟨line_big (by simp),fun RL hRL=>?_⟩⟩;have s1:=Same.new (o:=.lst [.ref t]) hr1;have s2:=Same.new (o:=.lst [.ref r1]) hRL;have s12:=s1.trans s2;have e1:upd (upd H r1 (.lst [.ref t])) RL (.lst [.ref r1]) r1=some (.lst ([t].map V.ref)):=s2 _ _ upd_same;have e2:upd (upd H r1 (.lst [.ref t])) RL (.lst [.ref r1]) RL=some (.lst ([r1].map V.ref)):=upd_same;have n12:RL≠r1:=Ne.symm (zj (upd_same (H:=H) (a:=r1) (o:=.lst [.ref t])) hRL);have hRL0:H RL=none:=s1.free hRL;generalize upd (upd H r1 (.lst [.ref t])) RL (.lst [.ref r1])=H2 at s12 e1 e2;intro SD hSD;have s3:=Same.new (o:=.dT []) hSD;have s03:=s12.trans s3;have hSD0:H SD=none:=s12.free hSD;have nRS:RL≠SD:=zj e2 hSD;refine⟨fun m σ H3=>∃(rws:List Addr) (css:List (List Pq)) (R:List Pq) (v4 v5:Option V),m=2*(ps.length - R.length)+css.length/\σ=[some (.ref d),some (.ref t),some (.ref RL),some (.ref SD),v4,v5]/\Same H H3/\H3 RL=some (.lst (rws.map V.ref))/\Rows H H3 rws css/\RL∉rws/\H3 SD=some (.dT (kvM (R.map (·.1))))/\RI ps z R css/\(∀x∈z::R,(∃c0,c0++[x]∈css) \/ Done ps z R x)/\2*(ps.length - R.length)+css.length<=2*ps.length+1,
   ⟨_,[r1],[[z]],[],none,none,rfl,rfl,s03,s3 _ _ e2,.cons ⟨hr1,[t],s3 _ _ e1,.cons (ht.same s03) .nil⟩ .nil,by simpa using n12,upd_same,zit,fun x hx=>.inl ⟨[],by rw[List.mem_singleton.mp hx]; simp⟩,by simp⟩,?_⟩
  rintro m σ H3 ⟨rws,css,R,v4,v5,rfl,rfl,sm,hRL3,hrw,hRr,hSD3,ri,clo,hbd⟩;have hlr:=AN hrw;refine⟨_,rfl,RL,_,rfl,.inl (SqL.of hRL3),_,_,rfl,rfl,_,rfl,?_⟩;rw[Ab,hlr];rcases List.eq_nil_or_concat css with rfl | ⟨css0,cs,ecs⟩
  ·refine iteF ⟨line_big (by simp),fun D hD=>k0 D _ (sm.then (sm.free hD)) (sm.free hD) upd_same ?_⟩
   exact zjx hnd hac ri.sub fun x hx=>(clo x hx).elim (fun ⟨c0,hc⟩=>by cases hc) id
  have ecs:css=css0++[cs]:=by rw[ecs,List.concat_eq_append]
  subst ecs;rw[decide_eq_true (show (0:Int)<(((css0++[cs]).length:Nat):Int) by rw[Ah,AQ]; omega)];obtain⟨rw0,r,erw,hrw0,⟨hr0,ts,hts,hps⟩⟩:=Rows.last hrw;subst erw;have hpc:Pth z R cs:=ri.pth cs (by simp);obtain⟨c0,x,ecs⟩:∃c0 x,cs=c0++[x]:=by
   rcases List.eq_nil_or_concat cs with e | ⟨c0,x,e⟩
   ·obtain⟨r,er⟩:=hpc.hd
    rw[e] at er; cases er
   ·exact⟨c0,x,by rw[e,List.concat_eq_append]⟩
  subst ecs;obtain⟨t0,tx,ets,hp0,hpx⟩:=Prs2.last hps;have hrRL:r≠RL:=fun e=>hRr (by rw[e]; simp);have hRr0:RL∉rw0:=fun e=>hRr (AI _ e);refine iteT ⟨fun σ' H'=>∃m',m'<2*(ps.length - R.length)+(css0++[c0++[x]]).length/\∃(rws:List Addr) (css:List (List Pq)) (R:List Pq) (v4 v5:Option V),m'=2*(ps.length - R.length)+css.length/\σ'=[some (.ref d),some (.ref t),some (.ref RL),some (.ref SD),v4,v5]/\Same H H'/\H' RL=some (.lst (rws.map V.ref))/\Rows H H' rws css/\RL∉rws/\H' SD=some (.dT (kvM (R.map (·.1))))/\RI ps z R css/\(∀x∈z::R,(∃c0,c0++[x]∈css) \/ Done ps z R x)/\2*(ps.length - R.length)+css.length<=2*ps.length+1,fun σ' H' h=>h,?_⟩;rw[Ah,AQ] at hbd;refine⟨_,rfl,.inl ⟨rfl,_,SqL.of hRL3⟩,RL,_,.ref r,rfl,rfl,hRL3,by rw[Ab,Ag]; simp,?_⟩;rw[show ((rw0++[r]).map V.ref).dropLast=rw0.map V.ref by rw[Ag]; simp];have sm4:Same H (upd H3 RL (.lst (rw0.map V.ref))):=sm.then hRL0;have hRL4:=upd_same (H:=H3) (a:=RL) (o:=.lst (rw0.map V.ref));have hrw4:Rows H (upd H3 RL (.lst (rw0.map V.ref))) rw0 css0:=Rows.upd hrw0 hRL3 (by intro xs z; cases z) hRr0;have hrow4:RowH H (upd H3 RL (.lst (rw0.map V.ref))) r (c0++[x]):=RowH.upd ⟨hr0,ts,hts,hps⟩ hRL3 (by intro xs z; cases z) hrRL;have hts4:upd H3 RL (.lst (rw0.map V.ref)) r=some (.lst (ts.map V.ref)):=by rw[zk hrRL]; exact hts
  have hps4:Prs2 (upd H3 RL (.lst (rw0.map V.ref))) ts (c0++[x]):=Prs2.upd hps hRL3 (by intro xs z; cases z);have hpx4:Pr2 (upd H3 RL (.lst (rw0.map V.ref))) tx x:=Pr2.upd hpx hRL3 (by intro xs z; cases z);have hSD4:upd H3 RL (.lst (rw0.map V.ref)) SD=some (.dT (kvM (R.map (·.1)))):=by rw[zk (Ne.symm nRS)]; exact hSD3
  generalize upd H3 RL (.lst (rw0.map V.ref))=H4 at sm4 hRL4 hrw4 hrow4 hts4 hps4 hpx4 hSD4;have hx5:x.2.length<=5:=by
   rcases hpc.mem x (by simp) with e | e
   ·rw[e]; exact z5
   ·exact h5 x (ri.sub x e)
  have elast:atI (ts.map V.ref) (-1)=some (.ref tx):=by rw[ets,Ag]; exact zfS _ _
  refine⟨_,rfl,_,rfl,r,_,_,_,rfl,rfl,SqL.of hts4,elast,tx,x,rfl,hpx4,hx5,fun OL H5 os s5 hOL0 hOL5 ho5=>⟨OL,rfl,⟨_,SqL.of hOL5⟩,?_⟩⟩;have nOR:OL≠RL:=Ne.symm (zj hRL4 hOL0);have nOS:OL≠SD:=Ne.symm (zj hSD4 hOL0);have hol:=ho5.length;refine zK (K:=K) (a:=OL) (xs:=os.map V.ref) (fun j σ H6=>∃(rws:List Addr) (css:List (List Pq)) (R':List Pq) (v5:Option V),σ=[some (.ref d),some (.ref t),some (.ref RL),some (.ref SD),some (.ref r),v5]/\Same H H6/\H6 OL=some (.lst (os.map V.ref))/\Tps H6 os (oth x)/\H6 r=some (.lst (ts.map V.ref))/\Prs2 H6 ts (c0++[x])/\H6 RL=some (.lst (rws.map V.ref))/\Rows H H6 rws css/\RL∉rws/\H6 SD=some (.dT (kvM (R'.map (·.1))))/\RI ps z R' css/\(∀y∈R,y∈R')/\
    (∀y∈z::R',y=x \/ (∃c0,c0++[y]∈css) \/ Done ps z R' y)/\(∀rr∈(oth x).take j,rr≠z.1/\(rr∈ps.map (·.1)->rr∈R'.map (·.1)))/\2*(ps.length - R'.length)+css.length<=2*(ps.length - R.length)+css0.length)
   ⟨rw0,css0,R,v5,rfl,sm4.trans s5,hOL5,ho5,s5 _ _ hts4,hps4.same s5,s5 _ _ hRL4,Paired.mapP hrw4 fun _ _ q=>q.same s5,hRr0,s5 _ _ hSD4,⟨ri.sub,ri.nd,fun cs hcs=>ri.pth cs (AI _ hcs)⟩,fun y hy=>hy,fun y hy=>?_,by simp,Af _⟩ (fun i σ H6 _ ⟨_,_,_,_,_,_,h,_⟩=>SqL.of h) ?_ ?_
  ·rcases clo y hy with ⟨c1,hc1⟩ | hdn
   ·rcases List.mem_append.mp hc1 with h | h
    ·exact .inr (.inl ⟨c1,h⟩)
    ·have:=List.mem_singleton.mp h
     have e:=List.append_inj' this rfl;exact .inl (by have:=e.2; simpa using this)
   ·exact .inr (.inr hdn)
  ·rintro j v σ H6 hv ⟨rws,css,R',v5',rfl,sm6,hOL6,ho6,hr6,hps6,hRL6,hrw6,hRr6,hSD6,ri6,hRR,clo6,pro,hms⟩
   obtain⟨ea,eea,rfl⟩:=zE hv;obtain⟨rr,err,hrr⟩:=ho6.get eea;have hrm:rr∈oth x:=Ak err;obtain⟨hri,hrx⟩:=zb2.mp hrm;obtain⟨za,zb,ez,hza,hzb⟩:=ht.same sm6;refine⟨_,rfl,_,rfl,t,_,_,_,rfl,rfl,SqT.of ez,zC (j:=0) rfl,.inl ⟨ea,za,rr,z.1,rfl,rfl,hrr,hza,_,rfl,?_⟩⟩;rw[if_neg (by decide)];have hpc6:Pth z R' (c0++[x]):=hpc.mono hRR
   by_cases hrz:rr=z.1
   ·rw[decide_eq_true hrz]
    refine iteT ⟨_,rfl,k1 r H6 ts (c0++[x]) sm6 hr0 hr6 hps6 (zlE hpc6 (zcU.mpr ⟨by rw[<- hrz]; exact hrx,by rw[<- hrz]; exact hri⟩)) hpc6.nd fun y hy=>?_⟩;rcases hpc6.mem y hy with e | e
    ·rw[e]; simp
    ·exact AI _ (ri6.sub y e)
   rw[decide_eq_false hrz];obtain⟨kvs,ekv,hkv⟩:=hd.same sm6;have skip:(rr∈ps.map (·.1)->rr∈R'.map (·.1))->∀q∈(oth x).take (j+1),q≠z.1/\(q∈ps.map (·.1)->q∈R'.map (·.1)):=fun h q hq=>by
    rw[AH err] at hq;rcases List.mem_append.mp hq with hq | hq
    ·exact pro q hq
    ·rw[List.mem_singleton.mp hq]; exact⟨hrz,h⟩
   refine iteF ⟨_,rfl,_,rfl,d,_,rfl,DGet.t (k:=rr.map Sum.inl) ekv (by rw[Ap]; exact hrr),_,rfl,?_⟩;rcases sec_val hkv rr with ⟨ev,hno⟩ | ⟨b,q,ev,hin,hb⟩
   ·rw[ev]
    exact iteF ⟨rws,css,R',_,rfl,sm6,hOL6,ho6,hr6,hps6,hRL6,hrw6,hRr6,hSD6,ri6,hRR,clo6,skip fun h=>absurd h hno,hms⟩
   rw[ev];refine iteT ⟨_,rfl,_,rfl,SD,_,rfl,DGet.t (k:=rr.map Sum.inl) hSD6 (by rw[Ap]; exact hrr),_,rfl,?_⟩;rw[zdW]
   by_cases hsn:rr∈R'.map (·.1)
   ·rw[decide_eq_true hsn]
    exact iteF ⟨rws,css,R',_,rfl,sm6,hOL6,ho6,hr6,hps6,hRL6,hrw6,hRr6,hSD6,ri6,hRR,clo6,skip fun _=>hsn,hms⟩
   rw[decide_eq_false hsn];have hle:=ri6.le;refine iteT ⟨_,rfl,_,rfl,SD,_,rfl,DPut.t (k:=rr.map Sum.inl) hSD6 (by rw[Ap]; exact hrr) (zF (AG (zaY _) (by rw[Ab]; omega))),?_⟩;rw[zaX];have sm7:Same H (upd H6 SD (.dT (kvM (R'.map (·.1)++[rr])))):=sm6.then hSD0;have nodt:∀xs,(HO.dT (kvM (R'.map (·.1))))≠.tup xs:=by intro xs z; cases z
   have tk:∀{c:Addr} {xs:List V},H6 c=some (.tup xs)->upd H6 SD (.dT (kvM (R'.map (·.1)++[rr]))) c=some (.tup xs):=fun {c xs} e=>by
    rw[zk (fun z=>by subst z; rw[hSD6] at e; cases e)]; exact e
   have hOL7:upd H6 SD (.dT (kvM (R'.map (·.1)++[rr]))) OL=some (.lst (os.map V.ref)):=by rw[zk nOS]; exact hOL6
   have ho7:=Tps.upd (o:=.dT (kvM (R'.map (·.1)++[rr]))) ho6 hSD6 nodt;have nrS:r≠SD:=fun e=>by rw[e,hSD6] at hr6; cases hr6
   have hr7:upd H6 SD (.dT (kvM (R'.map (·.1)++[rr]))) r=some (.lst (ts.map V.ref)):=by rw[zk nrS]; exact hr6
   have hps7:=Prs2.upd (o:=.dT (kvM (R'.map (·.1)++[rr]))) hps6 hSD6 nodt;have hRL7:upd H6 SD (.dT (kvM (R'.map (·.1)++[rr]))) RL=some (.lst (rws.map V.ref)):=by rw[zk nRS]; exact hRL6
   have hSr:SD∉rws:=fun hm=>by
    obtain⟨cs,hcs⟩:∃cs,RowH H H6 SD cs:=by
     have:∀{rws:List Addr} {css:List (List Pq)},Rows H H6 rws css->SD∈rws->∃cs,RowH H H6 SD cs:=fun {rws css} h=>by
      induction h with
      | nil=>intro hm; cases hm
      | cons r t ih=>
       intro hm;rcases List.mem_cons.mp hm with rfl | hm
       ·exact⟨_,r⟩
       ·exact ih hm
     exact this hrw6 hm
    obtain⟨_,ts',e,_⟩:=hcs;rw[hSD6] at e; cases e
   have hrw7:Rows H (upd H6 SD (.dT (kvM (R'.map (·.1)++[rr])))) rws css:=Rows.upd hrw6 hSD6 nodt hSr;have hSD7:=upd_same (H:=H6) (a:=SD) (o:=.dT (kvM (R'.map (·.1)++[rr])));have hrr7:Tp (upd H6 SD (.dT (kvM (R'.map (·.1)++[rr])))) ea rr:=tk hrr;have hd7:Sec (upd H6 SD (.dT (kvM (R'.map (·.1)++[rr])))) d ps:=hd.same sm7;generalize upd H6 SD (.dT (kvM (R'.map (·.1)++[rr])))=H7 at sm7 hOL7 ho7 hr7 hps7 hRL7 hrw7 hSD7 hrr7 hd7;obtain⟨kvs7,ekv7,hkv7⟩:=hd7;obtain⟨b7,q7,ev7,hin7,hb7⟩:∃b q,valV kvs7 (rr.map Sum.inl)=some (.ref b)/\(rr,q)∈ps/\Tp H7 b q:=by
    rcases sec_val hkv7 rr with ⟨_,hno⟩ | h
    ·exact absurd (List.mem_map.mpr ⟨_,hin,rfl⟩) hno
    ·exact h
   have hlt:=hps7.length;have hcl:(c0++[x]).length<=ps.length+1:=by
    have:=hpc6.nd.length_le_of_subset (l₂:=z::R') fun y hy=>(hpc6.mem y hy).elim (fun e=>by rw[e]; exact Am) (Ar _);rw[Aw] at this;omega
   have hdg:=DGet.t (k:=rr.map Sum.inl) ekv7 (by rw[Ap]; exact hrr7);rw[ev7] at hdg;refine⟨_,rfl,.inl ⟨rfl,_,SqL.of hRL7⟩,_,rfl,_,rfl,_,rfl,_,rfl,d,_,rfl,hdg,line_big (by simp),fun TT hTT=>⟨line_big (by simp),fun L1 hL1=>?_⟩⟩;have u1:=Same.new (o:=.tup [.ref ea,.ref b7]) hTT;have u2:=Same.new (o:=.lst [.ref TT]) hL1;have u12:=u1.trans u2;have hTT8:Pr2 (upd (upd H7 TT (.tup [.ref ea,.ref b7])) L1 (.lst [.ref TT])) TT (rr,q7):=⟨ea,b7,u2 _ _ upd_same,u12.tp hrr7,u12.tp hb7⟩;refine⟨r,L1,_,_,rfl,rfl,u12 _ _ hr7,upd_same,line_big (by rw[Ab]; simp; omega),fun NR hNR=>?_⟩;have u3:=Same.new (o:=.lst (ts.map V.ref++[.ref TT])) hNR;have u:=u12.trans u3;have hNR9:=upd_same (H:=upd (upd H7 TT (.tup [.ref ea,.ref b7])) L1 (.lst [.ref TT])) (a:=NR) (o:=.lst (ts.map V.ref++[.ref TT]));have hNR0:H7 NR=none:=u12.free hNR;have hTT9:=hTT8.same u3;generalize upd (upd (upd H7 TT (.tup [.ref ea,.ref b7])) L1 (.lst [.ref TT])) NR (.lst (ts.map V.ref++[.ref TT]))=H9 at u hNR9 hTT9;have sm9:=sm7.trans u;have hRL9:=u _ _ hRL7;have hrl:rws.length<=3000:=by have:=AN hrw7; omega
   refine⟨RL,_,_,rfl,rfl,hRL9,by rw[Ab]; exact zF (by omega),?_⟩;have nNR:NR≠RL:=Ne.symm (zj hRL7 hNR0);have nol:∀xs,(HO.lst (rws.map V.ref))≠.tup xs:=by intro xs z; cases z
   have hnew:(rr,q7)∉R':=fun h=>hsn (List.mem_map.mpr ⟨_,h,rfl⟩);have hnz:(rr,q7)≠z:=fun e=>hrz (by rw[<- e]);have hpn:=zkK hpc6 (y:=(rr,q7)) (zcU.mpr ⟨hrx,hri⟩) hnz hnew;have hrow9:RowH H H9 NR (c0++[x]++[(rr,q7)]):=⟨sm7.free hNR0,ts++[TT],by rw[hNR9,Ag]; rfl,Prs2.add (hps7.same u) hTT9⟩;refine⟨rws++[NR],css++[c0++[x]++[(rr,q7)]],R'++[(rr,q7)],_,rfl,sm9.then hRL0,by rw[zk nOR]; exact u _ _ hOL7,Tps.upd (u.tps ho7) hRL9 nol,by rw[zk hrRL]; exact u _ _ hr7,Prs2.upd (hps7.same u) hRL9 nol,by rw[upd_same,Ag]; rfl,?_,?_,?_,⟨?_,?_,?_⟩,fun y hy=>AI _ (hRR y hy),fun y hy=>?_,fun qq hqq=>?_,?_⟩
   ·exact Rows.upd (Rows.add (Paired.mapP hrw7 fun _ _ h=>h.same u) hrow9) hRL9 nol fun hm=>by
     rcases List.mem_append.mp hm with h | h
     ·exact hRr6 h
     ·exact nNR (List.mem_singleton.mp h).symm
   ·intro hm
    rcases List.mem_append.mp hm with h | h
    ·exact hRr6 h
    ·exact nNR (List.mem_singleton.mp h).symm
   ·rw[zk (Ne.symm nRS),Ag]; exact u _ _ hSD7
   ·intro y hy
    rcases List.mem_append.mp hy with h | h
    ·exact ri6.sub y h
    ·rw[List.mem_singleton.mp h]; exact hin7
   ·rw[Ag,AL]
    refine⟨ri6.nd,by simp,fun a ha b hb e=>?_⟩;rw[List.mem_singleton.mp hb] at e;have e':a=rr:=e;exact hsn (by rw[<- e']; exact ha)
   ·intro cs hcs
    rcases List.mem_append.mp hcs with h | h
    ·exact (ri6.pth cs h).mono fun y hy=>AI _ hy
    ·rw[List.mem_singleton.mp h]; exact hpn
   ·have:y∈z::R' \/ y=(rr,q7):=by
     rcases List.mem_cons.mp hy with h | h
     ·exact .inl (by rw[h]; exact Am)
     ·rcases List.mem_append.mp h with h | h
      ·exact .inl (Ar _ h)
      ·exact .inr (List.mem_singleton.mp h)
    rcases this with h | rfl
    ·rcases clo6 y h with e | ⟨c1,hc1⟩ | hdn
     ·exact .inl e
     ·exact .inr (.inl ⟨c1,AI _ hc1⟩)
     ·exact .inr (.inr (hdn.mono fun y hy=>AI _ hy))
    ·exact .inr (.inl ⟨c0++[x],AJ _ (List.mem_singleton.mpr rfl)⟩)
   ·rw[AH err] at hqq
    rw[Ag];rcases List.mem_append.mp hqq with h | h
    ·exact⟨(pro qq h).1,fun hm=>AI _ ((pro qq h).2 hm)⟩
    ·rw[List.mem_singleton.mp h]
     exact⟨hrz,fun _=>AJ _ (List.mem_singleton.mpr rfl)⟩
   ·have hlt2:R'.length<ps.length:=by
     have hnd2:((R'++[(rr,q7)]).map (·.1)).Nodup:=by
      rw[Ag,AL];refine⟨ri6.nd,by simp,fun a ha b hb e=>?_⟩;rw[List.mem_singleton.mp hb] at e;have e':a=rr:=e;exact hsn (by rw[<- e']; exact ha)
     have:=hnd2.length_le_of_subset (l₂:=ps.map (·.1)) fun a ha=>by
      obtain⟨y,hy,rfl⟩:=List.mem_map.mp ha;rcases List.mem_append.mp hy with h | h
      ·exact List.mem_map.mpr ⟨y,ri6.sub y h,rfl⟩
      ·rw[List.mem_singleton.mp h]; exact List.mem_map.mpr ⟨_,hin7,rfl⟩
     rw[Ab,Ab,Ah,AQ] at this;omega
    rw[Ah,Ah,AQ,AQ];omega
  ·rintro σ H6 ⟨rws,css,R',v5',rfl,sm6,hOL6,ho6,hr6,hps6,hRL6,hrw6,hRr6,hSD6,ri6,hRR,clo6,pro,hms⟩
   rw[Ab,hol,take_all] at pro;refine⟨_,?_,rws,css,R',_,_,rfl,rfl,sm6,hRL6,hrw6,hRr6,hSD6,ri6,fun y hy=>?_,?_⟩
   ·rw[Ah,AQ]; omega
   ·rcases clo6 y hy with e | h | h
    ·rw[e]; exact .inr pro
    ·exact .inl h
    ·exact .inr h
   ·omega
end
end K48
end
section
namespace K48
open K1
open PySem L2 STb
abbrev zbD:Stmt:=top 25
abbrev zex:Stmt:=top 24
abbrev ze6:Stmt:=top 26
abbrev zbw:Stmt:=top 23
def stds (ps:List Pq):List (List Int):=ps.flatMap fun x=>[x.1,x.2]
theorem zaZ (ps qs:List Pq):stds (ps++qs)=stds ps++stds qs:=by unfold stds; rw[List.flatMap_append]
theorem zbR (x:Pq):stds [x]=[x.1,x.2]:=rfl
structure PG (kn:List (List Int)) (ps:List Pq):Prop where
 has:∀x∈ps,x.2∈kn/\x.1∈rims x.2
 nd:(stds ps).Nodup
 ac:Acy ps
theorem zc7 {ps:List Pq} (h:(stds ps).Nodup):(ps.map (·.1)).Nodup:=by
 have:(ps.map (·.1)).Sublist (stds ps):=by
  induction ps with
  | nil=>exact List.Sublist.slnil
  | cons x r ih=>
   have e:stds (x::r)=[x.1,x.2]++stds r:=rfl;rw[e,AL] at h;rw[e];exact ((ih h.2.1).cons x.2).cons_cons x.1
 exact h.sublist this
theorem zbJ {ps:List Pq}{x:Pq} (h:x∈ps):x.1∈stds ps/\x.2∈stds ps:=⟨List.mem_flatMap.mpr ⟨x,h,by simp⟩,List.mem_flatMap.mpr ⟨x,h,by simp⟩⟩
section
variable {P:Program}{w:World}{K:Ad}{mg:Str->Option Value}{base:Heap}
theorem Prs2.get {H:Hp}:∀{ts:List Addr}{xs:List Pq}{i:Nat}{t:Addr},Prs2 H ts xs->ts[i]?=some t->∃x,xs[i]?=some x/\Pr2 H t x
 | _,_,_,_,.nil,e=>by simp at e
 | _,_,0,_,.cons r _,e=>by simp at e; subst e; exact⟨_,rfl,r⟩
 | _,_,i+1,t,.cons _ q,e=>by
  obtain⟨x,h1,h2⟩:=Prs2.get (i:=i) (t:=t) q (by simpa using e);exact⟨x,by simpa using h1,h2⟩
def zfK (K:Ad):Sp:=fun vs H Q _=>∃l t as kn x,vs=[.ref l,.ref t]/\SqL K H l (as.map V.ref)/\Tps H as kn/\Pr2 H t x/\x.2∈kn/\x.1∈rims x.2/\x.2.length<=5/\∀H',Same H H'->Q (.bl true) H'
theorem ziL:zu ["every","pair"] ["every","pair"] (zh zbD):=⟨rfl,rfl,rfl,by decide +kernel,rfl,by decide +kernel,by decide +kernel⟩
theorem zh5 {f fr:Addr}{fd fdr:FuncData} (F:Fun K "is_pair" "is_pair" zbD f fd) (B:Bt mg)
  (Fr:Fun K "rims_of" "rims_of" zcB fr fdr) (br:Binds K fdr ["piece"] []) (mr:mg "rims_of"=some (.ref fr)):FnOk P w K mg base CX0 2 f fd ["every","pair"] (zfK K):=by
 have Gr:FnOk P w K mg base CX0 1 fr fdr ["piece"] zbK:=zdh Fr B;refine F.ok ziL (fun vs H Q E h=>?_) (fun cdv A outer s H vs Q E hr h=>?_)
 ·obtain⟨l,t,as,kn,x,rfl,_⟩:=h; rfl
 ·obtain⟨l,t,as,kn,x,rfl,hl,hk,⟨a,b,ht,ha,hb⟩,h1,h2,h5,k⟩:=h
  have hu64:=hr.units;refine⟨_,zi (zt (zlQ (zdE (r:=rInT false K) (zhD (in1_units hu64)) (zR zZ (pv 1) zl (fun _ _=>rfl)) (pv 0) (by with_unfolding_all rfl))
   (zmq (zdE (r:=rInT false K) (zhD (in1_units hu64)) (zR zZ (pv 1) zl (fun _ _=>rfl)) (zn Gr hr rfl mr Fr.kp br .nil pass0 (ze (zR zZ (pv 1) zl (fun _ _=>rfl)) zg)) (by with_unfolding_all rfl))))),?_⟩
  refine⟨_,rfl,t,_,_,_,rfl,rfl,SqT.of ht,zC (j:=1) rfl,_,rfl,b,l,x.2,as,kn,rfl,rfl,hb,hl,hk,?_⟩;rw[if_neg (by decide),decide_eq_true h1];refine⟨_,rfl,iteT ⟨_,rfl,t,_,_,_,rfl,rfl,SqT.of ht,zC (j:=0) rfl,_,rfl,t,_,_,_,rfl,rfl,SqT.of ht,zC (j:=1) rfl,b,x.2,rfl,hb,h5,fun RL H1 rs s1 _ hR hr1=>⟨a,RL,x.1,rs,rims x.2,rfl,rfl,s1.tp ha,SqL.of hR,hr1,?_⟩⟩⟩;rw[if_neg (by decide),decide_eq_true h2];exact k H1 s1
theorem zeK {H2:Hp}{t d D:Addr}{x:Pq}{seq:List (List Int)}{Q:VK} (ht:Pr2 H2 t x) (hd:H2 d=some (.dT (kvM seq))) (hD:H2 D=none)
  (k:∀(H3:Hp),Same H2 H3->H3 D=some (.lst ([decide (x.1∈seq),decide (x.2∈seq)].map V.bl))->Q (.ref D) H3) :
  zaj (Itt K t) (zX 0) tYes (tDIn (tVar 0) (tVar 1)) [none,some (.ref d)] H2 D Q:=by
 obtain⟨a,b,et,ha,hb⟩:=ht;refine zfY (xs:=[.ref a,.ref b]) (fun j σ ys H3=>∃(v:Option V),σ=[v,some (.ref d)]/\Same H2 H3/\H3 D=some (.lst ys)/\ys=(([decide (x.1∈seq),decide (x.2∈seq)]:List Bool).take j).map V.bl) ?_ ?_ ?_ ?_
 ·exact⟨none,rfl,Same.new hD,upd_same,rfl⟩
 ·rintro j σ ys H3 ⟨v,rfl,sm,hD3,rfl⟩
  exact SqT.of (sm _ _ et)
 ·rintro j σ ys H3 y hy hj hl ⟨v,rfl,sm,hD3,rfl⟩
  have hn:([.ref a,.ref b]:List V).length<=sizeLine:=line_big (by simp);have hj2:j=0 \/ j=1:=by have:=(List.getElem?_eq_some_iff.mp hy).1; simp at this; omega
  rcases hj2 with rfl | rfl
  ·have e:V.ref a=y:=by simpa using hy
   subst e;refine gyes ⟨_,rfl,_,rfl,d,_,rfl,DGet.t (k:=x.1.map Sum.inl) (sm _ _ hd) (by rw[Ap]; exact sm.tp ha),?_⟩;rw[zdW];exact cput hn hj hl hD3 ⟨_,rfl,sm.then hD,upd_same,rfl⟩
  ·have e:V.ref b=y:=by simpa using hy
   subst e;refine gyes ⟨_,rfl,_,rfl,d,_,rfl,DGet.t (k:=x.2.map Sum.inl) (sm _ _ hd) (by rw[Ap]; exact sm.tp hb),?_⟩;rw[zdW];exact cput hn hj hl hD3 ⟨_,rfl,sm.then hD,upd_same,rfl⟩
 ·rintro σ ys H3 ⟨v,rfl,sm,hD3,rfl⟩
  exact k H3 sm hD3
abbrev nmB:List Str:=["every","pairs","stands","k","pair","piece"]
def zj7 (K:Ad):Sp:=fun vs H Q _=>∃l m as kn ts ps,vs=[.ref l,.ref m]/\SqL K H l (as.map V.ref)/\Tps H as kn/\SqL K H m (ts.map V.ref)/\Prs2 H ts ps/\(∀x∈ps,x.2∈kn/\x.1∈rims x.2)/\(∀x∈ps,x.2.length<=5)/\(stds ps).Nodup/\ps.length<=1000/\∀H',Same H H'->Q .non H'
theorem zd9:zu nmB ["every","pairs"] (zh zex):=⟨rfl,rfl,rfl,by decide +kernel,rfl,by decide +kernel,by decide +kernel⟩
theorem zkV {f fp:Addr}{fd fdp:FuncData} (F:Fun K "first_bad" "first_bad" zex f fd) (B:Bt mg) (yany:mg "any"=none) (bany:AS "any"=some (.builtin "any"))
  (Fp:Fun K "is_pair" "is_pair" zbD fp fdp) (bp:Binds K fdp ["every","pair"] []) (mp:mg "is_pair"=some (.ref fp)) (Gp:FnOk P w K mg base CX0 2 fp fdp ["every","pair"] (zfK K)):FnOk P w K mg base CX0 3 f fd ["every","pairs"] (zj7 K):=by
 refine F.ok zd9 (fun vs H Q E h=>?_) (fun cdv A outer s H vs Q E hr h=>?_)
 ·obtain⟨l,m,as,kn,ts,ps,rfl,_⟩:=h; rfl
 ·obtain⟨l,m,as,kn,ts,ps,rfl,hl,hk,hm,ht,hpr,h5,hnd,hz,k⟩:=h
  have hu:=zbo hr;refine⟨_,zf (zq (i:=2) zd9.nd rfl (Or.inr rfl) zP)
   (zf (zM AF rfl (zio rfl B.enumerate zcL (ze (pv 1) zg)) (zdc rfl (zah (zm (i:=3) zd9.nd rfl (Or.inl rfl)) (zah (zm (i:=4) zd9.nd rfl (Or.inl rfl)) zbY)))
    (zf (zaf (PW.pt (zhC (zc5 (zbS (zn Gp hr rfl mp Fp.kp bp .nil pass0 (ze (pv 0) (ze (pv 4) zg))))) (zfF (zbS (zv (zf6 rfl) rfl yany bany (ze (zx nmB ["piece","stands"] [none,some 2] (zcb (pv 4)) (fun cl C s₀ H₀ ex=>zm (i:=0) (ndN ["piece","stands"]) rfl (Or.inl rfl)) (fun cl C s₀ H₀ ex=>zN)
     (fun cl C s₀ H₀ ex=>zh1 (zda hu (pv 0) (pv 1)) (by with_unfolding_all rfl)) (hfr:=frOf (zh zex) (by decide +kernel)) (te:=tDIn (tVar 0) (tVar 1))) zg)))))) (zi (zt (pv 3))) zA)
    (zi (zM AF rfl (zcb (pv 4)) (zm (i:=5) zd9.nd rfl (Or.inl rfl)) (zi (zQ hu (pv 2) (pv 5) zbf rfl))))))
   (zi (zt zj3))),?_⟩
  intro d hd;have htl:=ht.length;have s1:=Same.new (o:=.dT []) hd;refine⟨_,rfl,m,rfl,⟨_,s1.seq hm⟩,zjP (K:=K) (a:=m) (xs:=ts.map V.ref) (fun i σ H2=>∃(v3 v4 v5:Option V),σ=[some (.ref l),some (.ref m),some (.ref d),v3,v4,v5]/\Same H H2/\H2 d=some (.dT (kvM (stds (ps.take i)))))
   ⟨none,none,none,rfl,s1,upd_same⟩ (fun i σ H2 _ ⟨_,_,_,_,sm,_⟩=>sm.seq hm) ?_ ?_⟩
  ·rintro i x p σ H2 hx ⟨v3,v4,v5,rfl,sm,hd2⟩ hp
   obtain⟨t,et,rfl⟩:=zE hx;obtain⟨y,ey,hy⟩:=ht.get et;have hym:y∈ps:=Ak ey;have sp:=Same.new (o:=.tup [.int i,.ref t]) hp;have s3:=sm.trans sp;have hi:i<ps.length:=(List.getElem?_eq_some_iff.mp ey).1;refine⟨p,_,rfl,SqT.of upd_same,rfl,_,_,rfl,_,_,rfl,rfl,?_⟩;refine⟨_,rfl,_,rfl,l,t,as,kn,y,rfl,s3.seq hl,s3.tps hk,hy.same s3,(hpr y hym).1,(hpr y hym).2,h5 y hym,fun H4 s4=>⟨_,rfl,iteF ?_⟩⟩;have s04:=s3.trans s4;have hd4:=(sp.trans s4) _ _ hd2;have hy4:=hy.same s04;obtain⟨a4,b4,et4,ha4,hb4⟩:=id hy4;have hsplit:stds ps=stds (ps.take i)++([y.1,y.2]++stds (ps.drop (i+1))):=by
    rw[<- zbR,<- zaZ,<- zaZ]
    congr 1
    rw[<- A4,<- AH ey,List.take_append_drop]
   have hno:y.1∉stds (ps.take i)/\y.2∉stds (ps.take i):=by
    rw[hsplit,AL] at hnd;exact⟨fun h=>hnd.2.2 _ h y.1 (by simp) rfl,fun h=>hnd.2.2 _ h y.2 (by simp) rfl⟩
   refine⟨_,rfl,t,rfl,⟨_,SqT.of et4⟩,fun D hD=>zG (zeK hy4 hd4 hD fun H5 s5 h5'=>⟨D,_,rfl,SqL.of h5',_,rfl,?_⟩)⟩;rw[decide_eq_false hno.1,decide_eq_false hno.2];have s05:=s04.trans s5;have hsl:(stds (ps.take i)).length<=2*i:=by
    have:∀l:List Pq,(stds l).length=2*l.length:=fun l=>by
     induction l with
     | nil=>rfl
     | cons a r ih=>rw[show stds (a::r)=[a.1,a.2]++stds r from rfl,Ah,ih]; simp; omega
    rw[this,AC]; omega
   refine iteF ⟨_,rfl,t,rfl,⟨_,SqT.of (s5 _ _ et4)⟩,zcH (K:=K) (a:=t) (xs:=[.ref a4,.ref b4]) (fun j σ H6=>∃(v5:Option V),σ=[some (.ref l),some (.ref m),some (.ref d),some (.int i),some (.ref t),v5]/\Same H H6/\H6 t=some (.tup [.ref a4,.ref b4])/\Tp H6 a4 y.1/\Tp H6 b4 y.2/\H6 d=some (.dT (kvM (stds (ps.take i)++[y.1,y.2].take j))))
    ⟨_,rfl,s05,s5 _ _ et4,s5.tp ha4,s5.tp hb4,by rw[List.take_zero,List.append_nil]; exact s5 _ _ hd4⟩ (fun j σ H6 _ ⟨_,_,_,h,_⟩=>SqT.of h) ?_ ?_⟩
   ·rintro j v σ H6 hv ⟨v5',rfl,s6,et6,ha6,hb6,hd6⟩
    have hj2:j=0 \/ j=1:=by have:=(List.getElem?_eq_some_iff.mp hv).1; simp at this; omega
    have tk:∀{c:Addr} {xs:List V} {o:HO},H6 c=some (.tup xs)->upd H6 d o c=some (.tup xs):=fun {c xs o} e=>by
     rw[zk (fun z=>by subst z; rw[hd6] at e; cases e)]; exact e
    rcases hj2 with rfl | rfl
    ·have e:V.ref a4=v:=by simpa using hv
     subst e;refine⟨_,rfl,_,rfl,d,_,rfl,DPut.t (k:=y.1.map Sum.inl) hd6 (by rw[Ap]; exact ha6) (zF (AG (zaY _) (by simp; omega))),⟨_,rfl,s6.then hd,tk et6,tk ha6,tk hb6,?_⟩⟩;rw[upd_same,zaX,A4]; rfl
    ·have e:V.ref b4=v:=by simpa using hv
     subst e;refine⟨_,rfl,_,rfl,d,_,rfl,DPut.t (k:=y.2.map Sum.inl) hd6 (by rw[Ap]; exact hb6) (zF (AG (zaY _) (by simp; omega))),⟨_,rfl,s6.then hd,tk et6,tk ha6,tk hb6,?_⟩⟩;rw[upd_same,zaX,A4]; rfl
   ·rintro σ H6 ⟨v5',rfl,s6,et6,ha6,hb6,hd6⟩
    refine⟨_,_,_,rfl,s6,?_⟩;rw[AH ey,zaZ,zbR];exact hd6
  ·rintro σ H2 ⟨v3,v4,v5,rfl,sm,hd2⟩
   exact k H2 sm
end
end K48
end
section
namespace L2
open PySem PySem.Spec PyProof.Rows
section
variable {X:Cx}
theorem zeX:zaS X (.builtin "isinstance") (fun xs H Q=>∃n,xs=[.int n,.ty "bool"]/\Q (.bl false) H):=by
 intro pins s σ H xs us Q I r h;obtain⟨n,rfl,q⟩:=h;obtain⟨u,u',rfl,ru,ru'⟩:=vals2 r;cases ru';exact zcG I ru (.int n) (by first | rfl | kernel_rfl | decide +kernel) fun tk=>⟨.bl false,H,I.tok _,rfl,q⟩
theorem zfe:zaS X (.builtin "isinstance") (fun xs H Q=>∃a ys,xs=[.ref a,.ty "list"]/\H a=some (.lst ys)/\Q (.bl true) H):=by
 intro pins s σ H xs us Q I r h;obtain⟨a,ys,rfl,ha,q⟩:=h;obtain⟨u,u',rfl,ru,ru'⟩:=vals2 r;cases ru';exact zcG I ru (.lst ha) (by first | rfl | kernel_rfl | decide +kernel) fun tk=>⟨.bl true,H,I.tok _,rfl,q⟩
end
end L2
end
section
namespace K1
def sg (q:List Int):Int:=1 - 2*(1 - (q.length:Int) % 2)
theorem zdL {pss:List (List Int)}{q:List Int}:q∈canon pss ↔ q≠[]/\∃t∈pss,q.Sublist t:=by
 rw[zeb,List.mem_flatMap];constructor
 ·rintro⟨t,ht,hq⟩
  exact⟨(zau.mp hq).1,t,ht,(zau.mp hq).2⟩
 ·rintro⟨h,t,ht,hq⟩
  exact⟨t,ht,zau.mpr ⟨h,hq⟩⟩
end K1
end
section
namespace K1
abbrev hol (t p:List Int):Bool:=(p.map fun x=>decide (x∈t)).all id
section
variable {pss:List (List Int)}{p:List Int}
theorem zaJ (hw:webM pss=true) {q:List Int} (h:q∈canon pss):zaL q=true:=by
 obtain⟨t,ht,hx⟩:=List.mem_flatMap.mp (zeb.mp h);exact zgz ((za7 hw).2.1 t ht) hx
end
end K1
end
section
namespace K48
open K1
open PySem L2 STb
section
variable {P:Program}{w:World}{K:Ad}{mg:Str->Option Value}{base:Heap}
theorem zfT {ps:List Pq} (h:Acy ps) (i:Nat):Acy (ps.take i):=zb1 h fun x hx=>List.mem_of_mem_take hx
def zjW (K:Ad):Sp:=fun vs H Q _=>∃m ts ps,vs=[.ref m]/\SqL K H m (ts.map V.ref)/\Prs2 H ts ps/\(∀x∈ps,x.2.length<=5)/\(ps.map (·.1)).Nodup/\ps.length<=1000/\Acy ps/\∀D H',Same H H'->H' D=some (.lst [])->Q (.ref D) H'
theorem zgb:zu ["pairs","seconds","pair","found"] ["pairs"] (zh ze6):=⟨rfl,rfl,rfl,by decide +kernel,rfl,by decide +kernel,by decide +kernel⟩
theorem zlJ {f fr:Addr}{fd fdr:FuncData} (F:Fun K "first_round" "first_round" ze6 f fd) (B:Bt mg)
  (Fr:Fun K "round_with" "round_with" sRW fr fdr) (br:Binds K fdr ["seconds","new"] []) (mr:mg "round_with"=some (.ref fr)) (Gr:FnOk P w K mg base CX0 3 fr fdr ["seconds","new"] spRW):FnOk P w K mg base CX0 4 f fd ["pairs"] (zjW K):=by
 refine F.ok zgb (fun vs H Q E h=>?_) (fun cdv A outer s H vs Q E hr h=>?_)
 ·obtain⟨m,ts,ps,rfl,_⟩:=h; rfl
 ·obtain⟨m,ts,ps,rfl,hm,ht,h5,hnd,hz,hac,k⟩:=h
  have hu:=zbo hr;refine⟨_,zf (zq (i:=1) zgb.nd rfl (Or.inl rfl) zP)
   (zf (zM AF rfl (zw (pv 0)) (zm (i:=2) zgb.nd rfl (Or.inl rfl))
    (zf (zq (i:=3) zgb.nd rfl (Or.inl rfl) (zn Gr hr rfl mr Fr.kp br .nil pass0 (ze (pv 1) (ze (pv 2) zg))))
    (zf (zaf (zy zc1 (zv zo rfl B.len zaI (ze (pv 3) zg)) zl (nomark _)) (zi (zt (pv 3))) zA)
    (zi (zQ hu (pv 1) (zR zZ (pv 2) zl (fun _ _=>rfl)) (zR zZ (pv 2) zl (fun _ _=>rfl)) rfl)))))
   (zi (zt (zY zg)))),?_⟩
  intro d hd;have s1:=Same.new (o:=.dT []) hd;have htl:=ht.length;refine⟨_,rfl,m,rfl,⟨_,s1.seq hm⟩,zK (K:=K) (a:=m) (xs:=ts.map V.ref) (fun i σ H2=>∃(v2 v3:Option V),σ=[some (.ref m),some (.ref d),v2,v3]/\Same H H2/\Sec H2 d (ps.take i))
   ⟨none,none,rfl,s1,[],upd_same,.nil⟩ (fun i σ H2 _ ⟨_,_,_,sm,_⟩=>sm.seq hm) ?_ ?_⟩
  ·rintro i x σ H2 hx ⟨v2,v3,rfl,sm,hsec⟩
   obtain⟨t,et,rfl⟩:=zE hx;obtain⟨y,ey,hy⟩:=ht.get et;have hym:y∈ps:=Ak ey;have hnt:((ps.take (i+1)).map (·.1)).Nodup:=hnd.sublist ((List.take_sublist _ _).map _);rw[AH ey,Ag,AL] at hnt;have hyn:y.1∉(ps.take i).map (·.1):=fun h=>hnt.2.2 _ h y.1 (by simp) rfl;have hat:Acy (ps.take i++[y]):=by rw[<- AH ey]; exact zfT hac _
   refine⟨_,rfl,_,rfl,d,t,ps.take i,y,rfl,hsec,hy.same sm,hnt.1,hyn,fun x hx=>h5 x (List.mem_of_mem_take hx),h5 y hym,by rw[AC]; omega,zfT hac i,fun D H3 s3 hD0 hD _=>?_,fun D H3 us cs _ _ _ _ hrn _ hcs=>absurd hat (zhF hrn hcs)⟩;refine⟨_,rfl,D,[],rfl,.inl (SqL.of hD),_,_,rfl,rfl,_,rfl,iteF ?_⟩;obtain⟨a,b,e,ha,hb⟩:=hy.same (sm.trans s3);obtain⟨kvs,ek,hk⟩:=hsec.same s3;obtain⟨kvs',e1,e2,e3⟩:=zhA hk hyn hb;have hkl:=AN hk;refine⟨_,rfl,t,_,_,_,rfl,rfl,SqT.of e,zC (j:=1) rfl,_,rfl,_,rfl,t,_,_,_,rfl,rfl,SqT.of e,zC (j:=0) rfl,d,_,rfl,DPut.t (k:=y.1.map Sum.inl) ek (by rw[Ap]; exact ha) (zF (by rw[hkl,AC]; omega)),⟨_,_,rfl,(sm.trans s3).then hd,?_⟩⟩;rw[e1,AH ey];exact⟨kvs',upd_same,Paired.mapP e2 fun kv x ⟨h1,b,h2,h3⟩=>⟨h1,b,h2,by
    show upd H3 d _ b=_;rw[zk (fun z=>by subst z; have h4:H3 b=some _:=h3; rw[ek] at h4; cases h4)]; exact h3⟩⟩
  ·rintro σ H2 ⟨v2,v3,rfl,sm,hsec⟩
   exact⟨line_big (by simp),fun D hD=>k D _ (sm.then (sm.free hD)) upd_same⟩
def zfE (K:Ad):Sp:=fun vs H Q _=>∃l m as pss ts ps,vs=[.ref l,.ref m]/\SqL K H l (as.map V.ref)/\Tps H as pss/\webS pss/\SqL K H m (ts.map V.ref)/\Prs2 H ts ps/\PG (canon pss) ps/\ps.length<=1000/\∀D H',Same H H'->H' D=some (.tup [.str "pairing"])->Q (.ref D) H'
theorem zdQ:zu ["web","pairs","bad","found"] ["web","pairs"] (zh zbw):=⟨rfl,rfl,rfl,by decide +kernel,rfl,by decide +kernel,by decide +kernel⟩
theorem zhL {f fb fr fp:Addr}{fd fdb fdr fdp:FuncData} (F:Fun K "judged" "judged" zbw f fd) (B:Bt mg)
  (Fb:Fun K "first_bad" "first_bad" zex fb fdb) (bb:Binds K fdb ["every","pairs"] []) (mb:mg "first_bad"=some (.ref fb)) (Gb:FnOk P w K mg base CX0 3 fb fdb ["every","pairs"] (zj7 K))
  (Fr:Fun K "first_round" "first_round" ze6 fr fdr) (br:Binds K fdr ["pairs"] []) (mr:mg "first_round"=some (.ref fr)) (Gr:FnOk P w K mg base CX0 4 fr fdr ["pairs"] (zjW K))
  (Fp:Fun K "pieces" "pieces" zaR fp fdp) (bp:Binds K fdp ["web"] []) (mp:mg "pieces"=some (.ref fp)) (Gp:FnOk P w K mg base CX0 8 fp fdp ["web"] (zcq K)):FnOk P w K mg base CX0 9 f fd ["web","pairs"] (zfE K):=by
 refine F.ok zdQ (fun vs H Q E h=>?_) (fun cdv A outer s H vs Q E hr h=>?_)
 ·obtain⟨l,m,as,pss,ts,ps,rfl,_⟩:=h; rfl
 ·obtain⟨l,m,as,pss,ts,ps,rfl,hl,ha,hw,hm,ht,pg,hz,k⟩:=h
  have hr3:Room 3 _:=hr.mono (by decide);have hr4:Room 4 _:=hr.mono (by decide);refine⟨_,zf (zq (i:=2) zdQ.nd rfl (Or.inl rfl) (zn Gb hr3 rfl mb Fb.kp bb .nil pass0 (ze (zn Gp hr rfl mp Fp.kp bp .nil pass0 (ze (pv 0) zg)) (ze (pv 1) zg))))
   (zf (zaf (zy zkS (pv 2) zj3 (nomark _)) zbb zA)
   (zf (zq (i:=3) zdQ.nd rfl (Or.inl rfl) (zn Gr hr4 rfl mr Fr.kp br .nil pass0 (ze (pv 1) zg)))
   (zf (zaf (zy zc1 (zv zo rfl B.len zaI (ze (pv 3) zg)) zl (nomark _)) zbb zA)
   (zi (zt (zak (ze zV zg))))))),?_⟩
  have h5:∀x∈ps,x.2.length<=5:=fun x hx=>(zam.mp (zaJ hw.1 (pg.has x hx).1)).2.1;refine⟨_,rfl,l,as,pss,rfl,hl,ha,hw,fun KN H1 ks s1 _ hK1 hk1=>?_⟩;refine⟨_,rfl,KN,m,ks,canon pss,ts,ps,rfl,SqL.of hK1,hk1,s1.seq hm,ht.same s1,pg.has,h5,pg.nd,hz,fun H2 s2=>?_⟩;have s12:=s1.trans s2;refine⟨_,rfl,rfl,_,rfl,iteF ⟨_,rfl,m,ts,ps,rfl,s12.seq hm,ht.same s12,h5,zc7 pg.nd,hz,pg.ac,fun D H3 s3 hD=>?_⟩⟩;refine⟨_,rfl,D,[],rfl,.inl (SqL.of hD),_,_,rfl,rfl,_,rfl,iteF ⟨line_big (by simp),fun T hT=>k T _ ((s12.trans s3).then ((s12.trans s3).free hT)) upd_same⟩⟩
end
end K48
end
section
namespace L2
open PySem PySem.Spec PyProof.Rows
def Itrl (K:Ad) (a:Addr) (n:Nat):It:=
 ⟨fun i H=>i<n/\∃xs,SqL K H a xs/\xs.length=n,fun i H x H'=>H'=H/\∀xs,SqL K H a xs->xs.reverse[i]?=some x,fun i H=>i=n/\∃xs,SqL K H a xs/\xs.length=n⟩
theorem zim {P:Program}{w:World}{K:Ad}{tg:Expr} (a it:Addr) (n:Nat):Turn P w K tg (Itrl K a n) [it] it (fun i h=>h.IsRevIter it a ((n:Int) - 1 - (i:Int))) where
 mem:=by simp
 obj:=fun i h st b hb=>by
  have e:b=it:=by simpa using hb
  subst e;obtain⟨o,e,c,d⟩:=st;exact⟨o,e,fun v z=>by rw[d] at z; cases z⟩
 keep:=fun i h h' st k=>st.at fun o e=>k it (by simp) o e
 item:=by
  intro X hP hw hK hc i pins s σ H E I hf st hg;subst hP hw hK;obtain⟨hi,xs,hq,hn⟩:=hg;obtain⟨its,rv,p,hz⟩:=I.list hq;have hx:xs.reverse[i]?=some (xs[n - 1 - i]'(by omega)):=by
   have e:xs.length - 1 - i=n - 1 - i:=by omega
   rw[List.getElem?_reverse (by omega),e];exact Ai _
  obtain⟨u,hu,ru⟩:=rv.get (Ai (l:=xs) (i:=n - 1 - i) (by omega));obtain⟨f0,f1,f2,f3,f4,f5⟩:=hf it (by simp);have e:(n:Int) - 1 - (i:Int)=((n - 1 - i:Nat):Int):=by omega
  rw[e] at st;refine wpAny_pyNext_rev_item st p.isList (x:=u) (by simpa using hu) fun h' st' sb=>?_;rw[show ((n - 1 - i:Nat):Int) - 1=(n:Int) - 1 - ((i+1:Nat):Int) by omega] at st';have I1:Inv X pins σ H { s with heap:=h' }:=I.turned (t':=s.toks) (fun b o hb e=>(sb.2 b hb).trans e) f0 f1 f3 f4 f5;obtain⟨o,e,c,d⟩:=id st';exact⟨u,rfl,zgs (s:={ s with heap:=h' }) e c d (by decide) ⟨xs[n - 1 - i]'(by omega),H,I1,ru,⟨rfl,fun ys hy=>by rw[I.list_inj hy hq]; exact hx⟩,st',fun b hb=>(hf b hb).1⟩⟩
 done:=by
  intro X hP hw hK hc i pins s σ H E I hf st hg;subst hP hw hK;obtain⟨hi,xs,hq,hn⟩:=hg;obtain⟨f0,f1,f2,f3,f4,f5⟩:=hf it (by simp);rw[hi,show (n:Int) - 1 - (n:Int)=-1 by omega] at st;exact wpAny_pyNext_rev_end (I.ok.hd hc) st fun h' eb=>⟨rfl,I.turned (t':=s.toks) (fun b o hb e=>eb b o hb e) f0 f1 f3 f4 f5⟩
 self:=fun _ _ _ _ _ st h=>wpAny_pyIter_revIter st h
def zm9 (K:Ad) (ta:TA):TI:=fun σ H R=>ta σ H fun vs H1=>∃a xs,vs=[.ref a]/\SqL K H1 a xs/\R (Itrl K a xs.length) H1
section
variable {X:Cx}{tg:Expr}
theorem zlh {e:Expr}{ta:TA}{p pos:Pos} (hg:Gl X "reversed") (hm:X.mg "reversed"=none) (hv:AS "reversed"=some (.type "reversed")) (ha:PA X [e] ta) (he:starEach [e] X.env=[(false,eval e X.env)]:=by rfl) :
  PI X tg (.Call (.Name "reversed" p) [e] [] pos) (zm9 X.K ta):=by
 intro pins s σ H R I h;refine Call_ (zb9 I hg hm hv (PyProof.Rows.callWith_type1 (thn (ha pos pins s σ H _ I h) fun us s1 ⟨vs,H1,I1,r1,q1⟩=>?_) he rfl));obtain⟨a,xs,rfl,hx,q⟩:=q1;obtain⟨u,rfl,ru⟩:=vals1 r1;cases ru;obtain⟨its,r2,p2,hz⟩:=I1.list hx;refine call_reversed_list p2.isList ?_;refine wpAny_pyIter_revIter (s:={ s1 with heap:=s1.heap.push (revObj a ((its.toArray.size:Int) - 1)) }) ⟨_,Aq _ rfl,rfl,rfl⟩ ?_;refine⟨s1.heap.objs.size,[s1.heap.objs.size],_,_,H1,rfl,I1.kept fun b o e=>Ae _ e,zim a _ xs.length,⟨_,Aq _ rfl,rfl,?_⟩,fun b hb=>?_,q⟩
 ·show Data.fields #[.ref a,rawInt ((its.toArray.size:Int) - 1)]=Data.fields #[.ref a,rawInt ((xs.length:Int) - 1 - ((0:Nat):Int))]
  rw[Aj,r2.length];simp
 ·have e:b=s1.heap.objs.size:=by simpa using hb
  subst e;exact I1.fpOk (Af _) (I1.hok.fresh (Af _))
end
end L2
end
section
namespace L2
open PySem PySem.Spec PyProof.Rows
theorem zjR {K:Ad}{a:Addr}{xs:List V}{g:TG}{tb:TS}{D:Ends}{σ:St}{H:Hp} (Pv:Nat->St->Hp->Prop) (h0:Pv 0 σ H) (hl:∀i σ H,i<=xs.length->Pv i σ H->SqL K H a xs)
  (hs:∀i x σ H,xs.reverse[i]?=some x->Pv i σ H->g x σ H fun σ2 H2=>tb { D with nx:=Pv (i+1),ct:=Pv (i+1),bk:=D.nx } σ2 H2) (hd:∀σ H,Pv xs.length σ H->D.nx σ H) :
  ∃W:Nat->Nat->St->Hp->Prop,(∃m,W 0 m σ H)/\∀i m σ H,W i m σ H->
   ((Itrl K a xs.length).stop i H/\D.nx σ H) \/ ((Itrl K a xs.length).go i H/\∃N:St->Hp->Prop,(∀σ' H',N σ' H'->∃m',m'<m/\W (i+1) m' σ' H')/\∀x H',(Itrl K a xs.length).yld i H x H'->g x σ H' fun σ2 H2=>tb { D with nx:=N,ct:=N,bk:=D.nx } σ2 H2):=by
 refine⟨fun i m σ H=>m=xs.length - i/\i<=xs.length/\Pv i σ H,⟨xs.length,by simp,AO _,h0⟩,?_⟩;rintro i m σ H ⟨rfl,hi,p⟩;have q:=hl i σ H hi p
 by_cases hlt:i<xs.length
 ·refine .inr ⟨⟨hlt,xs,q,rfl⟩,Pv (i+1),fun σ' H' p'=>⟨xs.length - (i+1),by omega,rfl,hlt,p'⟩,fun x H' y=>?_⟩
  obtain⟨e,y⟩:=y;subst e;exact hs i x σ _ (y xs q) p
 ·have e:i=xs.length:=by omega
  subst e;exact .inl ⟨⟨rfl,xs,q,rfl⟩,hd σ H p⟩
end L2
namespace K48
open K1
open PySem L2 STb
abbrev sPof:Stmt:=top 30
abbrev zax:Stmt:=top 29
def allP (kn:List (List Int)):List Pq:=kn.reverse.flatMap fun p=>(rims p).map fun r=>(r,p)
theorem zfM {kn:List (List Int)}{x:Pq}:x∈allP kn ↔ x.2∈kn/\x.1∈rims x.2:=by
 unfold allP;rw[List.mem_flatMap];constructor
 ·rintro⟨p,hp,hx⟩
  obtain⟨r,hr,rfl⟩:=List.mem_map.mp hx;exact⟨List.mem_reverse.mp hp,hr⟩
 ·rintro⟨h1,h2⟩
  exact⟨x.2,List.mem_reverse.mpr h1,List.mem_map.mpr ⟨x.1,h2,rfl⟩⟩
theorem Prs2.app {H:Hp}:∀{ts us:List Addr}{xs ys:List Pq},Prs2 H ts xs->Prs2 H us ys->Prs2 H (ts++us) (xs++ys)
 | _,_,_,_,.nil,h=>h
 | _,_,_,_,.cons r q,h=>.cons r (Prs2.app q h)
theorem Tps.rev {H:Hp}{as:List Addr}{pss:List (List Int)} (h:Tps H as pss):Tps H as.reverse pss.reverse:=by
 induction h with
 | nil=>exact .nil
 | cons r t ih=>rw[List.reverse_cons,List.reverse_cons]; exact Tps.snoc ih r
abbrev tPq:TE:=tTup (zW (tVar 0) (zW (tVar 1) tNil))
section
variable {P:Program}{w:World}{K:Ad}{mg:Str->Option Value}{base:Heap}
theorem zkE {H2:Hp}{L pc D:Addr}{as:List Addr}{kn:List (List Int)}{p:List Int}{Q:VK} (hl:SqL K H2 L (as.map V.ref)) (ht:Tps H2 as kn) (hp:Tp H2 pc p) (hz:kn.length<=1000) (hD:H2 D=none)
  (k:∀(H3:Hp) (ts:List Addr),Same H2 H3->H3 D=some (.lst (ts.map V.ref))->Prs2 H3 ts (kn.map fun r=>(r,p))->Q (.ref D) H3):zaj (Itl K L) (zX 0) tYes tPq [none,some (.ref pc)] H2 D Q:=by
 have hla:=ht.length;refine zL (xs:=as.map V.ref) (fun j σ ys H3=>∃(v:Option V) (ts:List Addr),σ=[v,some (.ref pc)]/\Same H2 H3/\H3 D=some (.lst ys)/\ys=ts.map V.ref/\Prs2 H3 ts ((kn.map fun r=>(r,p)).take j)) ?_ ?_ ?_ ?_
 ·exact⟨none,[],rfl,Same.new hD,upd_same,rfl,.nil⟩
 ·rintro j σ ys H3 ⟨v,ts,rfl,sm,hD3,rfl,_⟩
  exact sm.seq hl
 ·rintro j σ ys H3 x hx hj hy ⟨v,ts,rfl,sm,hD3,rfl,hb⟩
  obtain⟨o,eo,rfl⟩:=zE hx;obtain⟨r,er,hr⟩:=ht.get eo;have hn:(as.map V.ref).length<=sizeLine:=by rw[Ab]; exact line_big (by omega)
  have e:(kn.map fun r=>(r,p))[j]?=some (r,p):=by rw[Al,er]; rfl
  refine gyes ⟨_,rfl,_,rfl,line_big (by simp),fun T hT=>?_⟩;have s4:=Same.new (o:=.tup [.ref o,.ref pc]) hT;have hT4:Pr2 (upd H3 T (.tup [.ref o,.ref pc])) T (r,p):=⟨o,pc,upd_same,(sm.trans s4).tp hr,(sm.trans s4).tp hp⟩;refine cput hn hj hy (s4 _ _ hD3) ⟨_,ts++[T],rfl,(sm.trans s4).then hD,upd_same,by rw[Ag]; rfl,?_⟩;rw[AH e];exact Prs2.upd (Prs2.add (hb.same s4) hT4) (s4 _ _ hD3) (by intro xs z; cases z)
 ·rintro σ ys H3 ⟨v,ts,rfl,sm,hD3,rfl,hb⟩
  rw[An (by rw[Ab,Ab]; omega)] at hb;exact k H3 ts sm hD3 hb
def zmi (K:Ad):Sp:=fun vs H Q _=>∃l as kn,vs=[.ref l]/\SqL K H l (as.map V.ref)/\Tps H as kn/\(∀p∈kn,p.length<=5)/\kn.length<=1000/\∀D H' ts,Same H H'->H' D=some (.lst (List.map V.ref ts))->Prs2 H' ts (allP kn)->Q (.ref D) H'
theorem zlz:zu ["every","told","piece"] ["every"] (zh sPof):=⟨rfl,rfl,rfl,by decide +kernel,rfl,by decide +kernel,by decide +kernel⟩
theorem zmb {f fr:Addr}{fd fdr:FuncData} (F:Fun K "pairs_of" "pairs_of" sPof f fd) (B:Bt mg)
  (Fr:Fun K "rims_of" "rims_of" zcB fr fdr) (br:Binds K fdr ["piece"] []) (mr:mg "rims_of"=some (.ref fr)):FnOk P w K mg base CX0 2 f fd ["every"] (zmi K):=by
 have Gr:FnOk P w K mg base CX0 1 fr fdr ["piece"] zbK:=zdh Fr B;refine F.ok zlz (fun vs H Q E h=>?_) (fun cdv A outer s H vs Q E hr h=>?_)
 ·obtain⟨l,as,kn,rfl,_⟩:=h; rfl
 ·obtain⟨l,as,kn,rfl,hl,ht,h5,hz,k⟩:=h
  refine⟨_,zf (zq (i:=1) zlz.nd rfl (Or.inl rfl) (zY zg))
   (zf (zM AF rfl (zlh rfl B.reversed zgr (ze (pv 0) zg)) (zm (i:=2) zlz.nd rfl (Or.inr rfl))
    (zi (zaz (zci AU PySem.F.slot_list_extend PySem.F.type_list_extend zek (pv 1) (ze (zx ["every","told","piece"] ["rim","piece"] [none,some 2] (zw (zn Gr hr rfl mr Fr.kp br .nil pass0 (ze (pv 2) zg))) (fun cl C s₀ H₀ ex=>zm (i:=0) (ndN ["rim","piece"]) rfl (Or.inl rfl)) (fun cl C s₀ H₀ ex=>zN)
     (fun cl C s₀ H₀ ex=>zak (ze (pv 0) (ze (pv 1) zg))) (hfr:=frOf (zh sPof) (by decide +kernel)) (te:=tPq)) zg)))))
   (zi (zt (pv 1)))),?_⟩
  have hla:=ht.length;refine⟨line_big (by simp),fun L hL=>?_⟩;have s1:=Same.new (o:=.lst []) hL;have htr:=Tps.rev ht;refine⟨_,rfl,l,_,rfl,s1.seq hl,zjR (K:=K) (a:=l) (xs:=as.map V.ref) (fun i σ H2=>∃(v2:Option V) (ts:List Addr),σ=[some (.ref l),some (.ref L),v2]/\Same H H2/\H2 L=some (.lst (ts.map V.ref))/\Prs2 H2 ts ((kn.reverse.take i).flatMap fun p=>(rims p).map fun r=>(r,p)))
   ⟨none,[],rfl,s1,upd_same,.nil⟩ (fun i σ H2 _ ⟨_,_,_,sm,_⟩=>sm.seq hl) ?_ ?_⟩
  ·rintro i x σ H2 hx ⟨v2,ts,rfl,sm,hL2,hts⟩
   rw[<- List.map_reverse] at hx;obtain⟨a,ea,rfl⟩:=zE hx;obtain⟨p,ep,hp⟩:=htr.get ea;have hpm:p∈kn:=List.mem_reverse.mp (Ak ep);have hi:i<kn.length:=by have:=(List.getElem?_eq_some_iff.mp ep).1; rw[List.length_reverse] at this; exact this
   have hlen:((kn.reverse.take i).flatMap fun p=>(rims p).map fun r=>(r,p)).length<=5*i:=by
    have:∀l:List (List Int),(∀p∈l,p.length<=5)->(l.flatMap fun p=>(rims p).map fun r=>(r,p)).length<=5*l.length:=fun l=>by
     induction l with
     | nil=>intro _; simp
     | cons a r ih=>
      intro h;rw[List.flatMap_cons,Ah,Ab,Aw];have h1:=zao a;have h2:=h a Am;have h3:=ih fun p hp=>h p (Ar _ hp);omega
    have h:=this (kn.reverse.take i) fun p hp=>h5 p (List.mem_reverse.mp (List.mem_of_mem_take hp));rw[AC,List.length_reverse] at h;omega
   have htl:=hts.length;refine⟨_,rfl,.inl ⟨rfl,_,SqL.of hL2⟩,_,rfl,a,p,rfl,sm.tp hp,h5 p hpm,fun RL H3 rs s3 _ hR3 hr3=>⟨RL,rfl,⟨_,SqL.of hR3⟩,fun D hD=>zG (zkE (SqL.of hR3) hr3 ((sm.trans s3).tp hp) (AG (zao _) (by have:=h5 p hpm; omega)) hD fun H4 us s4 hD4 hu4=>?_)⟩⟩;have hul:=hu4.length;rw[Ab] at hul;have hrl:=zao p;have h5p:=h5 p hpm;have s34:=s3.trans s4;refine⟨L,D,_,_,rfl,rfl,s34 _ _ hL2,hD4,by rw[Ab,Ab]; exact line_big (by omega),⟨_,ts++us,rfl,(sm.trans s34).then hL,by rw[upd_same,Ag],?_⟩⟩;rw[AH ep,List.flatMap_append,List.flatMap_singleton];exact Prs2.upd (Prs2.app (hts.same s34) hu4) (s34 _ _ hL2) (by intro xs z; cases z)
  ·rintro σ H2 ⟨v2,ts,rfl,sm,hL2,hts⟩
   rw[Ab,hla,An (by rw[List.length_reverse]; omega)] at hts;exact⟨_,rfl,k L H2 ts sm hL2 hts⟩
end
end K48
end
section
namespace K48
open K1
open PySem L2 STb
def Full (kn:List (List Int)) (ps:List Pq):Prop:=∀x:Pq,x.2∈kn->x.1∈rims x.2->x.1∈stds ps \/ x.2∈stds ps \/ ¬ Acy (ps++[x])
theorem zaU {ps:List Pq}{p:List Int}:p∈stds ps ↔ ∃x∈ps,p=x.1 \/ p=x.2:=by
 unfold stds;rw[List.mem_flatMap];exact⟨fun ⟨x,h1,h2⟩=>⟨x,h1,by simpa using h2⟩,fun ⟨x,h1,h2⟩=>⟨x,h1,by simpa using h2⟩⟩
theorem zbN {ps qs:List Pq} (h:ps.Perm qs):(stds ps).Perm (stds qs):=h.flatMap_right _
theorem zk7 {kn:List (List Int)}{ps qs:List Pq} (h:ps.Perm qs) (g:PG kn ps):PG kn qs:=⟨fun x hx=>g.has x (h.mem_iff.mpr hx),(zbN h).nodup_iff.mp g.nd,zb1 g.ac fun x hx=>h.mem_iff.mpr hx⟩
theorem zha {kn:List (List Int)}{ps qs:List Pq} (h:ps.Perm qs) (g:Full kn ps):Full kn qs:=fun x h1 h2=>by
 rcases g x h1 h2 with a | a | a
 ·exact .inl ((zbN h).mem_iff.mp a)
 ·exact .inr (.inl ((zbN h).mem_iff.mp a))
 ·exact .inr (.inr fun c=>a (zb1 c fun y hy=>by
   rcases List.mem_append.mp hy with hy | hy
   ·exact AI _ (h.mem_iff.mp hy)
   ·exact AJ _ hy))
theorem zk9 {l:List Pq} (h:(l.map (·.1)).Nodup):∀a∈l,∀b∈l,a.1=b.1->a=b:=by
 induction l with
 | nil=>intro a ha; cases ha
 | cons c r ih=>
  intro a ha b hb e;rw[Av,List.nodup_cons] at h;rcases List.mem_cons.mp ha with ea | ha'
  ·rcases List.mem_cons.mp hb with eb | hb'
   ·rw[ea,eb]
   ·exact absurd (List.mem_map.mpr ⟨b,hb',by rw[<- e,ea]⟩) h.1
  ·rcases List.mem_cons.mp hb with eb | hb'
   ·exact absurd (List.mem_map.mpr ⟨a,ha',by rw[e,eb]⟩) h.1
   ·exact ih h.2 a ha' b hb' e
theorem zi8 {xs ps:List Pq} (hm:∀x∈xs,x∈ps) (hn:(ps.map (·.1)).Nodup) (hp:(xs.map (·.1)).Perm (ps.map (·.1))):xs.Perm ps:=by
 have nx:xs.Nodup:=(List.Pairwise.of_map (·.1) (fun a b h e=>h (by rw[e])) (List.nodup_iff_pairwise_ne.mp (hp.nodup_iff.mpr hn)):xs.Pairwise (·≠·));have np:ps.Nodup:=(List.Pairwise.of_map (·.1) (fun a b h e=>h (by rw[e])) (List.nodup_iff_pairwise_ne.mp hn):ps.Pairwise (·≠·));refine (List.perm_ext_iff_of_nodup nx np).mpr fun x=>⟨hm x,fun hx=>?_⟩;obtain⟨y,hy,e⟩:=List.mem_map.mp (hp.mem_iff.mpr (List.mem_map.mpr ⟨x,hx,rfl⟩));rw[<- zk9 hn y (hm y hy) x hx e];exact hy
theorem zmt {r p:List Int} (h:r∈rims p):r≠p:=fun e=>by
 obtain⟨_,k,hk,er⟩:=zdp.mp h;have:=(zfc hk er).2;rw[e] at this;omega
theorem zdw (l:List Pq):(stds l).length=2*l.length:=by
 induction l with
 | nil=>rfl
 | cons a r ih=>rw[show stds (a::r)=[a.1,a.2]++stds r from rfl,Ah,ih]; simp; omega
abbrev tSec:TE:=tTup (zW (tVar 0) (zW (zeN (tVar 1) (tVar 0)) tNil))
abbrev nmP:List Str:=["web","seconds","stands","pair","piece"]
section
variable {P:Program}{w:World}{K:Ad}{mg:Str->Option Value}{base:Heap}
theorem ziJ {H2:Hp}{L d D:Addr}{as:List Addr}{kn:List (List Int)}{ps:List Pq}{Q:VK} (hl:SqL K H2 L (as.map V.ref)) (ht:Tps H2 as kn) (hs:Sec H2 d ps) (hin:∀p∈kn,p∈ps.map (·.1)) (hz:kn.length<=1000) (hD:H2 D=none)
  (k:∀(H3:Hp) (ts:List Addr) (xs:List Pq),Same H2 H3->H3 D=some (.lst (ts.map V.ref))->Prs2 H3 ts xs->xs.map (·.1)=kn->(∀x∈xs,x∈ps)->Q (.ref D) H3):zaj (Itl K L) (zX 0) tYes tSec [none,some (.ref d)] H2 D Q:=by
 have hla:=ht.length;refine zL (xs:=as.map V.ref) (fun j σ ys H3=>∃(v:Option V) (ts:List Addr) (xs:List Pq),σ=[v,some (.ref d)]/\Same H2 H3/\H3 D=some (.lst ys)/\ys=ts.map V.ref/\Prs2 H3 ts xs/\xs.map (·.1)=kn.take j/\∀x∈xs,x∈ps) ?_ ?_ ?_ ?_
 ·exact⟨none,[],[],rfl,Same.new hD,upd_same,rfl,.nil,rfl,fun x hx=>(by cases hx)⟩
 ·rintro j σ ys H3 ⟨v,ts,xs,rfl,sm,hD3,rfl,_⟩
  exact sm.seq hl
 ·rintro j σ ys H3 y hx hj hy ⟨v,ts,xs,rfl,sm,hD3,rfl,hb,hm,hxs⟩
  obtain⟨o,eo,rfl⟩:=zE hx;obtain⟨r,er,hr⟩:=ht.get eo;have hn:(as.map V.ref).length<=sizeLine:=by rw[Ab]; exact line_big (by omega)
  obtain⟨kvs,ek,hk⟩:=hs.same sm;rcases sec_val hk r with ⟨_,h0⟩ | ⟨b,q,ev,hq,hb'⟩
  ·exact absurd (hin r (Ak er)) h0
  have hdg:=DGet.t (k:=r.map Sum.inl) ek (by rw[Ap]; exact sm.tp hr);rw[ev] at hdg;refine gyes ⟨_,rfl,_,rfl,_,rfl,d,_,rfl,hdg,line_big (by simp),fun T hT=>?_⟩;have s4:=Same.new (o:=.tup [.ref o,.ref b]) hT;have hT4:Pr2 (upd H3 T (.tup [.ref o,.ref b])) T (r,q):=⟨o,b,upd_same,(sm.trans s4).tp hr,s4.tp hb'⟩;refine cput hn hj hy (s4 _ _ hD3) ⟨_,ts++[T],xs++[(r,q)],rfl,(sm.trans s4).then hD,upd_same,by rw[Ag]; rfl,Prs2.upd (Prs2.add (hb.same s4) hT4) (s4 _ _ hD3) (by intro xs z; cases z),by rw[AH er,Ag,hm]; rfl,fun x hx=>?_⟩;rcases List.mem_append.mp hx with h | h
  ·exact hxs x h
  ·rw[List.mem_singleton.mp h]; exact hq
 ·rintro σ ys H3 ⟨v,ts,xs,rfl,sm,hD3,rfl,hb,hm,hxs⟩
  rw[An (by rw[Ab]; omega)] at hm;exact k H3 ts xs sm hD3 hb hm hxs
def zel (K:Ad):Sp:=fun vs H Q _=>∃l as pss,vs=[.ref l]/\SqL K H l (as.map V.ref)/\Tps H as pss/\webS pss/\∀D H' ts fps,Same H H'->H D=none->H' D=some (.lst (List.map V.ref ts))->Prs2 H' ts fps->PG (canon pss) fps->Full (canon pss) fps->(fps.map (·.1)).Pairwise (fun a b=>kle a b=true)->Q (.ref D) H'
theorem za8:zu nmP ["web"] (zh zax):=⟨rfl,rfl,rfl,by decide +kernel,rfl,by decide +kernel,by decide +kernel⟩
theorem zgD {f fp fo fr fq fk:Addr}{fd fdp fdo fdr fdq fdk:FuncData} (F:Fun K "pairing" "pairing" zax f fd) (B:Bt mg) (yany:mg "any"=none) (bany:AS "any"=some (.builtin "any"))
  (Fp:Fun K "pieces" "pieces" zaR fp fdp) (bp:Binds K fdp ["web"] []) (mp:mg "pieces"=some (.ref fp)) (Gp:FnOk P w K mg base CX0 8 fp fdp ["web"] (zcq K))
  (Fo:Fun K "pairs_of" "pairs_of" sPof fo fdo) (bo:Binds K fdo ["every"] []) (mo:mg "pairs_of"=some (.ref fo)) (Go:FnOk P w K mg base CX0 2 fo fdo ["every"] (zmi K))
  (Fr:Fun K "round_with" "round_with" sRW fr fdr) (br:Binds K fdr ["seconds","new"] []) (mr:mg "round_with"=some (.ref fr)) (Gr:FnOk P w K mg base CX0 3 fr fdr ["seconds","new"] spRW)
  (Fq:Fun K "in_order" "in_order" zbP fq fdq) (bq:Binds K fdq ["some"] []) (mq:mg "in_order"=some (.ref fq))
  (Fk:Fun K "order_key" "order_key" sKey fk fdk) (bk:Binds K fdk ["piece"] []) (mk:mg "order_key"=some (.ref fk)) :
  FnOk P w K mg base CX0 9 f fd ["web"] (zel K):=by
 have Gq:FnOk P w K mg base CX0 4 fq fdq ["some"] (zeT K):=zf7 Fq B Fk bk mk;refine F.ok za8 (fun vs H Q E h=>?_) (fun cdv A outer s H vs Q E hr h=>?_)
 ·obtain⟨l,as,pss,rfl,_⟩:=h; rfl
 ·obtain⟨l,as,pss,rfl,hl,ha,hw,k⟩:=h
  have hu:=zbo hr;have hr2:Room 2 _:=hr.mono (by decide);have hr3:Room 3 _:=hr.mono (by decide);have hr4:Room 4 _:=hr.mono (by decide);refine⟨_,zf (zq (i:=1) za8.nd rfl (Or.inr rfl) zP)
   (zf (zq (i:=2) za8.nd rfl (Or.inr rfl) zP)
   (zf (zM AF rfl (zw (zn Go hr2 rfl mo Fo.kp bo .nil pass0 (ze (zn Gp hr rfl mp Fp.kp bp .nil pass0 (ze (pv 0) zg)) zg))) (zm (i:=3) za8.nd rfl (Or.inl rfl))
    (zf (zaf (PW.pt (zhC (zbS (zv (zf6 rfl) rfl yany bany (ze (zx nmP ["piece","stands"] [none,some 2] (zcb (pv 3)) (fun cl C s₀ H₀ ex=>zm (i:=0) (ndN ["piece","stands"]) rfl (Or.inl rfl)) (fun cl C s₀ H₀ ex=>zN)
      (fun cl C s₀ H₀ ex=>zh1 (zda hu (pv 0) (pv 1)) (by with_unfolding_all rfl)) (hfr:=frOf (zh zax) (by decide +kernel)) (te:=tDIn (tVar 0) (tVar 1))) zg))) (zfF (zy zc1 (zv zo rfl B.len zaI (ze (zn Gr hr3 rfl mr Fr.kp br .nil pass0 (ze (pv 1) (ze (pv 3) zg))) zg)) zl (nomark _))))) (zi ze9) zA)
    (zf (zQ hu (pv 1) (zR zZ (pv 3) zl (fun _ _=>rfl)) (zR zZ (pv 3) zl (fun _ _=>rfl)) rfl)
    (zi (zM AF rfl (zcb (pv 3)) (zm (i:=4) za8.nd rfl (Or.inl rfl)) (zi (zQ hu (pv 2) (pv 4) zbf rfl)))))))
   (zi (zt (zx nmP ["piece","seconds"] [none,some 1] (zw (zn Gq hr4 rfl mq Fq.kp bq .nil pass0 (ze (zB (za6 rfl) rfl B.list zaK (ze (pv 1) zg)) zg))) (fun cl C s₀ H₀ ex=>zm (i:=0) (ndN ["piece","seconds"]) rfl (Or.inl rfl)) (fun cl C s₀ H₀ ex=>zN)
    (fun cl C s₀ H₀ ex=>zak (ze (pv 0) (ze (zan hu (pv 1) (pv 0) (fun _ _=>rfl)) zg))) (hfr:=frOf (zh zax) (by decide +kernel)) (te:=tSec)))))),?_⟩
  obtain⟨_,_,_,h200⟩:=za7 hw.1;rw[<- zas] at h200;have c5:∀p∈canon pss,p.length<=5:=fun p hp=>(zam.mp (zaJ hw.1 hp)).2.1;intro d hd;have s1:=Same.new (o:=.dT []) hd;have hd1:=upd_same (H:=H) (a:=d) (o:=.dT []);generalize upd H d (.dT [])=H1 at s1 hd1;intro sd hsd;have s2:=Same.new (o:=.dT []) hsd;have hsd0:H sd=none:=s1.free hsd;have nds:d≠sd:=zj hd1 hsd;have s02:=s1.trans s2;refine⟨_,rfl,l,as,pss,rfl,s02.seq hl,s02.tps ha,hw,fun KN H3 ks s3 _ hK3 hk3=>?_⟩;refine⟨KN,ks,canon pss,rfl,SqL.of hK3,hk3,c5,by omega,fun PL H4 ts s4 hP4 ht4=>?_⟩;have s24:=s3.trans s4;have s04:=s02.trans s24;refine⟨PL,rfl,⟨_,SqL.of hP4⟩,?_⟩;have h64:(canon pss).length<64:=hw.2;have hsub:∀{ps:List Pq},PG (canon pss) ps->2*ps.length<=63:=fun {ps} g=>by
   have:=g.nd.length_le_of_subset (l₂:=canon pss) fun p hp=>by
    obtain⟨x,hx,e⟩:=zaU.mp hp;obtain⟨h1,h2⟩:=g.has x hx;rcases e with rfl | rfl
    ·obtain⟨h3,kk,hkk,er⟩:=zdp.mp h2
     obtain⟨hs',hlt⟩:=zfc hkk er;have h0:x.1≠[]:=fun z=>by
      rw[z] at er;have:=congrArg List.length er;rw[Ah,AC,List.length_drop,List.length_nil] at this;have:=List.length_pos_iff.mpr (zam.mp (zaJ hw.1 h1)).1;omega
     obtain⟨_,t,ht,hs2⟩:=zdL.mp h1;exact zdL.mpr ⟨h0,t,ht,hs'.trans hs2⟩
    ·exact h1
   rw[zdw] at this;omega
  refine zK (K:=K) (a:=PL) (xs:=ts.map V.ref) (fun i σ H5=>∃(v3 v4:Option V) (ps:List Pq),σ=[some (.ref l),some (.ref d),some (.ref sd),v3,v4]/\Same H H5/\H5 PL=some (.lst (ts.map V.ref))/\Prs2 H5 ts (allP (canon pss))/\Sec H5 d ps/\H5 sd=some (.dT (kvM (stds ps)))/\PG (canon pss) ps/\∀x∈(allP (canon pss)).take i,x.1∈stds ps \/ x.2∈stds ps \/ ¬ Acy (ps++[x]))
   ⟨none,none,[],rfl,s04,hP4,ht4,⟨[],s24 _ _ (s2 _ _ hd1),.nil⟩,s24 _ _ upd_same,⟨fun x hx=>(by cases hx),(by simp[stds]),acy_nil⟩,by simp⟩ (fun i σ H5 _ ⟨_,_,_,_,_,h,_⟩=>SqL.of h) ?_ ?_
  ·rintro i v σ H5 hv ⟨v3,v4,ps,rfl,s5,hP5,ht5,hsec,hsd5,pg,ful⟩
   obtain⟨t,et,rfl⟩:=zE hv;obtain⟨x,ex,hx⟩:=ht5.get et;obtain⟨a,b,ext,hxa,hxb⟩:=id hx;obtain⟨hxk,hxr⟩:=zfM.mp (Ak ex);have hpl:=hsub pg;have nextF:∀{ps':List Pq},(∀y∈ps,y∈ps')->(x.1∈stds ps' \/ x.2∈stds ps' \/ ¬ Acy (ps'++[x]))->∀y∈(allP (canon pss)).take (i+1),y.1∈stds ps' \/ y.2∈stds ps' \/ ¬ Acy (ps'++[y]):=fun {ps'} hs' hx' y hy=>by
    rw[AH ex] at hy;rcases List.mem_append.mp hy with hy | hy
    ·rcases ful y hy with h | h | h
     ·obtain⟨z,hz,e⟩:=zaU.mp h
      exact .inl (zaU.mpr ⟨z,hs' z hz,e⟩)
     ·obtain⟨z,hz,e⟩:=zaU.mp h
      exact .inr (.inl (zaU.mpr ⟨z,hs' z hz,e⟩))
     ·exact .inr (.inr fun c=>h (zb1 c fun z hz=>by
       rcases List.mem_append.mp hz with hz | hz
       ·exact AI _ (hs' z hz)
       ·exact AJ _ hz))
    ·rw[List.mem_singleton.mp hy]; exact hx'
   refine⟨_,rfl,t,rfl,⟨_,SqT.of ext⟩,fun D hD=>zG (zeK hx hsd5 hD fun H6 s6 h6=>⟨D,_,rfl,SqL.of h6,_,rfl,?_⟩)⟩;have s06:=s5.trans s6
   by_cases hin:x.1∈stds ps \/ x.2∈stds ps
   ·rw[show ([decide (x.1∈stds ps),decide (x.2∈stds ps)].any id)=true by
     rcases hin with h | h
     ·rw[decide_eq_true h]; rfl
     ·rw[decide_eq_true h]; simp]
    exact iteT ⟨_,_,ps,rfl,s06,s6 _ _ hP5,ht5.same s6,hsec.same s6,s6 _ _ hsd5,pg,nextF (fun _ h=>h) (hin.elim .inl fun h=>.inr (.inl h))⟩
   have hn1:x.1∉stds ps:=fun h=>hin (.inl h);have hn2:x.2∉stds ps:=fun h=>hin (.inr h);rw[show ([decide (x.1∈stds ps),decide (x.2∈stds ps)].any id)=false by rw[decide_eq_false hn1,decide_eq_false hn2]; rfl];have hx1:x.1∉ps.map (·.1):=fun h=>by
    obtain⟨y,hy,e⟩:=List.mem_map.mp h;exact hn1 (zaU.mpr ⟨y,hy,.inl e.symm⟩)
   refine iteF ⟨_,rfl,_,rfl,d,t,ps,x,rfl,hsec.same s6,hx.same s6,zc7 pg.nd,hx1,fun y hy=>c5 _ (pg.has y hy).1,c5 _ hxk,by omega,pg.ac,fun D2 H7 s7 _ hD7 hac=>?_,fun D2 H7 us cs s7 _ hD7 hcs hrn _ hsubc=>?_⟩
   ·refine⟨D2,[],rfl,.inl (SqL.of hD7),_,_,rfl,rfl,_,rfl,iteF ?_⟩
    have s67:=s6.trans s7;have s07:=s5.trans s67;obtain⟨kvs,ek,hk⟩:=hsec.same s67;obtain⟨kvs',e1,e2,e3⟩:=zhA hk hx1 (s67.tp hxb);have hkl:=AN hk;refine⟨_,rfl,t,_,_,_,rfl,rfl,SqT.of (s67 _ _ ext),zC (j:=1) rfl,_,rfl,_,rfl,t,_,_,_,rfl,rfl,SqT.of (s67 _ _ ext),zC (j:=0) rfl,d,_,rfl,DPut.t (k:=x.1.map Sum.inl) ek (by rw[Ap]; exact s67.tp hxa) (zF (by omega)),?_⟩;rw[e1];have tk8:∀{c:Addr} {xs:List V},H7 c=some (.tup xs)->upd H7 d (.dT kvs') c=some (.tup xs):=fun {c xs} e=>by
     rw[zk (fun z=>by subst z; rw[ek] at e; cases e)]; exact e
    have nod:∀xs,(HO.dT kvs)≠.tup xs:=by intro xs z; cases z
    have nPd:PL≠d:=fun z=>by have:=s67 _ _ hP5; rw[z,ek] at this; cases this
    have sec8:Sec (upd H7 d (.dT kvs')) d (ps++[x]):=⟨kvs',upd_same,Paired.mapP e2 fun kv y ⟨h1,b,h2,h3⟩=>⟨h1,b,h2,tk8 h3⟩⟩;have hsd8:upd H7 d (.dT kvs') sd=some (.dT (kvM (stds ps))):=by rw[zk (Ne.symm nds)]; exact s67 _ _ hsd5
    have hP8:upd H7 d (.dT kvs') PL=some (.lst (ts.map V.ref)):=by rw[zk nPd]; exact s67 _ _ hP5
    have ht8:Prs2 (upd H7 d (.dT kvs')) ts (allP (canon pss)):=Prs2.upd (ht5.same s67) ek nod;have ext8:=tk8 (s67 _ _ ext);have hxa8:Tp (upd H7 d (.dT kvs')) a x.1:=tk8 (s67.tp hxa);have hxb8:Tp (upd H7 d (.dT kvs')) b x.2:=tk8 (s67.tp hxb);have s08:Same H (upd H7 d (.dT kvs')):=s07.then hd;generalize upd H7 d (.dT kvs')=H8 at sec8 hsd8 hP8 ht8 ext8 hxa8 hxb8 s08;have hsl:=zdw ps;refine⟨_,rfl,t,rfl,⟨_,SqT.of ext8⟩,zcH (K:=K) (a:=t) (xs:=[.ref a,.ref b]) (fun j σ H9=>∃(v4:Option V),σ=[some (.ref l),some (.ref d),some (.ref sd),some (.ref t),v4]/\Same H H9/\H9 t=some (.tup [.ref a,.ref b])/\Tp H9 a x.1/\Tp H9 b x.2/\H9 PL=some (.lst (ts.map V.ref))/\Prs2 H9 ts (allP (canon pss))/\Sec H9 d (ps++[x])/\H9 sd=some (.dT (kvM (stds ps++[x.1,x.2].take j))))
     ⟨_,rfl,s08,ext8,hxa8,hxb8,hP8,ht8,sec8,by rw[List.take_zero,List.append_nil]; exact hsd8⟩ (fun j σ H9 _ ⟨_,_,_,h,_⟩=>SqT.of h) ?_ ?_⟩
    ·rintro j v σ H9 hv ⟨v4',rfl,s9,et9,ha9,hb9,hP9,ht9,sec9,hsd9⟩
     have hj2:j=0 \/ j=1:=by have:=(List.getElem?_eq_some_iff.mp hv).1; simp at this; omega
     have nod9:∀xs,(HO.dT (kvM (stds ps++[x.1,x.2].take j)))≠.tup xs:=by intro xs z; cases z
     have tk:∀{c:Addr} {xs:List V} {o:HO},H9 c=some (.tup xs)->upd H9 sd o c=some (.tup xs):=fun {c xs o} e=>by
      rw[zk (fun z=>by subst z; rw[hsd9] at e; cases e)]; exact e
     have nPs:PL≠sd:=fun z=>by rw[z,hsd9] at hP9; cases hP9
     rcases hj2 with rfl | rfl
     ·have e:V.ref a=v:=by simpa using hv
      subst e;refine⟨_,rfl,_,rfl,sd,_,rfl,DPut.t (k:=x.1.map Sum.inl) hsd9 (by rw[Ap]; exact ha9) (zF (AG (zaY _) (by simp; omega))),⟨_,rfl,s9.then hsd0,tk et9,tk ha9,tk hb9,by rw[zk nPs]; exact hP9,Prs2.upd ht9 hsd9 nod9,Sec.upd sec9 hsd9 nod9 nds,?_⟩⟩;rw[upd_same,zaX,A4]; rfl
     ·have e:V.ref b=v:=by simpa using hv
      subst e;refine⟨_,rfl,_,rfl,sd,_,rfl,DPut.t (k:=x.2.map Sum.inl) hsd9 (by rw[Ap]; exact hb9) (zF (AG (zaY _) (by simp; omega))),⟨_,rfl,s9.then hsd0,tk et9,tk ha9,tk hb9,by rw[zk nPs]; exact hP9,Prs2.upd ht9 hsd9 nod9,Sec.upd sec9 hsd9 nod9 nds,?_⟩⟩;rw[upd_same,zaX,A4]; rfl
    ·rintro σ H9 ⟨v4',rfl,s9,et9,ha9,hb9,hP9,ht9,sec9,hsd9⟩
     refine⟨_,_,ps++[x],rfl,s9,hP9,ht9,sec9,by rw[zaZ,zbR]; exact hsd9,⟨fun y hy=>?_,?_,hac⟩,nextF (fun y hy=>AI _ hy) (.inl (zaU.mpr ⟨x,by simp,.inl rfl⟩))⟩
     ·rcases List.mem_append.mp hy with h | h
      ·exact pg.has y h
      ·rw[List.mem_singleton.mp h]; exact⟨hxk,hxr⟩
     ·rw[zaZ,zbR,AL]
      refine⟨pg.nd,by simpa using zmt hxr,fun y hy z hz e=>?_⟩;subst e;have:y=x.1 \/ y=x.2:=by simpa using hz
      rcases this with rfl | rfl
      ·exact hn1 hy
      ·exact hn2 hy
   ·have hcl:=hcs.length
    have hcp:=List.length_pos_iff.mpr hrn.1;refine⟨D2,_,rfl,.inl (SqL.of hD7),_,_,rfl,rfl,_,rfl,?_⟩;rw[Ab,hcl,decide_eq_true (show (0:Int)<((cs.length:Nat):Int) by omega)];have s67:=s6.trans s7;exact iteT ⟨_,_,ps,rfl,s5.trans s67,s67 _ _ hP5,ht5.same s67,hsec.same s67,s67 _ _ hsd5,pg,nextF (fun _ h=>h) (.inr (.inr (zhF hrn hsubc)))⟩
  ·rintro σ H5 ⟨v3,v4,ps,rfl,s5,hP5,ht5,hsec,hsd5,pg,ful⟩
   have htl:=ht5.length;rw[Ab,htl,take_all] at ful;have hfull:Full (canon pss) ps:=fun x h1 h2=>ful x (zfM.mpr ⟨h1,h2⟩);have hpl:=hsub pg;obtain⟨kvs,ek,hk⟩:=hsec;have hkl:=AN hk;refine⟨_,rfl,d,_,rfl,ek,fun bs hb L hL=>?_⟩;have tb:Tps H5 bs (ps.map (·.1)):=by
    have:∀{kvs:List (List Key×V)} {ps:List Pq} {bs:List Addr},Paired (SecR H5) kvs ps->Paired (fun (p:List Key×V) b=>H5 b=some (.tup (p.1.map kV))) kvs bs->Tps H5 bs (ps.map (·.1)):=fun {kvs ps bs} h=>by
     induction h generalizing bs with
     | nil=>intro h2; cases h2; exact .nil
     | cons r t ih=>
      intro h2;cases h2 with
      | cons r2 t2=>
       refine .cons ?_ (ih t2);rw[r.1,Ap] at r2;exact r2
    exact this hk hb
   have sL:=Same.new (o:=.lst (bs.map V.ref)) hL;have hbl:=tb.length;rw[Ab] at hbl;refine⟨L,bs,_,rfl,SqL.of upd_same,sL.tps tb,by rw[Ab]; omega,fun D H6 qs s6 hD hD6 hp hs=>?_⟩;have hq:∀q∈qs,Tp H6 q.2 q.1:=fun q hq=>by
    obtain⟨m,em⟩:=List.mem_iff_getElem?.mp (hp.mem_iff.mp hq);rw[Srt.zipget] at em;cases e1:(ps.map (·.1))[m]? with
    | none=>rw[e1] at em; cases em
    | some f=>
     cases e2:bs[m]? with
     | none=>rw[e1,e2] at em; cases em
     | some b=>
      rw[e1,e2] at em;obtain rfl:(f,b)=q:=Ao em;exact s6.tp (za9 (sL.tps tb) m b f e2 e1)
   have hperm:(qs.map (·.1)).Perm (ps.map (·.1)):=by
    have:=hp.map (·.1);rw[List.map_fst_zip (by rw[Ab]; omega)] at this;exact this
   have hsort:(qs.map (·.1)).Pairwise (fun a b=>kle a b=true):=(List.pairwise_map.mpr hs).imp fun h=>zb7.mpr h;have hD6':H6 D=some (.lst ((qs.map (·.2)).map V.ref)):=by rw[hD6,Ap]; rfl
   have tq:Tps H6 (qs.map (·.2)) (qs.map (·.1)):=zdn hq;have s56:=sL.trans s6;have hql:(qs.map (·.1)).length<=1000:=by rw[hperm.length_eq,Ab]; omega
   refine⟨D,rfl,⟨_,SqL.of hD6'⟩,fun D2 hD2=>zG (ziJ (SqL.of hD6') tq (Sec.same (⟨kvs,ek,hk⟩:Sec H5 d ps) s56) (fun p hp'=>hperm.mem_iff.mp hp') hql hD2 fun H7 us xs s7 hD7 hu7 hxm hxs=>?_)⟩;have hfp:xs.Perm ps:=zi8 hxs (zc7 pg.nd) (by rw[hxm]; exact hperm);exact k D2 H7 us xs ((s5.trans s56).trans s7) ((s5.trans s56).free hD2) hD7 hu7 (zk7 hfp.symm pg) (zha hfp.symm hfull) (by rw[hxm]; exact hsort)
end
end K48
end
section
namespace L2
open PySem PySem.Spec PyProof.Rows
def zli:V->List V->Hp->VK->Prop:=fun x vs H Q=>∃(l a:Addr) (as:List Addr) (pss:List (List Int)) (ps:List Int) (j:Nat),x=.ref l/\vs=[.ref a]/\H l=some (.lst (List.map V.ref as))/\Tps H as pss/\Tp H a ps/\pss[j]?=some ps/\(∀m q,m<j->pss[m]?=some q->q≠ps)/\pss.length<=1000/\Q (.int (j:Int)) H
section
variable {X:Cx}
theorem zhr (hu:X.A.in1.units<cLine):MtM X "list.index" zli:=by
 intro pins s σ H x vs v us Q I rx rv h;obtain⟨l,a,as,pss,ps,j,rfl,rfl,hH,ht,ha,hj,no,hz0,q⟩:=h;cases rx;obtain⟨u,rfl,ru⟩:=rv.one;cases ru;obtain⟨z,its,n,r,hl,e⟩:=I.lstM hH;obtain rfl:=vals_refs r;have hla:=ht.length;have hjl:j<pss.length:=(List.getElem?_eq_some_iff.mp hj).1;have at_:∀m (hm:m<(as.map Value.ref).toArray.size) q,pss[m]?=some q->eqH H ps ((as.map Value.ref).toArray[m])=decide (q=ps):=fun m hm q hq=>by
  have hm':m<as.length:=by simpa using hm
  obtain⟨q',e1,e2⟩:=ht.get (Ai hm');rw[hq] at e1;cases e1;have:(as.map Value.ref).toArray[m]=.ref as[m]:=by simp
  rw[this];exact zgS e2
 have hsm:(j:Int)<2 ^ 63 - 1:=by
  have h1:(j:Int)<1000:=by omega
  have h2:(1000:Int)<2 ^ 63 - 1:=by decide
  omega
 refine call_meets F.slot_list_index ⟨_,e,rfl⟩ F.entry_list_index (F.args_list_index_2 _ _)
  (SeqAt.list_indexAt l (as.map Value.ref).toArray n none #[] (.ref a) (eqH H ps) j (by simp; omega) hsm (by rw[at_ j _ ps hj]; exact decide_eq_true rfl) (fun m hm hmj=>?_)) ⟨e,fun y hy=>zff I ha hu ht y (by simpa using hy),⟨.int j,H,I.tok _,⟨_,rfl⟩,q⟩⟩
 have hm':m<pss.length:=by omega
 rw[at_ m hm _ (Ai hm')];exact decide_eq_false (no m _ hmj (Ai hm'))
def rNeS:R2:=fun x y H Q=>∃a b z z',x=.ref a/\y=.ref b/\H a=some (.tup [.str z])/\H b=some (.tup [.str z'])/\PyData.strOk z=true/\PyData.strOk z'=true/\Q (.bl (!decide (z=z'))) H
theorem zgh {pins:List (Addr×Obj)}{σ:St}{H:Hp}{s:Shared}{a:Addr}{z:Str} (I:Inv X pins σ H s) (ha:H a=some (.tup [.str z])):∃ads,Reads s.heap (.ref a) (.tuple [.str z]) ads:=by
 obtain⟨its,r,p,_⟩:=I.tuple (SqT.of ha);obtain⟨o,ho,hc,n,hd⟩:=id p;obtain⟨u,rfl,t,rfl⟩:=vals1 r;exact⟨_,.tuple ho hc hd (by simpa using ReadsAll.cons (.str z t) .nil)⟩
theorem zmk (hu:X.A.units+64<cLine):OpR X (compareOp .NotEq) rNeS:=by
 intro pins s σ H x y v u Q I rx ry h;obtain⟨a,b,z,z',rfl,rfl,ha,hb,o1,o2,q⟩:=h;cases rx;cases ry;obtain⟨_,r1⟩:=zgh I ha;obtain⟨_,r2⟩:=zgh I hb;have sh:∀z:Str,PyData.strOk z=true->SeqAt.shaped (.tuple [.str z])=true:=fun z h=>by simp[SeqAt.shaped,PyData.canLay0,PyData.canLayAll0,PyData.depth,PyData.depthAll,h]
 refine ne_dataH_same r1 r2 (sh z o1) (sh z' o2) hu (SeqAt.noMix_of_shape (.tuples .str) rfl _ _ (by simp[Shape.has]) (by simp[Shape.has])) ?_;have e:same (.tuple [.str z]) (.tuple [.str z'])=decide (z=z'):=by
  simp only[same,sameAll];rw[Bool.eq_iff_iff];simp
 rw[e];exact⟨.bl _,H,I,rfl,q⟩
end
end L2
end
section
namespace K48
open K1
open PySem L2 STb
abbrev zei:Stmt:=top 31
abbrev nmO:List Str:=["web","pairs","stands","pair","piece"]
section
variable {P:Program}{w:World}{K:Ad}{mg:Str->Option Value}{base:Heap}
def zkd (K:Ad):Sp:=fun vs H Q _=>∃l m as pss ts ps,vs=[.ref l,.ref m]/\SqL K H l (as.map V.ref)/\Tps H as pss/\webS pss/\SqL K H m (ts.map V.ref)/\Prs2 H ts ps/\PG (canon pss) ps/\ps.length<=100/\∀D H' bs,Same H H'->H D=none->H' D=some (.lst (List.map V.ref bs))->Tps H' bs ((canon pss).filter fun p=>!decide (p∈stds ps))->Q (.ref D) H'
theorem zfU:zu nmO ["web","pairs"] (zh zei):=⟨rfl,rfl,rfl,by decide +kernel,rfl,by decide +kernel,by decide +kernel⟩
theorem zkY {f fj fp:Addr}{fd fdj fdp:FuncData} (F:Fun K "left_over" "left_over" zei f fd) (B:Bt mg)
  (Fj:Fun K "judged" "judged" zbw fj fdj) (bj:Binds K fdj ["web","pairs"] []) (mj:mg "judged"=some (.ref fj)) (Gj:FnOk P w K mg base CX0 9 fj fdj ["web","pairs"] (zfE K))
  (Fp:Fun K "pieces" "pieces" zaR fp fdp) (bp:Binds K fdp ["web"] []) (mp:mg "pieces"=some (.ref fp)) (Gp:FnOk P w K mg base CX0 8 fp fdp ["web"] (zcq K)):FnOk P w K mg base CX0 10 f fd ["web","pairs"] (zkd K):=by
 refine F.ok zfU (fun vs H Q E h=>?_) (fun cdv A outer s H vs Q E hr h=>?_)
 ·obtain⟨l,m,as,pss,ts,ps,rfl,_⟩:=h; rfl
 ·obtain⟨l,m,as,pss,ts,ps,rfl,hl,ha,hw,hm,ht,pg,hz,k⟩:=h
  have hu:=zbo hr;have hu64:=hr.units;have hr8:Room 8 _:=hr.mono (by decide);refine⟨_,zf (zaf (zy (zmk hu64) (zn Gj hr rfl mj Fj.kp bj .nil pass0 (ze (pv 0) (ze (pv 1) zg))) (zak (ze zV zg)) (nomark _)) zbb zA)
   (zf (zq (i:=2) zfU.nd rfl (Or.inr rfl) zP)
   (zf (zM AF rfl (zw (pv 1)) (zm (i:=3) zfU.nd rfl (Or.inl rfl))
    (zi (zM AF rfl (zcb (pv 3)) (zm (i:=4) zfU.nd rfl (Or.inl rfl)) (zi (zQ hu (pv 2) (pv 4) zbf rfl)))))
   (zi (zt (zx nmO ["piece","stands"] [none,some 2] (zw (zn Gp hr8 rfl mp Fp.kp bp .nil pass0 (ze (pv 0) zg))) (fun cl C s₀ H₀ ex=>zm (i:=0) (ndN ["piece","stands"]) rfl (Or.inl rfl))
    (fun cl C s₀ H₀ ex=>zbB (zet (zdX hu (pv 0) (pv 1)) (by with_unfolding_all rfl))) (fun cl C s₀ H₀ ex=>pv 0) (hfr:=frOf (zh zei) (by decide +kernel)) (tc:=tB (zg3 (tVar 0) (tVar 1)))))))),?_⟩
  obtain⟨_,_,_,h200⟩:=za7 hw.1;rw[<- zas] at h200;have htl:=ht.length;refine⟨_,rfl,_,rfl,l,m,as,pss,ts,ps,rfl,hl,ha,hw,hm,ht,pg,by omega,fun D H1 s1 hD=>⟨line_big (by simp),fun T hT=>?_⟩⟩;have s2:=Same.new (o:=.tup [.str "pairing"]) hT;refine⟨D,T,"pairing","pairing",rfl,rfl,s2 _ _ hD,upd_same,by decide +kernel,by decide +kernel,_,rfl,?_⟩;rw[decide_eq_true rfl];have s02:=s1.trans s2;generalize upd H1 T (.tup [.str "pairing"])=H2 at s2 s02;refine iteF fun d hd=>?_;have s3:=Same.new (o:=.dT []) hd;have s03:=s02.trans s3;have hd0:H d=none:=s02.free hd;refine⟨_,rfl,m,rfl,⟨_,s03.seq hm⟩,zK (K:=K) (a:=m) (xs:=ts.map V.ref) (fun i σ H4=>∃(v3 v4:Option V),σ=[some (.ref l),some (.ref m),some (.ref d),v3,v4]/\Same H H4/\H4 d=some (.dT (kvM (stds (ps.take i)))))
   ⟨none,none,rfl,s03,upd_same⟩ (fun i σ H4 _ ⟨_,_,_,sm,_⟩=>sm.seq hm) ?_ ?_⟩
  ·rintro i v σ H4 hv ⟨v3,v4,rfl,sm,hd4⟩
   obtain⟨t,et,rfl⟩:=zE hv;obtain⟨y,ey,hy⟩:=ht.get et;obtain⟨a4,b4,et4,ha4,hb4⟩:=hy.same sm;have hi:i<ps.length:=(List.getElem?_eq_some_iff.mp ey).1;have hsl:(stds (ps.take i)).length<=2*i:=by rw[zdw,AC]; omega
   refine⟨_,rfl,t,rfl,⟨_,SqT.of et4⟩,zcH (K:=K) (a:=t) (xs:=[.ref a4,.ref b4]) (fun j σ H6=>∃(v4:Option V),σ=[some (.ref l),some (.ref m),some (.ref d),some (.ref t),v4]/\Same H H6/\H6 t=some (.tup [.ref a4,.ref b4])/\Tp H6 a4 y.1/\Tp H6 b4 y.2/\H6 d=some (.dT (kvM (stds (ps.take i)++[y.1,y.2].take j))))
    ⟨_,rfl,sm,et4,ha4,hb4,by rw[List.take_zero,List.append_nil]; exact hd4⟩ (fun j σ H6 _ ⟨_,_,_,h,_⟩=>SqT.of h) ?_ ?_⟩
   ·rintro j v σ H6 hv ⟨v5',rfl,s6,et6,ha6,hb6,hd6⟩
    have hj2:j=0 \/ j=1:=by have:=(List.getElem?_eq_some_iff.mp hv).1; simp at this; omega
    have tk:∀{c:Addr} {xs:List V} {o:HO},H6 c=some (.tup xs)->upd H6 d o c=some (.tup xs):=fun {c xs o} e=>by
     rw[zk (fun z=>by subst z; rw[hd6] at e; cases e)]; exact e
    rcases hj2 with rfl | rfl
    ·have e:V.ref a4=v:=by simpa using hv
     subst e;refine⟨_,rfl,_,rfl,d,_,rfl,DPut.t (k:=y.1.map Sum.inl) hd6 (by rw[Ap]; exact ha6) (zF (AG (zaY _) (by simp; omega))),⟨_,rfl,s6.then hd0,tk et6,tk ha6,tk hb6,?_⟩⟩;rw[upd_same,zaX,A4]; rfl
    ·have e:V.ref b4=v:=by simpa using hv
     subst e;refine⟨_,rfl,_,rfl,d,_,rfl,DPut.t (k:=y.2.map Sum.inl) hd6 (by rw[Ap]; exact hb6) (zF (AG (zaY _) (by simp; omega))),⟨_,rfl,s6.then hd0,tk et6,tk ha6,tk hb6,?_⟩⟩;rw[upd_same,zaX,A4]; rfl
   ·rintro σ H6 ⟨v5',rfl,s6,et6,ha6,hb6,hd6⟩
    refine⟨_,_,rfl,s6,?_⟩;rw[AH ey,zaZ,zbR];exact hd6
  ·rintro σ H4 ⟨v3,v4,rfl,sm,hd4⟩
   rw[Ab,htl,take_all] at hd4;refine⟨_,rfl,l,as,pss,rfl,sm.seq hl,sm.tps ha,hw,fun KN H5 ks s5 _ hK5 hk5=>⟨KN,rfl,⟨_,SqL.of hK5⟩,fun D2 hD2=>?_⟩⟩;refine zG (zdt (p:=fun p=>!decide (p∈stds ps)) (fun o os H' R sm' ho _ hR=>⟨_,rfl,_,rfl,d,_,rfl,DGet.t (k:=os.map Sum.inl) ((s5.trans sm') _ _ hd4) (by rw[Ap]; exact ho),_,rfl,?_⟩) (SqL.of hK5) hk5 (by omega) hD2 fun H6 bs s6 hD6 hb6=>k D2 H6 bs ((sm.trans s5).trans s6) ((sm.trans s5).free hD2) hD6 hb6);rw[zdW];exact hR H' (Same.refl _)
end
end K48
end
section
namespace DCp
open PySem
theorem zdA:mroOf (.type "dict")=pure [.type "dict",.type "object"]:=by rw[mroOf_type]; kernel_rfl
theorem zcA:typeLookup (.type "dict") "__new__"=pure (some (.builtin "dict.__new__")):=by rw[typeLookup_type,builtinLookup_eq_fast]; kernel_rfl
theorem zS:TypeCalled "dict" "dict.__new__" "dict.__init__":=
 ⟨by decide +kernel,by decide +kernel,⟨_,_,zdA⟩,madeBy_type zdA zcA (by decide +kernel),by decide +kernel,by rw[isSubtype_type]; kernel_rfl,PySem.F.slot_dict_init⟩
theorem zcS (a:Value):checkTypeCall "dict" ⟨[a],[]⟩=pure ():=by kernel_rfl
theorem zcZ (a:Value):checkBuiltinCall "dict.__new__" ⟨[.type "dict",a],[]⟩=pure ():=by kernel_rfl
theorem zc0:entryFor table "dict.__new__"=some Builtin.«dict.__new__»:=entryFor_of_tree (by kernel_rfl)
theorem zbr:plainId "dict.__new__"=true:=by decide +kernel
theorem zbG:isSubtype (.type "dict") (.type "dict")=pure true:=by rw[isSubtype_type]; kernel_rfl
section
variable {prog:Program}{w:World}{A:Around}{E:Value->Shared->Prop}{s:Shared}
theorem zin (a:Value) {Q₁:Value->Shared->Prop} (h:Q₁ (.ref s.heap.objs.size) { s with heap:=s.heap.push { cls:=.type "dict",data:=.dict #[] } }) :
  codeAny (model prog w) A (.call (.builtin "dict.__new__") ⟨[.type "dict",a],[]⟩) (wants Q₁ E) s:=by
 refine codeAny_of_tree (show wpAny _ A.in1 (do checkBuiltinCall "dict.__new__" ⟨[.type "dict",a],[]⟩; again (.builtin "dict.__new__" ⟨[.type "dict",a],[]⟩)) _ _ s from Aa (wpAny_of_eq (zcZ a) (Ac ⟨plainId_quiet zbr _,codeAny_builtin zc0 ?_⟩)));rw[Around.under_plainId zbr _]; unfold Builtin.«dict.__new__»;have hsub:=zbG;have hmro:=zdA;obtain⟨hp,g,d,tk,os⟩:=s;dsimp only;refine Aa (wpAny_of_eq (a:=true) rfl ?_);simp only[Bool.not_true,As,if_false];refine Aa (wpAny_of_eq hsub ?_);simp only[Bool.not_true,As,if_false];refine Aa (wpAny_of_eq hmro ?_);rw[if_neg (by decide)];refine Aa (AZ ?_);exact Ac h
end
end DCp
end
section
namespace L2
open PySem PySem.Spec PyProof.Rows
theorem ziG {P:Program}{w:World} (ps:List Int):Ax (zD P w) (ps.map Sum.inl)=Ax (intKind P w) ps:=by
 unfold Ax;rw[Ap]
 rfl
section
variable {X:Cx}
end
end L2
end
section
namespace DPr
open PySem PyProof.Rows
section
variable {prog:Program}{w:World}{A:Around}{E:Value->Shared->Prop}{s:Shared}
theorem zhX:typeLookup (.type "list") "keys"=pure none:=by rw[typeLookup_type,builtinLookup_eq_fast]; kernel_rfl
theorem ziq {a:Addr}{o:Obj}{xs:Array Value}{k:Nat}{Q:Option Value->Shared->Prop}
  (hx:s.heap.get? a=some o) (hc:o.cls=.type "list") (hdat:o.data=.seq xs k) (hd:o.dict=none) (hA:A.handled=none)
  (h:∀h' tk e,Heap.NewExcOf s.heap h' e "AttributeError"->Q none { s with heap:=h',toks:=tk }):wpAny (model prog w) A (getAttr? (.ref a) "keys") Q E s:=by
 obtain⟨c,dct,dat,sl⟩:=o;simp only at hc hdat hd;subst hc hdat hd;obtain⟨hp,g,d,tk,os⟩:=s;have hT:∀tk',(⟨hp,g,d,tk',os⟩:Shared).TypeIs (.ref a) "list":=fun _=>⟨_,hx,rfl⟩;have f1:=sub_AttributeError;have f3:=F.slot_list_getattribute.lookup;have f4:=F.slot_list_getattribute.bind (.ref a);have f5:=am_list_getattr_none;unfold getAttr? getAttrBy? getAttrBy
 repeat (any_goals (first | assumption | exact hT _ | ((with_reducible show wpAny _ _ (call (Value.builtin "list.__getattribute__") _ _) _ _ _); refine call_meets F.slot_list_getattribute (hT _) am_entry_list_getattribute (F.args_list_getattribute_2 _ _) (meets_getattribute_miss_list a xs k sl "keys" _ zhX (by decide) (by size_fits)) ⟨hx,hA,fun h' tk' e hx'=>?_⟩) | wp_step))
 obtain⟨t',u',he⟩:=hx'.there;show wpAny _ _ (getattributeRaised _ _ _ _ _ _ _) _ _ _;unfold getattributeRaised
 repeat (any_goals (first | assumption | wp_step))
 exact h _ _ _ hx'.of
theorem zde:entryFor table "dict.update.loop"=some Builtin.«dict.update.loop»:=entryFor_of_tree (by kernel_rfl)
theorem zbi:plainId "dict.update.loop"=true:=by decide +kernel
abbrev lp (D I:Addr) (i:Int):Code:=.builtin "dict.update.loop" ⟨[.ref D,.ref I,rawInt i,.none],[]⟩
variable {K:Type} [DecidableEq K] {knd:KeyKind prog w K}
abbrev Pr (K:Type):Type:=Addr×List K×Addr×Value
def Good (knd:KeyKind prog w K) (h:Heap) (x:Pr K):Prop:=h.IsTuple x.1 #[.ref x.2.2.1,x.2.2.2]/\AT knd h x.2.1 x.2.2.1
def zh6 (xs:List (List K×Addr×Value)) (ts:List (Pr K)):List (List K×Addr×Value):=ts.foldl (fun acc x=>storedH acc x.2.1 x.2.2.1 x.2.2.2) xs
theorem zd3 {h h':Heap}{x:Pr K}{D I:Addr}{o:Obj} (g:Good knd h x) (hD:∃o,h.get? D=some o/\o.cls=.type "dict") (hI:∃o,h.get? I=some o/\o.cls=.type "list_iterator") (kk:∀b o,b≠D->b≠I->h.get? b=some o->h'.get? b=some o):Good knd h' x:=by
 obtain⟨⟨o1,e1,c1,r1⟩,o2,it,n,e2,c2,r2⟩:=g;obtain⟨od,ed,cd⟩:=hD;obtain⟨oi,ei,ci⟩:=hI;have ne:∀{a:Addr} {oa:Obj},h.get? a=some oa->oa.cls=.type "tuple"->a≠D/\a≠I:=fun {a oa} ea ca=>by
  refine⟨fun z=>?_,fun z=>?_⟩
  ·rw[z,ed] at ea
   rw[<- Ao ea,cd] at ca;exact absurd ca (by decide)
  ·rw[z,ei] at ea
   rw[<- Ao ea,ci] at ca;exact absurd ca (by decide)
 exact⟨⟨o1,kk _ _ (ne e1 c1).1 (ne e1 c1).2 e1,c1,r1⟩,o2,it,n,kk _ _ (ne e2 c2).1 (ne e2 c2).2 e2,c2,r2⟩
theorem zef {h h':Heap}{D I:Addr}{xs:List (List K×Addr×Value)} (d:h.DictOfH (tupleKind knd) D xs) (hne:D≠I) (hI:∃o,h.get? I=some o/\o.cls=.type "list_iterator") (kk:∀b o,b≠I->h.get? b=some o->h'.get? b=some o):h'.DictOfH (tupleKind knd) D xs:=by
 obtain⟨o,es,ep,ho,hc,hd,he,his,hn⟩:=d;obtain⟨oi,ei,ci⟩:=hI;refine⟨o,es,ep,kk _ _ hne ho,hc,hd,he,fun x hx=>?_,hn⟩;obtain⟨o2,it,n,e2,c2,r2⟩:=his x hx;refine⟨o2,it,n,kk _ _ (fun z=>?_) e2,c2,r2⟩;rw[z,ei] at e2;rw[<- Ao e2,ci] at c2;exact absurd c2 (by decide)
theorem pair_items {t:Addr}{items:Array Value}{Q:List Value->Shared->Prop} (ht:s.heap.IsTuple t items) (h:Q items.toList s):wpAny (model prog w) A (Builtin.Dict.pairItems (.ref t)) Q E s:=by
 obtain⟨o,ho,hc,n,hd⟩:=ht;unfold Builtin.Dict.pairItems;refine Aa (wpAny_typeOf (show s.TypeIs (.ref t) "tuple" from ⟨o,ho,hc⟩) ?_);rw[if_pos (by decide)];exact Aa (wpAny_seqItems ho hd (Ac h))
theorem zgw (xs:List (List K×Addr×Value)) (k:List K) (a:Addr) (v:Value):(storedH xs k a v).length<=xs.length+1:=by
 unfold storedH;split
 ·rw[Ab]; omega
 ·rw[Ah]; simp
theorem zil {D I L:Addr}{ts:List (Pr K)}{R:Result->Shared->Prop} (hh:A.handled=none) (hu:A.units+1<cLine) (hDI:D≠I) (hDL:L≠D) (hLI:L≠I) :
  ∀(k j:Nat) (s:Shared) (xs:List (List K×Addr×Value)),ts.length - j=k->j<=ts.length->s.heap.IsListIter I L j->s.heap.IsList L (ts.map fun x=>Value.ref x.1).toArray->(∀x∈ts,Good knd s.heap x)->
   s.heap.DictOfH (tupleKind knd) D xs->xs.length+k<=sizeLine->
   (∀h' tk,h'.DictOfH (tupleKind knd) D (zh6 xs (ts.drop j))->(∀b o,b≠D->b≠I->s.heap.get? b=some o->h'.get? b=some o)->R (.ok (.ret .none)) { s with heap:=h',toks:=tk })->
   codeAny (model prog w) A (lp D I j) R s
 | 0,j,s,xs,hk,hj,hit,hl,hg,hd,hz,hQ=>by
  have hn:j=ts.length:=by omega
  subst hn;have W:=Walks.list (prog:=prog) (w:=w) (A:=A.in1) hh I L hLI (ts.map fun x=>Value.ref x.1).toArray;refine codeAny_builtin zde ?_;rw[Around.under_plainId zbi _];unfold Builtin.«dict.update.loop»;dsimp only[rawInt];refine Aa (W.done s _ _ ⟨by simpa using hit,hl⟩ fun h' tk kk=>?_);dsimp only;unfold Builtin.Dict.addKeywords;refine Aa (wpAny_of_eq (a:=()) rfl ?_);obtain⟨oi,ei,ci,_⟩:=hit;refine Ac (hQ h' tk ?_ fun b o _ hb e=>kk b o (by simpa using hb) e);rw[List.drop_length];exact zef hd hDI ⟨oi,ei,ci⟩ fun b o hb e=>kk b o (by simpa using hb) e
 | k+1,j,s,xs,hk,hj,hit,hl,hg,hd,hz,hQ=>by
  have W:=Walks.list (prog:=prog) (w:=w) (A:=A.in1) hh I L hLI (ts.map fun x=>Value.ref x.1).toArray;have hjl:j<ts.length:=by omega
  refine codeAny_builtin zde ?_;rw[Around.under_plainId zbi _];unfold Builtin.«dict.update.loop»;dsimp only[rawInt];refine Aa (W.item j s _ _ (by simpa using hjl) ⟨hit,hl⟩ fun v h1 tk hv st1 kk=>?_);have hv':v=.ref (ts[j]).1:=by
   have:(ts.map fun x=>Value.ref x.1).toArray[j]?=some (Value.ref (ts[j]).1):=by simp[hjl]
   exact Ao (hv.symm.trans this)
  subst hv';have hgj:=hg ts[j] (List.getElem_mem hjl);obtain⟨oi,ei,ci,_⟩:=id hit;have hDo:∃o,s.heap.get? D=some o/\o.cls=.type "dict":=by
   obtain⟨o,es,ep,ho,hc,_⟩:=hd;exact⟨o,ho,hc.1⟩
  have kk':∀b o,b≠D->b≠I->s.heap.get? b=some o->h1.get? b=some o:=fun b o _ hb e=>kk b o (by simpa using hb) e;have hg1:∀x∈ts,Good knd h1 x:=fun x hx=>zd3 (o:=oi) (hg x hx) hDo ⟨oi,ei,ci⟩ kk';have hd1:h1.DictOfH (tupleKind knd) D xs:=zef hd hDI ⟨oi,ei,ci⟩ fun b o hb e=>kk b o (by simpa using hb) e;obtain⟨gt,gk⟩:=hg1 ts[j] (List.getElem_mem hjl);dsimp only;refine Aa (AW (Aa (wpAny_tryCatch (pair_items (s:={ s with heap:=h1,toks:=tk }) gt ?_))));dsimp only;refine AW (wpAny_dictSet_heap (knd:=tupleKind knd) (s:={ s with heap:=h1,toks:=tk }) (hsz:=by omega) (tupleKind_room_in1 hu) gk hd1 fun h2 dd2 sb=>?_);have kk2:∀b o,b≠D->b≠I->s.heap.get? b=some o->h2.get? b=some o:=fun b o hb hi e=>by rw[sb.2 b hb]; exact kk' b o hb hi e
  have hit2:h2.IsListIter I L (j+1):=st1.1.at fun o e=>by rw[sb.2 I (Ne.symm hDI)]; exact e
  have hl2:h2.IsList L (ts.map fun x=>Value.ref x.1).toArray:=st1.2.at fun o e=>by rw[sb.2 L hDL]; exact e
  refine Ac ⟨plainId_quiet zbi _,?_⟩;refine zil hh hu hDI hDL hLI k (j+1) { s with heap:=h2,toks:=_ } _ (by omega) (by omega) hit2 hl2 (fun x hx=>zd3 (o:=oi) (hg x hx) hDo ⟨oi,ei,ci⟩ kk2) dd2 (by have:=zgw xs (ts[j]).2.1 (ts[j]).2.2.1 (ts[j]).2.2.2; omega) fun h' tk' dd' k3=>hQ h' tk' ?_ fun b o hb hi e=>k3 b o hb hi (kk2 b o hb hi e);rw[List.drop_eq_getElem_cons hjl];exact dd'
end
end DPr
end
section
namespace DPr
open PySem PyProof.Rows DCp
section
variable {prog:Program}{w:World}{A:Around}{E:Value->Shared->Prop}{s:Shared}{K:Type} [DecidableEq K] {knd:KeyKind prog w K}
theorem zar {L:Addr}{o:Obj}{n:Nat}{ts:List (Pr K)}{Q:Value->Shared->Prop} (hh:A.handled=none) (hu:A.units+2<cLine) (ho:s.heap.get? L=some o) (hc:o.cls=.type "list") (hdat:o.data=.seq (ts.map fun x=>Value.ref x.1).toArray n) (hdn:o.dict=none)
  (hg:∀x∈ts,Good knd s.heap x) (hz:ts.length<=sizeLine)
  (h:∀h' tk,h'.DictOfH (tupleKind knd) s.heap.objs.size (zh6 [] ts)->(∀b o,b<s.heap.objs.size->s.heap.get? b=some o->h'.get? b=some o)->Q (.ref s.heap.objs.size) { s with heap:=h',toks:=tk }) :
  wpAny (model prog w) A (call (.type "dict") [.ref L]) Q E s:=by
 obtain⟨c,tl,hmro⟩:=zS.mro;have hmade:=zS.made;have hsub:=zS.sub;refine wpAny_call (codeAny_of_tree ?_);show wpAny _ _ (callAny (.type "dict") _) _ _ _;refine Ac ⟨Code.quiet_builtin _ (by decide +kernel),codeAny_builtin F.entry_type_call ?_⟩;rw[Around.under_plain (weight_type_call_type "dict" [.ref L] []) rfl];have h1:=zS.notType;have h2:=zS.canCreate;have hct:=zcS (.ref L)
 repeat (any_goals (first | assumption | wp_step))
 refine codeAny_mono (zin (.ref L) (E:=E) (Q₁:=fun obj s₁=>obj=.ref s.heap.objs.size/\s₁={ s with heap:=s.heap.push { cls:=.type "dict",data:=.dict #[] } }) ⟨rfl,rfl⟩) fun r s₁ hr=>?_;cases r with
 | error e=>exact hr
 | ok fl=>
  cases fl with
  | ret obj=>
   obtain⟨rfl,rfl⟩:=hr;have hS:(s.heap.push { cls:=.type "dict",data:=.dict #[] }).get? s.heap.objs.size=some { cls:=.type "dict",data:=.dict #[] }:=Aq _ rfl;have hTy:Shared.TypeIs { s with heap:=s.heap.push { cls:=.type "dict",data:=.dict #[] } } (.ref s.heap.objs.size) "dict":=⟨_,hS,rfl⟩;have hli:=zS.init.lookup;have hbi:=zS.init.bind (.ref s.heap.objs.size)
   repeat (any_goals (first | assumption | wp_step))
   refine codeAny_mono (codeAny_call_builtin (R:=wants (fun r s₂=>r=.none/\∃h' tk,s₂={ s with heap:=h',toks:=tk }/\h'.DictOfH (tupleKind knd) s.heap.objs.size (zh6 [] ts)/\
     (∀b o,b<s.heap.objs.size->s.heap.get? b=some o->h'.get? b=some o)) E) zS.init.plain F.entry_dict_init (zS.init.check _ _ _ _ _ _ _ _ hTy (F.args_dict_init_2 _ _) ?_)) fun r₂ s₂ hr₂=>?_
   ·have hLS:L<s.heap.objs.size:=Au ho
    have ho':(s.heap.push { cls:=.type "dict",data:=.dict #[] }).get? L=some o:=Ae _ ho;have hTL:Shared.TypeIs { s with heap:=s.heap.push { cls:=.type "dict",data:=.dict #[] } } (.ref L) "list":=⟨o,ho',hc⟩;unfold Builtin.«dict.__init__»;refine Aa ?_;unfold Builtin.Dict.selfAndRest;refine Aa (wpAny_notOrdered_dict hTy ?_);refine Aa (show wpAny _ _ (pure s.heap.objs.size) _ _ _ from Ac ?_);refine Ac ?_;show wpAny _ _ (Builtin.Dict.updateCommon "dict.__init__" "dict" s.heap.objs.size [Value.ref L] []) _ _ _;unfold Builtin.Dict.updateCommon Builtin.Dict.updateFrom;dsimp only;refine Aa (wpAny_typeOf hTL ?_);rw[if_pos (by decide)];refine Aa (ziq (s:={ s with heap:=s.heap.push { cls:=.type "dict",data:=.dict #[] } }) ho' hc hdat hdn hh fun h2 tk2 e2 x2=>?_);rw[if_pos (by rfl)];refine Aa (wpAny_rule ?_);have hL2:h2.IsList L (ts.map fun x=>Value.ref x.1).toArray:=⟨o,x2.keeps _ _ ho',hc,n,hdat⟩;refine Aa (wpAny_pyIter_list (s:={ s with heap:=h2,toks:=tk2 }) hL2 ?_);have hD2:h2.get? s.heap.objs.size=some { cls:=.type "dict",data:=.dict #[] }:=x2.keeps _ _ hS;have hDl:s.heap.objs.size<h2.objs.size:=Au hD2;have keep3:∀b ob,h2.get? b=some ob->(h2.push { cls:=.type "list_iterator",data:=.fields #[.ref L,.int 0 0] }).get? b=some ob:=fun b ob e=>Ae _ e;have keepS:∀b ob,s.heap.get? b=some ob->(h2.push { cls:=.type "list_iterator",data:=.fields #[.ref L,.int 0 0] }).get? b=some ob:=fun b ob e=>keep3 _ _ (x2.keeps _ _ (Ae _ e));refine Ac ⟨plainId_quiet zbi _,?_⟩;refine zil (knd:=knd) (ts:=ts) (L:=L) (D:=s.heap.objs.size) (I:=h2.objs.size) (by exact hh) (by first | exact hu | (show A.units+1<cLine; omega)) (AE hDl) (AE hLS) (AE (Nat.lt_trans hLS hDl)) ts.length 0 { s with heap:=h2.push { cls:=.type "list_iterator",data:=.fields #[.ref L,.int 0 0] },toks:=tk2 } [] (by omega) (AO _)
     ⟨_,Aq _ rfl,rfl,rfl⟩ (hL2.at fun ob e=>keep3 _ _ e) (fun x hx=>?_) ⟨_,#[],0,keep3 _ _ hD2,⟨rfl,rfl,rfl⟩,rfl,rfl,(fun x hx=>nomatch hx),List.nodup_nil⟩ (by simpa using hz) fun h' tk' dd k3=>⟨rfl,h',tk',rfl,dd,fun b ob hb e=>k3 b ob (AE hb) (AE (Nat.lt_trans hb hDl)) (keepS _ _ e)⟩
    obtain⟨⟨o1,e1,c1⟩,o2,it,m,e2,c2⟩:=hg x hx;exact⟨⟨o1,keepS _ _ e1,c1⟩,o2,it,m,keepS _ _ e2,c2⟩
   ·cases r₂ with
    | error e=>exact hr₂
    | ok fl₂=>
     cases fl₂ with
     | ret r=>
      obtain⟨rfl,h',tk',rfl,hS',hk'⟩:=hr₂
      repeat (any_goals (first | assumption | wp_step))
      exact h _ _ hS' hk'
     | _=>exact hr₂.elim
  | _=>exact hr.elim
end
end DPr
namespace L2
open PySem PySem.Spec PyProof.Rows
def zhu (kvs:List (List Key×V)):List (List Key×V):=kvs.foldl (fun acc kv=>putK acc kv.1 kv.2) []
section
variable {X:Cx}
theorem zf9:∀(kvs acc:List (List Key×V)),(kvs.foldl (fun acc kv=>putK acc kv.1 kv.2) acc).length<=acc.length+kvs.length
 | [],acc=>by simp
 | kv::r,acc=>by
  rw[List.foldl_cons];have h1:=zf9 r (putK acc kv.1 kv.2);have h2:=zbA acc kv.1 kv.2;rw[Aw];omega
theorem zar (hc:X.calm=true) (hu:X.A.units+64<cLine):zaS X (.type "dict") (fun xs H Q=>∃(l:Addr) (ts:List Addr) (kvs:List (List Key×V)),xs=[.ref l]/\SqL X.K H l (ts.map V.ref)/\
  Paired (fun t (kv:List Key×V)=>∃b,H t=some (.tup [.ref b,kv.2])/\H b=some (.tup (kv.1.map kV))) ts kvs/\∀D,H D=none->Q (.ref D) (upd H D (.dT (zhu kvs)))):=by
 intro pins s σ H xs us Q I r h;obtain⟨l,ts,kvs,rfl,hq,hp,q⟩:=h;obtain⟨u,rfl,ru⟩:=vals1 r;cases ru;obtain⟨its,r1,⟨o,n,e1,c1,d1,s1⟩,hz⟩:=I.list hq;obtain rfl:=vals_refs r1;have hl:=AN hp;have get:∀{ts:List Addr} {kvs:List (List Key×V)},Paired (fun t (kv:List Key×V)=>∃b,H t=some (.tup [.ref b,kv.2])/\H b=some (.tup (kv.1.map kV))) ts kvs->
   ∃ps:List (DPr.Pr Key),ps.map (fun x=>Value.ref x.1)=ts.map Value.ref/\(∀x∈ps,DPr.Good (zD X.prog X.w) s.heap x)/\∀acc (ys:List (List Key×Addr×Value)),KT H acc ys->KT H (kvs.foldl (fun acc kv=>putK acc kv.1 kv.2) acc) (DPr.zh6 ys ps):=by
  intro ts kvs z
  induction z with
  | nil=>exact⟨[],rfl,(fun x hx=>nomatch hx),fun acc ys k=>k⟩
  | @cons t kv ts kvs hh t' ih=>
   obtain⟨ps,g1,g2,g3⟩:=ih;obtain⟨b,ht,hb⟩:=hh;obtain⟨its,ri,pi,_⟩:=I.tuple (SqT.of (K:=X.K) ht);obtain⟨vs,e2,rv⟩:∃v,its=[.ref b,v]/\RelV kv.2 v:=by
    cases ri with
    | cons ra rb=>
     cases rb with
     | cons rc rd=>
      cases rd;cases ra;exact⟨_,rfl,rc⟩
   subst e2;refine⟨(t,kv.1,b,vs)::ps,by rw[Av,Av,g1],fun x hx=>?_,fun acc ys k=>?_⟩
   ·rcases List.mem_cons.mp hx with rfl | hx
    ·exact⟨pi,zb8 I.hok hb⟩
    ·exact g2 x hx
   ·exact g3 _ _ (k.put kv.1 hb rv)
 obtain⟨ps,g1,g2,g3⟩:=get hp;have hpl:ps.length=kvs.length:=by
  have:=congrArg List.length g1;rw[Ab,Ab] at this;omega
 rw[Ab] at hz;refine DPr.zar (knd:=zD X.prog X.w) (ts:=ps) (n:=n) (I.ok.hd hc) (by omega) e1 c1 (by rw[g1]; exact s1) d1 g2 (by omega) fun h' tk dd kk=>?_;have hkt:=g3 [] [] .nil;have hD:H s.heap.objs.size=none:=I.hok.fresh (Af _);obtain⟨q',es,ep,hq',h2,h3,h4,h6,h5⟩:=dd;refine⟨.ref s.heap.objs.size,_,I.laid (o:=.dT (zhu kvs)) (fun b u e=>kk b u (Au e) e) (Af _) ⟨?_,?_,DPr.zh6 [] ps,hkt.keeps fun b ys e=>?_,q',es,ep,hq',h2,h3,h4,h5⟩,rfl,q _ hD⟩
 ·have:=zf9 kvs []
  unfold zhu;simp at this;omega
 ·exact beq_eq_false_iff_ne.mpr (Nat.ne_of_gt I.big)
 ·rw[zk (zj e hD)]; exact e
end
end L2
end
section
namespace Dk
open PySem PySem.Spec PyProof.Rows
theorem ziY:entryFor table "dict_itemiterator.__iter__"=some Builtin.«dict_keyiterator.__iter__»:=
 entryFor_alias (id':="dict_keyiterator.__iter__") (by kernel_rfl) rfl (by decide +kernel) (by kernel_rfl)
section
variable {prog:Program}{w:World}{A:Around}{E:Value->Shared->Prop}{s:Shared}{it d:Addr}{i n ep:Nat}
theorem zlf {Q:Value->Shared->Prop} (hit:II s.heap it d i n ep) (h:Q (.ref it) s):wpAny (model prog w) A (pyIter (.ref it)) Q E s:=by
 obtain⟨f0,b,k,v,_,e⟩:=hit;have hT:s.TypeIs (.ref it) "dict_itemiterator":=⟨_,e,rfl⟩;refine wpAny_pyIter_slot hT PySem.F.slot_dict_itemiterator_iter (A2 PySem.F.slot_dict_itemiterator_iter hT ziY ?_ (PySem.F.args_dict_itemiterator_iter_1 _));show wpAny _ _ (ret (.ref it)) _ _ s;exact Ac ⟨_,rfl,"dict_itemiterator",_,hT,PySem.F.slot_dict_itemiterator_next.lookup,h⟩
theorem zne {elts:List Expr}{x1:Nat}{pos:Pos}{a:Addr}{Q:Unit->Shared->Prop} (hit:II s.heap it d i n ep) (hQ:∀h',II h' it d i n ep->(∀b o,b≠it->s.heap.get? b=some o->h'.get? b=some o)->Q () { s with heap:=h' }) :
  wpAny (model prog w) A (letOwnedTupleGo (.Tuple elts x1 pos) (.ref it) (.ref a)) Q E s:=by
 obtain⟨f0,fb,k,v,hf,he⟩:=hit;unfold letOwnedTupleGo;refine Aa (wpAny_load he ?_);show wpAny _ _ (if (["enumerate","zip","dict_itemiterator","dict_reverseitemiterator","odict_iterator","itertools.zip_longest","itertools.pairwise"].contains "dict_itemiterator" &&
   (#[f0,.bool fb,.ref d,.int i 0,.int n 0,.int ep 0,k,v]:Array Value)[0]? == some (rawInt a))=true then _ else _) Q E s
 refine wpAny_ite_split (fun _=>?_) (fun _=>?_)
 ·refine Aa (wpAny_rule ?_)
  show wpAny _ _ (setField (.ref it) 0 .none) Q E s;exact A5 he (by simp) fun h' he' hs'=>hQ h' ⟨_,_,_,_,.inl rfl,he'⟩ fun b o hb e=>hs'.extBut b o hb e
 ·exact Ac (hQ s.heap ⟨_,_,_,_,hf,he⟩ fun b o _ e=>e)
end
end Dk
namespace L2
open PySem PySem.Spec PyProof.Rows
def Itp (d:Addr) (o:Obj) (kvs:List (List Key×V)):It:=⟨fun i H=>i<kvs.length/\H d=some (.frz o (.dT kvs)),fun i H v H'=>∃p kv b,kvs[i]?=some kv/\v=.ref p/\H p=none/\H b=some (.tup (kv.1.map kV))/\H'=upd H p (.tup [.ref b,kv.2]),fun i H=>i=kvs.length/\H d=some (.frz o (.dT kvs))⟩
theorem zgC {P:Program}{w:World}{K:Ad}{elts:List Expr}{x1:Nat}{tpos:Pos} (d it:Addr) {o:Obj}{kvs:List (List Key×V)}{es:Array DictEntry}{ep:Nat} (hne:it≠d) (hdat:o.data=.dict es ep) (hsz:es.size=kvs.length) (hx:o.ExactDict) :
  Turn P w K (.Tuple elts x1 tpos) (Itp d o kvs) [it] it (fun i h=>Dk.II h it d i es.size ep) where
 mem:=by simp
 obj:=fun i h st b hb=>by
  have e:b=it:=by simpa using hb
  subst e;obtain⟨f0,fb,k0,v0,_,e⟩:=st;exact⟨_,e,fun v z=>by cases z⟩
 keep:=fun i h h' st k=>st.at fun o e=>k it (by simp) o e
 item:=by
  intro X hP hw hK hc i pins s σ H E I hf st hg;subst hP hw hK;obtain⟨hi,hH⟩:=hg;obtain⟨g0,z,hs,ys,rel,o',es',ep',h1,h2,h3,h4,h5⟩:=(show zJ X.prog X.w H s.heap d (.frz o (.dT kvs)) from I.hok d _ hH);obtain rfl:o=o':=Ao (g0.symm.trans h1);have hes:es=es'/\ep=ep':=by rw[h3] at hdat; cases hdat; exact⟨rfl,rfl⟩
  obtain⟨rfl,rfl⟩:=hes;have hm:Dk.IsD s.heap d es ep:=⟨o,h1,hx,h3⟩;have hi':i<es.size:=by rw[hsz]; exact hi
  have ek:kvs[i]?=some kvs[i]:=Ai hi;obtain⟨y,ey,g1,g2⟩:=zkn rel ek;obtain⟨y',ey',g3⟩:=kt_at rel ek;rw[ey] at ey';obtain rfl:=Ao ey';have g8:es.toList[i]?=some es[i]:=by simp[hi']
  rw[h4,Al,ey] at g8;simp only[A3,Option.some.injEq] at g8;refine Dk.iitem st hm hi' fun h' st' ht hk=>?_;have hfr:H s.heap.objs.size=none:=I.hok.fresh (Af _);have eT:h'.get? s.heap.objs.size=some { cls:=.type "tuple",data:=.seq #[.ref y.2.1,y.2.2] }:=by rw[ht,<- g8]; rfl
  have I1:Inv X pins σ (upd H s.heap.objs.size (.tup [.ref y.2.1,kvs[i].2])) { s with heap:=h' }:=
   I.grown (ch:=[it]) (t':=s.toks) (fun b hb=>hf b hb) (fun b o hb e=>hk b o (by simpa using hb) e) (Af _) (show zJ X.prog X.w _ h' _ (.tup [.ref y.2.1,kvs[i].2]) from ⟨by show 2<=sizeLine; rw[sizeLine_eq]; omega,[.ref y.2.1,y.2.2],.cons rfl (.cons g2 .nil),⟨_,eT,rfl,_,rfl⟩⟩)
  have hil:it<s.heap.objs.size:=by
   obtain⟨f0,fb,k0,v0,_,e⟩:=st;exact Au e
  have hf1:∀b∈[it],FpOk X pins (upd H s.heap.objs.size (.tup [.ref y.2.1,kvs[i].2])) b:=fun b hb=>by
   obtain⟨f0,fr⟩:=hf b hb;have e:b=it:=by simpa using hb
   subst e;exact⟨by rw[zk (AE hil)]; exact f0,fr⟩
  refine⟨_,rfl,Dk.zne (s:={ s with heap:=h' }) st' fun h'' st'' hk''=>?_⟩;have I2:Inv X pins σ (upd H s.heap.objs.size (.tup [.ref y.2.1,kvs[i].2])) { s with heap:=h'' }:=I1.turneds (s:={ s with heap:=h' }) (t':=s.toks) (ch:=[it]) hf1 (fun b o hb e=>hk'' b o (by simpa using hb) e);exact⟨.ref s.heap.objs.size,_,I2,rfl,⟨_,_,y.2.1,ek,rfl,hfr,g3,rfl⟩,st'',fun b hb=>(hf1 b hb).1⟩
 done:=by
  intro X hP hw hK hc i pins s σ H E I hf st hg;subst hP hw hK;obtain⟨f0,f1,f2,f3,f4,f5⟩:=hf it (by simp);obtain⟨hi,hH⟩:=hg;have hm:Dk.IsD s.heap d es ep:=⟨o,(show zJ X.prog X.w H s.heap d (.frz o (.dT kvs)) from I.hok d _ hH).1,hx,hdat⟩;have hi':i=es.size:=by rw[hsz]; exact hi
  subst hi';exact Dk.iend (I.ok.hd hc) st hm fun h' eb=>⟨rfl,I.turned (t':=s.toks) (fun b o hb e=>eb b o hb e) f0 f1 f3 f4 f5⟩
 self:=fun A i s Q E st h=>Dk.zlf st h
section
variable {X:Cx}
def zmB (te:TE):TI:=fun σ H R=>te σ H fun x H1=>∃v d o kvs,x=.ref v/\H1 v=some (itO v d)/\H1 d=some (.frz o (.dT kvs))/\R (Itp d o kvs) H1
theorem zjc {elts:List Expr}{x1:Nat}{tpos:Pos}{l:Expr}{tl:TE} (hl:PE X l tl):PI X (.Tuple elts x1 tpos) l (zmB tl):=by
 intro pins s σ H R I h;refine thn (hl pins s σ H _ I h) fun v s1 ⟨x,H1,I1,r1,q1⟩=>?_;obtain⟨v,d,o,kvs,e,hv,hd,q⟩:=q1;subst e;cases r1;have hvw:s1.heap.IsItemsView v d:=(show zJ X.prog X.w H1 s1.heap v (itO v d) from I1.hok v _ hv).1;obtain⟨g0,z,hs,ys,rel,o',es,ep,h1,h2,h3,h4,h5⟩:=(show zJ X.prog X.w H1 s1.heap d (.frz o (.dT kvs)) from I1.hok d _ hd);obtain rfl:o=o':=Ao (g0.symm.trans h1);have hsz:es.size=kvs.length:=by
  have:=congrArg List.length h4;rw[Ab,<- AN rel] at this
  simpa using this
 have hm:Dk.IsD s1.heap d es ep:=⟨o,h1,h2,h3⟩;refine Dk.iiter hvw hm ?_;have hfr:H1 s1.heap.objs.size=none:=I1.hok.fresh (Af _);refine⟨s1.heap.objs.size,[s1.heap.objs.size],_,_,_,rfl,I1.kept (t':=s1.toks) fun b o e=>Ae _ e,zgC d _ (Nat.ne_of_gt hm.lt) h3 hsz h2,⟨_,_,_,_,.inl rfl,Aq _ rfl⟩,fun b hb=>?_,q⟩;have e:b=s1.heap.objs.size:=by simpa using hb
 subst e;exact I1.fpOk (Af _) hfr
def tFrz (t:TE):TE:=fun σ H Q=>t σ H fun x H1=>∃d kvs,x=.ref d/\H1 d=some (.dT kvs)/\∀o,Q (.ref d) (upd H1 d (.frz o (.dT kvs)))
theorem zgW {e:Expr}{t:TE} (h:PE X e t):PE X e (tFrz t):=by
 intro pins s σ H Q I q;refine thn (h pins s σ H _ I q) fun v s1 ⟨x,H1,I1,r1,d,kvs,ex,hd,k⟩=>?_;subst ex;obtain⟨z,hs,ys,rel,o,es,ep,h1,h2,h3,h4,h5⟩:=(show zJ X.prog X.w H1 s1.heap d (.dT kvs) from I1.hok d _ hd);have hkt:KT (upd H1 d (.frz o (.dT kvs))) kvs ys:=KT.keeps rel fun b zs e=>by rw[zk (fun zz=>by rw[zz,hd] at e; cases e)]; exact e
 exact⟨.ref d,_,zcv (ob:=.frz o (.dT kvs)) (t':=s1.toks) I1 (by rw[hd]; exact True.intro) (Heap.SameBut.refl _ _) ⟨o,h1⟩ ⟨h1,z,hs,ys,hkt,o,es,ep,h1,h2,h3,h4,h5⟩,r1,k o⟩
def zlF (tk tv:TE):TE:=fun σ H Q=>∀p,H p=none->zho [(tk,tv)] σ (upd H p (.dT [])) fun ps H2=>∃b k v,ps=[(.ref b,v)]/\H2 p=some (.dT [])/\H2 b=some (.tup (List.map kV k))/\Q (.ref p) (upd H2 p (.dT [(k,v)]))
theorem zh8 {ke ve:Expr}{pos:Pos}{tk tv:TE} (hu:X.A.units+1<cLine) (hk:PE X ke tk) (hv:PE X ve tv):PE X (.Dict [some ke] [ve] pos) (zlF tk tv):=by
 intro pins s σ H Q I q;have hn:=I.hok.fresh (Af s.heap.objs.size);have I1:=I.laid (a:=s.heap.objs.size) (o:=.dT []) (h':=s.heap.push { cls:=.type "dict",data:=.dict #[] }) (t':=s.toks) (fun _ _ q=>Ae _ q) (Af _) (zf0 s.heap I.big);refine wpAny_Dict_any rfl rfl (by simp) (by simp) (thn (zjJ hk hv zkt pins _ σ _ _ I1 (q _ hn)) fun ws s2 ⟨ps,H2,I2,rel,b,k,v,ep,e,eb,q2⟩=>?_);subst ep;cases rel with
 | @cons p' w0 ps' qs' h t=>
  cases t;obtain⟨w1,w2⟩:=w0;obtain⟨r1,r2⟩:=h;cases (show w1=Value.ref b from r1);obtain⟨z,hd,xs,rel,dd⟩:=zl1 I2.hok e;cases rel;unfold storeAll;rw[List.forIn_cons];refine Aa (Aa (wpAny_dictSet_heap (hsz:=AO _) (knd:=tupleKind (zD X.prog X.w)) (by show X.A.units<cLine; omega) (zb8 I2.hok eb) dd fun h' dd' hs=>Ac ?_));show wpAny _ _ (forIn _ _ _) _ _ _;rw[List.forIn_nil];refine Ac ⟨.ref s.heap.objs.size,_,?_,rfl,q2⟩;obtain⟨qo,es,ep,hq,h2,h3,h4,_,h5⟩:=dd';refine zcv I2 (by rw[e]; exact True.intro) hs ⟨qo,hq⟩ ⟨by show 1<=sizeLine; rw[sizeLine_eq]; omega,hd,_,(KT.put (kvs:=[]) .nil k eb r2).keeps fun c ys ec=>?_,qo,es,ep,hq,h2,h3,h4,h5⟩;rw[zk (zbz ec e (fun z=>nomatch z))];exact ec
end
end L2
end
section
namespace K48
open K1
open PySem L2 STb
abbrev zbL:Stmt:=top 20
abbrev sSum:Stmt:=top 21
theorem z0 {H:Hp}{b:Addr}{ps:List Int} (h:Tp H b ps):H b=some (.tup ((ps.map Sum.inl:List Key).map kV)):=by rw[Ap]; exact h
abbrev Ch:Type:=List (List Int×Int)
def ksC (cs:Ch):List (List Int):=cs.map (·.1)
def kvC (cs:Ch):List (List Key×V):=cs.map fun c=>((c.1.map Sum.inl:List Key),V.int c.2)
def putC (cs:Ch) (ps:List Int) (n:Int):Ch:=if ps∈ksC cs then cs.map (fun c=>if c.1=ps then (c.1,n) else c) else cs++[(ps,n)]
theorem zaB (cs:Ch):(kvC cs).length=cs.length:=Ab _
theorem zcJ (cs:Ch):(ksC cs).length=cs.length:=Ab _
theorem zfO (cs:Ch):(kvC cs).map (·.1)=(ksC cs).map (·.map Sum.inl):=by unfold kvC ksC; rw[Ap,Ap]; rfl
theorem ziW (cs:Ch):(kvC cs).map (·.2)=(cs.map (·.2)).map V.int:=by unfold kvC; rw[Ap,Ap]; rfl
theorem zcY (cs:Ch) (ps:List Int) (n:Int):putK (kvC cs) (ps.map Sum.inl) (.int n)=kvC (putC cs ps n):=by
 unfold putK kvC putC;have ha:((cs.map fun c=>((c.1.map Sum.inl:List Key),V.int c.2)).any fun kv=>decide (kv.1=ps.map Sum.inl))=decide (ps∈ksC cs):=by
  rw[List.any_map]
  by_cases h:ps∈ksC cs
  ·rw[decide_eq_true h,List.any_eq_true]
   obtain⟨c,hc,e⟩:=List.mem_map.mp h;exact⟨c,hc,decide_eq_true (zai.mpr e)⟩
  ·rw[decide_eq_false h,List.any_eq_false]
   intro c hc;simp only[Function.comp,decide_eq_true_eq,zai];rintro rfl;exact h (List.mem_map.mpr ⟨c,hc,rfl⟩)
 rw[ha]
 by_cases h:ps∈ksC cs
 ·rw[decide_eq_true h,if_pos rfl,if_pos h,Ap,Ap]
  refine A6 fun c hc=>?_;simp only[Function.comp]
  by_cases e:c.1=ps
  ·rw[if_pos e,if_pos (zai.mpr e)]
  ·rw[if_neg e,if_neg (fun z=>e (zai.mp z))]
 ·rw[decide_eq_false h,if_neg (by simp),if_neg h,Ag]
  rfl
theorem zcN (cs:Ch) (ps:List Int) (n:Int):ksC (putC cs ps n)=if ps∈ksC cs then ksC cs else ksC cs++[ps]:=by
 unfold putC
 by_cases h:ps∈ksC cs
 ·rw[if_pos h,if_pos h]
  unfold ksC;rw[Ap];refine A6 fun c _=>?_;simp only[Function.comp];split <;> rfl
 ·rw[if_neg h,if_neg h]
  unfold ksC;rw[Ag]
  rfl
theorem zb4 {cs:Ch} (ps:List Int) (n:Int) (h:(ksC cs).Nodup):(ksC (putC cs ps n)).Nodup:=by
 rw[zcN]
 by_cases e:ps∈ksC cs
 ·rw[if_pos e]; exact h
 ·rw[if_neg e,AL]
  refine⟨h,by simp,fun a ha b hb z=>?_⟩;rw[List.mem_singleton] at hb;subst hb; subst z; exact e ha
theorem putC_mem {cs:Ch}{ps q:List Int}{n:Int} (h:q∈ksC (putC cs ps n)):q∈ksC cs \/ q=ps:=by
 rw[zcN] at h
 by_cases e:ps∈ksC cs
 ·rw[if_pos e] at h; exact .inl h
 ·rw[if_neg e] at h
  rcases List.mem_append.mp h with h | h
  ·exact .inl h
  ·exact .inr (List.mem_singleton.mp h)
theorem ziP (cs:Ch) (ps:List Int) (n:Int):(putC cs ps n).length<=cs.length+1:=by
 unfold putC;split
 ·rw[Ab]; omega
 ·rw[Ah]; simp
theorem zb3:∀{cs:Ch},(ksC cs).Nodup->∀c∈cs,valV (kvC cs) (c.1.map Sum.inl)=some (.int c.2)
 | [],_,c,hc=>absurd hc (by simp)
 | d::cs,h,c,hc=>by
  have h':(d.1::ksC cs).Nodup:=h;rw[List.nodup_cons] at h';unfold valV kvC;rw[Av,List.find?_cons];rcases List.mem_cons.mp hc with rfl | hc
  ·rw[decide_eq_true rfl]; rfl
  ·have hne:¬ d.1.map Sum.inl=(c.1.map Sum.inl:List Key):=fun z=>h'.1 (by rw[zai.mp z]; exact List.mem_map.mpr ⟨c,hc,rfl⟩)
   rw[decide_eq_false hne];exact zb3 h'.2 c hc
theorem zco {H:Hp}{cs:Ch}{bs:List Addr} (h:Paired (fun (p:List Key×V) b=>H b=some (.tup (p.1.map kV))) (kvC cs) bs):Tps H bs (ksC cs):=by
 unfold kvC at h;unfold ksC
 induction cs generalizing bs with
 | nil=>cases h; exact .nil
 | cons x l ih=>
  rw[Av] at h;cases h with
  | cons r t=>
   refine .cons ?_ (ih t);show H _=_;rw[r,Ap]
   rfl
abbrev noZ (c:List Int×Int):Bool:=!decide (V.int c.2=V.int 0)
def PrT (H:Hp) (t:Addr) (c:List Int×Int):Prop:=∃b,H t=some (.tup [.ref b,.int c.2])/\Tp H b c.1
def Prs (H:Hp) (ts:List Addr) (cs:Ch):Prop:=Paired (PrT H) ts cs
theorem Prs.same {H H':Hp}{ts:List Addr}{cs:Ch} (h:Prs H ts cs) (s:Same H H'):Prs H' ts cs:=Paired.mapP h fun _ _ ⟨b,e1,e2⟩=>⟨b,s _ _ e1,s.tp e2⟩
theorem Prs.length {H:Hp}{ts:List Addr}{cs:Ch} (h:Prs H ts cs):ts.length=cs.length:=AN h
theorem Prs.upd {H:Hp}{d:Addr}{o o':HO}{ts:List Addr}{cs:Ch} (h:Prs H ts cs) (hd:H d=some o') (hn:∀xs,o'≠.tup xs):Prs (L2.upd H d o) ts cs:=
 Paired.mapP h fun t c ⟨b,e1,e2⟩=>⟨b,by rw[zk (zbz e1 hd fun z=>hn _ z.symm)]; exact e1,by show L2.upd H d o b=_; rw[zk (zbz (show H b=some _ from e2) hd fun z=>hn _ z.symm)]; exact e2⟩
theorem Prs.snoc {H:Hp}{ts:List Addr}{cs:Ch}{t:Addr}{c:List Int×Int} (h:Prs H ts cs) (q:PrT H t c):Prs H (ts++[t]) (cs++[c]):=Paired.snoc h q
theorem Prs.append {H:Hp}{ts us:List Addr}{cs ds:Ch} (h:Prs H ts cs) (q:Prs H us ds):Prs H (ts++us) (cs++ds):=by
 induction h with
 | nil=>exact q
 | cons r t ih=>exact .cons r ih
theorem Prs.get {H:Hp}:∀{ts:List Addr}{cs:Ch}{i:Nat}{t:Addr},Prs H ts cs->ts[i]?=some t->∃c,cs[i]?=some c/\PrT H t c
 | _,_,0,_,.cons h _,e=>by cases e; exact⟨_,rfl,h⟩
 | _,_,i+1,_,.cons _ t,e=>Prs.get (i:=i) t (by simpa using e)
def getC (cs:Ch) (q:List Int):Int:=((cs.find? fun c=>decide (c.1=q)).map (·.2)).getD 0
theorem zdN (cs:Ch) (q:List Int):(valV (kvC cs) (q.map Sum.inl)).getD (.int 0)=.int (getC cs q):=by
 unfold valV getC kvC
 induction cs with
 | nil=>rfl
 | cons c r ih=>
  rw[Av,List.find?_cons,List.find?_cons]
  by_cases e:c.1=q
  ·rw[decide_eq_true e,decide_eq_true (zai.mpr e)]; rfl
  ·rw[decide_eq_false e,decide_eq_false (fun z=>e (zai.mp z))]; exact ih
def addC (acc:Ch) (t:List Int×Int):Ch:=putC acc t.1 (getC acc t.1+t.2)
def sumsC (ts:Ch):Ch:=ts.foldl addC []
def sumC (ts:Ch):Ch:=(sumsC ts).filter noZ
theorem za4 (ts:Ch) (t:List Int×Int):sumsC (ts++[t])=addC (sumsC ts) t:=by unfold sumsC; rw[List.foldl_append]; rfl
theorem zaE {α:Type}{P:List α->Prop} (h0:P []) (hs:∀l x,P l->P (l++[x])) (l:List α):P l:=by
 have:∀n,∀l:List α,l.length=n->P l:=by
  intro n
  induction n with
  | zero=>intro l hl; rw[List.eq_nil_of_length_eq_zero hl]; exact h0
  | succ n ih=>
   intro l hl;have hne:l≠[]:=fun z=>by rw[z] at hl; simp at hl
   rw[<- List.dropLast_concat_getLast hne];exact hs _ _ (ih _ (by rw[List.length_dropLast]; omega))
 exact this _ l rfl
theorem zbh (ts:Ch):(ksC (sumsC ts)).Nodup:=zaE (P:=fun ts=>(ksC (sumsC ts)).Nodup) List.nodup_nil (fun l x h=>by rw[za4]; exact zb4 _ _ h) ts
theorem zfL (ts:Ch):(sumsC ts).length<=ts.length:=zaE (P:=fun ts=>(sumsC ts).length<=ts.length) (Af _) (fun l x h=>by
 rw[za4,Ah];have:=ziP (sumsC l) x.1 (getC (sumsC l) x.1+x.2);unfold addC;simp;omega) ts
theorem zjo {cs:Ch}{q:List Int} (v:Int) (h:q∉ksC cs):putC cs q v=cs++[(q,v)]:=by unfold putC; rw[if_neg h]
def sg (k:Nat) (n:Int):Int:=if (k:Int) % 2=0 then n else -n
def stm (ps:List Int) (n:Int):Ch:=(rims ps).zipIdx.map fun q=>(q.1,sg q.2 n)
theorem zkN (ps:List Int) (n:Int):(stm ps n).length=(rims ps).length:=by unfold stm; rw[Ab,List.length_zipIdx]
abbrev zmv:TE:=tTup (zW (tVar 1) (zW (tIf (zdg (tOp rEq (tOp (rI (fun _ j=>0<j) fun i j=>.int (i % j)) (tVar 0) (tC (.int 2))) (tC (.int 0)))) (tVar 2) (tUn (rU fun i=>.int (-i)) (tVar 2))) tNil))
section
variable {P:Program}{w:World}{K:Ad}{mg:Str->Option Value}{base:Heap}
theorem zhm {H2:Hp}{L D:Addr}{as:List Addr}{rs:List (List Int)}{n:Int}{Q:VK} (hl:H2 L=some (.lst (as.map V.ref))) (ht:Tps H2 as rs) (hz:rs.length<=1000) (hD:H2 D=none)
  (k:∀(H3:Hp) (ts:List Addr),Same H2 H3->H3 D=some (.lst (ts.map V.ref))->Prs H3 ts (rs.zipIdx.map fun q=>(q.1,sg q.2 n))->Q (.ref D) H3) :
  zaj (Ite K L) (gTup K 2 (zcP (zX 0) (zcP (zX 1) gNil))) tYes zmv [none,none,some (.int n)] H2 D Q:=by
 have hla:=ht.length;refine zbx as.length (fun j σ ys H3=>∃(v0 v1:Option V) (ts:List Addr),σ=[v0,v1,some (.int n)]/\Same H2 H3/\H3 D=some (.lst ys)/\ys=ts.map V.ref/\Prs H3 ts ((rs.zipIdx.map fun q=>(q.1,sg q.2 n)).take j)) ?_ ?_ ?_ ?_ ?_
 ·exact⟨none,none,[],rfl,Same.new hD,upd_same,rfl,.nil⟩
 ·rintro σ ys H3 ⟨v0,v1,ts,rfl,sm,hD3,rfl,hp⟩
  exact⟨_,SqL.of (sm _ _ hl),by rw[Ab]⟩
 ·rintro i σ ys H3 hi ⟨v0,v1,ts,rfl,sm,hD3,rfl,hp⟩
  exact⟨_,SqL.of (sm _ _ hl),by rw[Ab]; exact hi⟩
 ·rintro i σ ys H3 x H' hi hy ⟨v0,v1,ts,rfl,sm,hD3,rfl,hp⟩ ⟨p,y,rfl,hpn,rfl,hxs⟩
  have ey:=hxs _ (SqL.of (sm _ _ hl));obtain⟨a,ea,rfl⟩:=zE ey;obtain⟨r,er,hr⟩:=ht.get ea;have s1:=Same.new (o:=.tup [.int i,.ref a]) hpn;have e:(rs.zipIdx.map fun q=>(q.1,sg q.2 n))[i]?=some (r,sg i n):=by rw[Al,List.getElem?_zipIdx,er]; simp
  have hn:as.length<=sizeLine:=line_big (by omega);have fin:∀(t:Addr) (v:Int),v=sg i n->upd H3 p (.tup [.int i,.ref a]) t=none->CPut as.length (fun j σ ys H3=>∃(v0 v1:Option V) (ts:List Addr),σ=[v0,v1,some (.int n)]/\Same H2 H3/\H3 D=some (.lst ys)/\ys=ts.map V.ref/\Prs H3 ts ((rs.zipIdx.map fun q=>(q.1,sg q.2 n)).take j)) D i [some (.int i),some (.ref a),some (.int n)] (.ref t) (upd (upd H3 p (.tup [.int i,.ref a])) t (.tup [.ref a,.int v])):=by
   intro t v hv htn;have s2:=s1.trans (Same.new (o:=.tup [.ref a,.int v]) htn);have hD5:=s2 _ _ hD3;refine cput hn hi hy hD5 ⟨_,_,ts++[t],rfl,(sm.trans s2).then hD,upd_same,by rw[Ag]; rfl,?_⟩;rw[AH e];exact Prs.upd (Prs.snoc (hp.same s2) ⟨a,by rw[upd_same,hv],s2.tp (sm.tp hr)⟩) hD5 (by intro xs z; cases z)
  refine⟨p,_,rfl,SqT.of upd_same,rfl,_,_,rfl,_,_,rfl,rfl,yes_ ?_⟩;refine⟨_,rfl,_,rfl,_,_,rfl,rfl,(by show (0:Int)<2; decide),rfl,_,rfl,?_⟩
  by_cases hk:(i:Int) % 2=0
  ·rw[decide_eq_true (congrArg V.int hk)]
   exact iteT ⟨_,rfl,line_big (by simp),fun t htn=>fin t n (by unfold sg; rw[if_pos hk]) htn⟩
  ·rw[decide_eq_false (fun z=>hk (by injection z))]
   exact iteF ⟨_,rfl,_,rfl,line_big (by simp),fun t htn=>fin t (-n) (by unfold sg; rw[if_neg hk]) htn⟩
 ·rintro σ ys H3 ⟨v0,v1,ts,rfl,sm,hD3,rfl,hp⟩
  rw[hla,An (by rw[Ab,List.length_zipIdx]; exact Af _)] at hp;exact k H3 ts sm hD3 hp
def zdI:Sp:=fun vs H Q _=>∃a ps n,vs=[.ref a,.int n]/\Tp H a ps/\ps.length<=5/\∀D H2 (ts:List Addr),Same H H2->H D=none->H2 D=some (.lst (ts.map V.ref))->Prs H2 ts (stm ps n)->Q (.ref D) H2
theorem zlB:zu ["piece","often"] ["piece","often"] (zh zbL):=⟨rfl,rfl,rfl,by decide +kernel,rfl,by decide +kernel,by decide +kernel⟩
theorem zjs {f fr:Addr}{fd fdr:FuncData} (F:Fun K "seam_terms" "seam_terms" zbL f fd) (B:Bt mg) (Fr:Fun K "rims_of" "rims_of" zcB fr fdr) (br:Binds K fdr ["piece"] []) (mr:mg "rims_of"=some (.ref fr)) :
  FnOk P w K mg base CX0 2 f fd ["piece","often"] zdI:=by
 have Gr:FnOk P w K mg base CX0 1 fr fdr ["piece"] zbK:=zdh Fr B;refine F.ok zlB (fun vs H Q E h=>?_) (fun cdv A outer s H vs Q E hr h=>?_)
 ·obtain⟨a,ps,n,rfl,_⟩:=h; rfl
 ·obtain⟨a,ps,n,rfl,ha,h5,k⟩:=h
  refine⟨_,zi (zt (zx ["piece","often"] ["k","rim","often"] [none,none,some 1] (zio rfl B.enumerate zcL (ze (zn Gr hr rfl mr Fr.kp br .nil pass0 (ze (pv 0) zg)) zg))
   (fun cl C s₀ H₀ ex=>zdc rfl (zah (zm (i:=0) (ndN ["k","rim","often"]) rfl (Or.inl rfl)) (zah (zm (i:=1) (ndN ["k","rim","often"]) rfl (Or.inl rfl)) zbY)))
   (fun cl C s₀ H₀ ex=>zN) (fun cl C s₀ H₀ ex=>zak (ze (pv 1) (ze (zjH (zy ziA (zH zbW (pv 0) zl) zl (nomark _)) (pv 2) (zgN zeC (pv 2))) zg)))
   (hfr:=frOf (zh zbL) (by decide +kernel)) (g:=gTup K 2 (zcP (zX 0) (zcP (zX 1) gNil))) (te:=zmv))),?_⟩
  have hrl:=zao ps;exact⟨_,rfl,a,ps,rfl,ha,h5,fun L H1 bs sm1 hL0 hL1 hb=>⟨L,rfl,⟨_,SqL.of hL1⟩,fun D hD=>zG (zhm hL1 hb (by omega) hD fun H3 ts sm3 hD3 hp=>k D H3 ts (sm1.trans sm3) (sm1.free hD) hD3 hp)⟩⟩
def zmE (K:Ad):Sp:=fun vs H Q _=>∃l ts cs,vs=[.ref l]/\SqL K H l (ts.map V.ref)/\Prs H ts cs/\cs.length<=1000/\∀D H',Same H H'->H D=none->H' D=some (.dT (kvC (sumC cs)))->Q (.ref D) H'
theorem zgK:zu ["terms","sums","piece","weight","told"] ["terms"] (zh sSum):=⟨rfl,rfl,rfl,by decide +kernel,rfl,by decide +kernel,by decide +kernel⟩
theorem zl2 {f:Addr}{fd:FuncData} (F:Fun K "sum_of" "sum_of" sSum f fd):FnOk P w K mg base CX0 1 f fd ["terms"] (zmE K):=by
 refine F.ok zgK (fun vs H Q E h=>?_) (fun cdv A outer s H vs Q E hr h=>?_)
 ·obtain⟨l,ts,cs,rfl,_⟩:=h; rfl
 ·obtain⟨l,ts,cs,rfl,hl,hp,hz,k⟩:=h
  have hu:=zbo hr;have hts:=hp.length;refine⟨_,zf (zq (i:=1) zgK.nd rfl (Or.inl rfl) zP)
   (zf (zM AF rfl (zw (pv 0)) (zdc rfl (zah (zm (i:=2) zgK.nd rfl (Or.inl rfl)) (zah (zm (i:=3) zgK.nd rfl (Or.inl rfl)) zbY)))
    (zi (zQ hu (pv 1) (pv 2) (zH zat (zdF hu (pv 1) (pv 2) zl ⟨rfl,rfl,rfl,rfl⟩) (pv 3)) rfl)))
   (zf (zq (i:=4) zgK.nd rfl (Or.inl rfl) zP)
   (zf (zM AF rfl (zkq (pv 1)) (zm (i:=2) zgK.nd rfl (Or.inl rfl))
    (zi (zaf (zy zlb (zan hu (pv 1) (pv 2) (fun _ _=>rfl)) zl (nomark _)) (zi (zQ hu (pv 4) (pv 2) (zan hu (pv 1) (pv 2) (fun _ _=>rfl)) rfl)) zA)))
   (zi (zt (pv 4)))))),?_⟩
  intro d hd;refine⟨_,rfl,l,rfl,⟨_,(Same.new hd).seq hl⟩,zK (K:=K) (a:=l) (xs:=ts.map V.ref) (fun i σ H2=>∃(v2 v3:Option V),σ=[some (.ref l),some (.ref d),v2,v3,none]/\Same H H2/\H2 d=some (.dT (kvC (sumsC (cs.take i)))))
   ⟨none,none,rfl,Same.new hd,upd_same⟩ (fun i σ H2 _ ⟨_,_,_,sm,_⟩=>sm.seq hl) ?_ ?_⟩
  ·rintro i x σ H2 hx ⟨v2,v3,rfl,sm,hd2⟩
   obtain⟨t,et,rfl⟩:=zE hx;obtain⟨c,ec,b,e1,e2⟩:=hp.get et;have e2':H2 b=some (.tup ((c.1.map Sum.inl:List Key).map kV)):=by rw[Ap]; exact sm.tp e2
   have hlen:(kvC (sumsC (cs.take i))).length<sizeLine:=by
    rw[zaB];have:=zfL (cs.take i);rw[AC] at this;exact zF (by omega)
   refine⟨t,_,rfl,SqT.of (sm _ _ e1),rfl,_,_,rfl,_,_,rfl,rfl,?_⟩;refine⟨_,rfl,d,rfl,.inr ⟨_,.inl hd2⟩,_,rfl,_,DGet.t (k:=c.1.map Sum.inl) hd2 e2',?_⟩;rw[zdN];refine⟨_,rfl,_,_,rfl,rfl,_,rfl,_,rfl,d,_,rfl,DPut.t (k:=c.1.map Sum.inl) hd2 e2' hlen,⟨_,_,rfl,sm.then hd,?_⟩⟩;rw[upd_same,zcY,AH ec,za4]
   rfl
  ·rintro σ H2 ⟨v2,v3,rfl,sm,hd2⟩
   rw[Ab,hts,take_all] at hd2;intro T hT;have hT0:H T=none:=sm.free hT;have hdT:d≠T:=zj hd2 hT;have hn:=zbh cs;have hsl:=zfL cs;unfold sumC at k;generalize sumsC cs=ss at hd2 hn hsl k;refine⟨_,rfl,d,kvC ss,rfl,.inl (by rw[zk hdT]; exact hd2),fun o H3 hd3 hoth=>zjB (fun i σ H4=>∃(v2:Option V),σ=[some (.ref l),some (.ref d),v2,v3,some (.ref T)]/\Same H H4/\H4 d=some (.frz o (.dT (kvC ss)))/\H4 T=some (.dT (kvC ((ss.take i).filter noZ))))
    ⟨_,rfl,fun b u e=>by rw[hoth b (zj e hd),zk (zj e hT0)]; exact sm _ _ e,hd3,by rw[hoth T (Ne.symm hdT)]; exact upd_same⟩ (fun i σ H4 _ ⟨_,_,_,h,_⟩=>h) ?_ ?_⟩
   ·rintro i kv b σ H4 ekv hb ⟨v2,rfl,sm4,hd4,hT4⟩
    have hi:i<ss.length:=by
     have:=(List.getElem?_eq_some_iff.mp ekv).1;rw[zaB] at this;exact this
    have ec:ss[i]?=some ss[i]:=Ai hi;obtain rfl:(((ss[i]).1.map Sum.inl:List Key),V.int (ss[i]).2)=kv:=by
     unfold kvC at ekv;rw[Al,ec] at ekv;exact Ao ekv
    have hmem:ss[i]∈ss:=List.getElem_mem hi;have hnew:(ss[i]).1∉ksC ((ss.take i).filter noZ):=fun z=>by
     obtain⟨c',hc',e'⟩:=List.mem_map.mp z;obtain⟨j,hj⟩:=List.getElem?_of_mem ((List.mem_filter.mp hc').1);have hj':j<i:=by
      have:=(List.getElem?_eq_some_iff.mp hj).1;rw[AC] at this;omega
     rw[List.getElem?_take_of_lt hj'] at hj;have h1:(ksC ss)[j]?=some (ss[i]).1:=by unfold ksC; rw[Al,hj]; exact congrArg some e'
     have h2:(ksC ss)[i]?=some (ss[i]).1:=by unfold ksC; rw[Al,ec]; rfl
     have hji:j<(ksC ss).length:=by rw[zcJ]; omega
     have:=(List.getElem?_inj hji hn).mp (h1.trans h2.symm);omega
    have hlen:(kvC ((ss.take i).filter noZ)).length<sizeLine:=by
     rw[zaB];have:=List.length_filter_le noZ (ss.take i);rw[AC] at this;exact zF (by omega)
    have g:DGet H4 d (.ref b) (some (.int (ss[i]).2)):=.inr ⟨kvC ss,(ss[i]).1.map Sum.inl,b,.inr ⟨o,hd4⟩,rfl,hb,(zb3 hn _ hmem).symm⟩;have hdT':T≠d:=Ne.symm hdT;refine⟨_,rfl,_,rfl,d,_,rfl,g,rfl,_,rfl,?_⟩;cases hz0:noZ ss[i] with
    | true=>
     have hz1:(!decide (V.int (ss[i]).2=V.int 0))=true:=hz0;rw[hz1];refine iteT ⟨_,rfl,_,rfl,d,_,rfl,g,_,rfl,_,rfl,T,_,rfl,DPut.t (k:=(ss[i]).1.map Sum.inl) hT4 hb hlen,⟨_,rfl,sm4.then hT0,by rw[zk hdT]; exact hd4,?_⟩⟩;rw[upd_same,zcY,zjo _ hnew,AH ec,A8,List.filter_cons_of_pos hz0]
     rfl
    | false=>
     have hz1:(!decide (V.int (ss[i]).2=V.int 0))=false:=hz0;rw[hz1];refine iteF ⟨_,rfl,sm4,hd4,?_⟩;rw[AH ec,A8,List.filter_cons_of_neg (by rw[hz0]; decide),List.filter_nil,List.append_nil];exact hT4
   ·rintro σ H4 ⟨v2,rfl,sm4,hd4,hT4⟩
    rw[zaB,take_all] at hT4;exact⟨_,rfl,k T H4 sm4 hT0 hT4⟩
end
theorem zac (c:List Int×Int) (r:Ch) (x:List Int):getC (c::r) x=if c.1=x then c.2 else getC r x:=by
 unfold getC;rw[List.find?_cons]
 by_cases e:c.1=x
 ·rw[decide_eq_true e,if_pos e]; rfl
 ·rw[decide_eq_false e,if_neg e]
theorem zbg:∀{cs:Ch}{x:List Int},x∉ksC cs->getC cs x=0
 | [],_,_=>rfl
 | c::r,x,h=>by
  rw[zac,if_neg (fun z=>h (by unfold ksC; rw[Av,z]; exact Am))];exact zbg fun z=>h (Ar _ z)
theorem zeO (q:List Int) (v:Int) (x:List Int):∀cs:Ch,getC (cs.map fun c=>if c.1=q then (c.1,v) else c) x=if x=q/\q∈ksC cs then v else getC cs x
 | []=>by simp[getC,ksC]
 | c::r=>by
  rw[Av,zac,zac,zeO q v x r];have hm:(q∈ksC (c::r)) ↔ (c.1=q \/ q∈ksC r):=by
   show q∈c.1::ksC r ↔ _;rw[List.mem_cons];constructor
   ·rintro (h | h)
    ·exact .inl h.symm
    ·exact .inr h
   ·rintro (h | h)
    ·exact .inl h.symm
    ·exact .inr h
  by_cases e:c.1=q
  ·rw[if_pos e]
   by_cases f:x=q
   ·subst f
    rw[if_pos e,if_pos ⟨rfl,hm.mpr (.inl e)⟩]
   ·rw[if_neg (fun z=>f (z.symm.trans e)),if_neg (fun z=>f z.1),if_neg (fun z=>f z.1),if_neg (fun z=>f (z.symm.trans e))]
  ·rw[if_neg e]
   by_cases f:c.1=x
   ·rw[if_pos f,if_pos f,if_neg (fun z=>e (f.trans z.1))]
   ·rw[if_neg f,if_neg f]
    by_cases g:x=q/\q∈ksC r
    ·rw[if_pos g,if_pos ⟨g.1,hm.mpr (.inr g.2)⟩]
    ·rw[if_neg g,if_neg (fun z=>g ⟨z.1,(hm.mp z.2).resolve_left e⟩)]
theorem zg2 (q:List Int) (v:Int) (x:List Int):∀cs:Ch,getC (cs++[(q,v)]) x=if x∈ksC cs then getC cs x else if q=x then v else 0
 | []=>by simp[getC,ksC]; split <;> rfl
 | c::r=>by
  rw[List.cons_append,zac,zac,zg2 q v x r]
  by_cases e:c.1=x
  ·rw[if_pos e,if_pos e,if_pos (by show x∈c.1::ksC r; rw[e]; exact Am)]
  ·rw[if_neg e,if_neg e]
   by_cases h:x∈ksC r
   ·rw[if_pos h,if_pos (show x∈ksC (c::r) from Ar _ h)]
   ·have hno:¬ x∈ksC (c::r):=fun z=>by
     rcases List.mem_cons.mp (show x∈c.1::ksC r from z) with z | z
     ·exact e z.symm
     ·exact h z
    rw[if_neg h,if_neg hno]
theorem zfi (cs:Ch) (q:List Int) (v:Int) (x:List Int):getC (putC cs q v) x=if x=q then v else getC cs x:=by
 unfold putC
 by_cases h:q∈ksC cs
 ·rw[if_pos h,zeO]
  by_cases e:x=q
  ·rw[if_pos ⟨e,h⟩,if_pos e]
  ·rw[if_neg (fun z=>e z.1),if_neg e]
 ·rw[if_neg h,zg2]
  by_cases e:x=q
  ·subst e
   rw[if_neg h,if_pos rfl,if_pos rfl]
  ·rw[if_neg e]
   by_cases g:x∈ksC cs
   ·rw[if_pos g]
   ·rw[if_neg g,if_neg (fun z=>e z.symm),zbg g]
def tot (ts:Ch) (x:List Int):Int:=(ts.map fun c=>if c.1=x then c.2 else 0).sum
theorem zfD (ts:Ch) (t:List Int×Int) (x:List Int):tot (ts++[t]) x=tot ts x+if t.1=x then t.2 else 0:=by
 unfold tot;rw[Ag,List.sum_append];simp
theorem zbV (ts:Ch) (t:List Int×Int) (x:List Int):tot (t::ts) x=(if t.1=x then t.2 else 0)+tot ts x:=by unfold tot; rw[Av,List.sum_cons]
theorem zhq (ts us:Ch) (x:List Int):tot (ts++us) x=tot ts x+tot us x:=by unfold tot; rw[Ag,List.sum_append]
theorem ziz (x:List Int) (ts:Ch):getC (sumsC ts) x=tot ts x:=zaE (P:=fun ts=>getC (sumsC ts) x=tot ts x) rfl (fun l t h=>by
 rw[za4,zfD];unfold addC;rw[zfi]
 by_cases e:x=t.1
 ·subst e
  rw[if_pos rfl,if_pos rfl,h]
 ·rw[if_neg e,if_neg (fun z=>e z.symm),h]; omega) ts
theorem zbZ (x:List Int):∀{cs:Ch},(ksC cs).Nodup->getC (cs.filter noZ) x=getC cs x
 | [],_=>rfl
 | c::r,h=>by
  have h':(c.1::ksC r).Nodup:=h;rw[List.nodup_cons] at h';have ih:=zbZ x h'.2;cases hz:noZ c with
  | true=>rw[List.filter_cons_of_pos hz,zac,zac,ih]
  | false=>
   have h0:c.2=0:=by
    have:(!decide (V.int c.2=V.int 0))=false:=hz;have:=of_decide_eq_true (by simpa using this:decide (V.int c.2=V.int 0)=true);injection this
   rw[List.filter_cons_of_neg (by rw[hz]; decide),zac,ih]
   by_cases e:c.1=x
   ·rw[if_pos e,h0]
    exact zbg (by rw[<- e]; exact h'.1)
   ·rw[if_neg e]
theorem zh2 (ts:Ch) (x:List Int):getC (sumC ts) x=tot ts x:=by unfold sumC; rw[zbZ x (zbh ts),ziz]
theorem zhg (ts:Ch):(ksC (sumC ts)).Nodup:=(zbh ts).sublist ((List.filter_sublist (p:=noZ) (l:=sumsC ts)).map _)
theorem zbC:∀{cs:Ch},(ksC cs).Nodup->∀c∈cs,getC cs c.1=c.2
 | [],_,c,h=>absurd h (by simp)
 | d::r,h,c,hc=>by
  have h':(d.1::ksC r).Nodup:=h;rw[List.nodup_cons] at h';rw[zac];rcases List.mem_cons.mp hc with e | hc'
  ·rw[e,if_pos rfl]
  ·rw[if_neg (fun z=>h'.1 (by rw[z]; exact List.mem_map.mpr ⟨c,hc',rfl⟩))]
   exact zbC h'.2 c hc'
theorem zmH {ts:Ch}{c:List Int×Int} (h:c∈sumC ts):c.2≠0/\tot ts c.1=c.2:=by
 refine⟨fun z=>?_,?_⟩
 ·have:=(List.mem_filter.mp h).2
  have:(!decide (V.int c.2=V.int 0))=true:=this;rw[z] at this;exact absurd this (by decide)
 ·rw[<- zh2]
  exact zbC (zhg ts) c h
theorem zl5 {ts:Ch}{x:List Int} (h:∀t∈ts,t.1≠x):tot ts x=0:=by
 induction ts with
 | nil=>rfl
 | cons t r ih=>rw[zbV,if_neg (h t Am),ih fun u hu=>h u (Ar _ hu)]; rfl
def zaC (ts:Ch):Ch:=ts.foldl (fun acc t=>putC acc t.1 t.2) []
theorem zgg:∀(ts acc:Ch),(kvC ts).foldl (fun acc kv=>putK acc kv.1 kv.2) (kvC acc)=kvC (ts.foldl (fun acc t=>putC acc t.1 t.2) acc)
 | [],_=>rfl
 | t::r,acc=>by
  show (kvC r).foldl _ (putK (kvC acc) (t.1.map Sum.inl) (.int t.2))=_;rw[zcY];exact zgg r _
theorem zev (ts:Ch):zhu (kvC ts)=kvC (zaC ts):=zgg ts []
theorem zfH (x:List Int) (ts:Ch):(ksC ts).Nodup->getC (zaC ts) x=tot ts x:=zaE (P:=fun ts=>(ksC ts).Nodup->getC (zaC ts) x=tot ts x) (fun _=>rfl) (fun l t ih h=>by
 have h':(ksC l++[t.1]).Nodup:=by
  have:ksC (l++[t])=ksC l++[t.1]:=by unfold ksC; rw[Ag]; rfl
  rw[<- this]; exact h
 rw[AL] at h';have e1:zaC (l++[t])=putC (zaC l) t.1 t.2:=by unfold zaC; rw[List.foldl_append]; rfl
 rw[e1,zfi,zfD,ih h'.1]
 by_cases e:x=t.1
 ·rw[if_pos e,if_pos e.symm,zl5 fun u hu z=>h'.2.2 u.1 (List.mem_map.mpr ⟨u,hu,rfl⟩) t.1 (by simp) (z.trans e)]
  omega
 ·rw[if_neg e,if_neg (fun z=>e z.symm)]; omega) ts
theorem zbk {ps:List Int} (h:ps.Nodup):(rims ps).Nodup:=by
 unfold rims;split
 ·exact List.nodup_nil
 ·have key:∀j k,j<k->k<ps.length->ps.take j++ps.drop (j+1)≠ps.take k++ps.drop (k+1):=by
   intro j k hjk hk e;have e1:(ps.take j++ps.drop (j+1))[j]?=(ps.take k++ps.drop (k+1))[j]?:=by rw[e]
   rw[List.getElem?_append_right (by rw[AC]; omega),List.getElem?_append_left (by rw[AC]; omega),List.getElem?_take_of_lt hjk,List.getElem?_drop,AC,Nat.min_eq_left (by omega)] at e1;rw[show j+1+(j - j)=j+1 by omega] at e1;have:=(List.getElem?_inj (by omega) h).mp e1;omega
  unfold List.Nodup;rw[List.pairwise_map];refine (List.nodup_range (n:=ps.length)).imp_of_mem fun {a b} ha hb hne e=>?_;rw[List.mem_range] at ha hb;rcases Nat.lt_or_gt_of_ne hne with z | z
  ·exact key a b z hb e
  ·exact key b a z ha e.symm
theorem zcu (ps:List Int) (n:Int):ksC (stm ps n)=rims ps:=by
 unfold ksC stm;rw[Ap];exact List.zipIdx_map_fst 0 (rims ps)
theorem zj6 {H:Hp}{ts:List Addr}{cs:Ch} (h:Prs H ts cs):Paired (fun t (kv:List Key×V)=>∃b,H t=some (.tup [.ref b,kv.2])/\H b=some (.tup (kv.1.map kV))) ts (kvC cs):=by
 unfold kvC
 induction h with
 | nil=>exact .nil
 | cons r t ih=>
  obtain⟨b,e1,e2⟩:=r;exact .cons ⟨b,e1,z0 e2⟩ ih
theorem putC_at {cs:Ch}{ps:List Int}{n:Int}{c:List Int×Int} (h:c∈putC cs ps n):c∈cs \/ c=(ps,n):=by
 unfold putC at h;split at h
 ·obtain⟨d,hd,e⟩:=List.mem_map.mp h
  by_cases z:d.1=ps
  ·rw[if_pos z] at e; exact .inr (by rw[<- e,z])
  ·rw[if_neg z] at e; exact .inl (e ▸ hd)
 ·rcases List.mem_append.mp h with h | h
  ·exact .inl h
  ·exact .inr (List.mem_singleton.mp h)
theorem zf4 {cs:Ch}{q ps:List Int}{n:Int} (h:q∈ksC cs \/ q=ps):q∈ksC (putC cs ps n):=by
 rw[zcN]
 by_cases e:ps∈ksC cs
 ·rw[if_pos e]; exact h.elim id fun z=>z ▸ e
 ·rw[if_neg e,List.mem_append,List.mem_singleton]; exact h
theorem zgd {P:Int->Prop} (ts:Ch):(∀t∈ts,P t.2)->(∀c∈zaC ts,P c.2)/\∀t∈ts,t.1∈ksC (zaC ts):=zaE (P:=fun ts=>(∀t∈ts,P t.2)->(∀c∈zaC ts,P c.2)/\∀t∈ts,t.1∈ksC (zaC ts)) (fun _=>⟨fun c hc=>(by cases hc),fun t ht=>(by cases ht)⟩) (fun l x ih h=>by
 obtain⟨h1,h2⟩:=ih fun t ht=>h t (AI _ ht);have e:zaC (l++[x])=putC (zaC l) x.1 x.2:=by unfold zaC; rw[List.foldl_append]; rfl
 rw[e];refine⟨fun c hc=>?_,fun t ht=>?_⟩
 ·rcases putC_at hc with hc | rfl
  ·exact h1 c hc
  ·exact h x (by simp)
 ·rcases List.mem_append.mp ht with ht | ht
  ·exact zf4 (.inl (h2 t ht))
  ·exact zf4 (.inr (by rw[List.mem_singleton.mp ht]))) ts
theorem zhZ:∀{cs:Ch}{q:List Int},q∈ksC cs->∃c∈cs,c.1=q/\valV (kvC cs) (q.map Sum.inl)=some (.int c.2)
 | [],q,h=>by cases h
 | d::cs,q,h=>by
  by_cases e:d.1=q
  ·exact⟨d,Am,e,by unfold kvC; rw[Av,zU (by show d.1.map Sum.inl=_; rw[e])]⟩
  ·have h':q∈ksC cs:=by
    rcases List.mem_cons.mp (show q∈d.1::ksC cs from h) with z | z
    ·exact absurd z.symm e
    ·exact z
   obtain⟨c,hc,ec,ev⟩:=zhZ h';exact⟨c,Ar _ hc,ec,by
    unfold kvC;rw[Av,zO (by show ¬ d.1.map Sum.inl=_; exact fun z=>e (zai.mp z))];exact ev⟩
theorem ziN {ts:Ch}{q:List Int} (h:q∈ksC (sumC ts)):∃t∈ts,t.1=q:=by
 have h1:q∈ksC (sumsC ts):=by
  obtain⟨c,hc,e⟩:=List.mem_map.mp h;exact List.mem_map.mpr ⟨c,(List.mem_filter.mp hc).1,e⟩
 exact zaE (P:=fun ts=>q∈ksC (sumsC ts)->∃t∈ts,t.1=q) (fun h=>by cases h) (fun l x ih h=>by
  rw[za4] at h;rcases putC_mem h with h | h
  ·obtain⟨t,ht,e⟩:=ih h
   exact⟨t,AI _ ht,e⟩
  ·exact⟨x,by simp,h.symm⟩) ts h1
theorem zke (ts:Ch):(ksC (sumC ts)).Nodup:=by
 unfold sumC ksC;exact (zbh ts).sublist (List.filter_sublist.map _)
theorem zeP {p:List Int}{n:Int}{t:List Int×Int} (h:t∈stm p n):t.1∈rims p/\(t.2=n \/ t.2=-n):=by
 unfold stm at h;obtain⟨q,hq,rfl⟩:=List.mem_map.mp h;refine⟨(List.mem_zipIdx' hq).2 ▸ List.getElem_mem _,?_⟩;show sg q.2 n=n \/ sg q.2 n=-n;unfold sg;split
 ·exact .inl rfl
 ·exact .inr rfl
theorem zkU {p r:List Int}{n:Int} (h:r∈rims p):∃t∈stm p n,t.1=r:=by
 obtain⟨i,hi⟩:=List.getElem?_of_mem h;refine⟨(r,sg i n),Ak (i:=i) ?_,rfl⟩;unfold stm;rw[Al,List.getElem?_zipIdx,hi];simp
end K48
end
section
namespace K48
open K1
open PySem L2 STb
def sg1 (p r:List Int):Int:=tot (stm p 1) r
def wt (x:Pq) (r:List Int):Int:=-(sg1 x.2 r)*sg1 x.2 x.1
def trn:Nat->List Pq->List Pq
 | 0,l=>l
 | n+1,l=>trim (trn n l)
theorem zhn {l:List Pq} (a:Acy l):∀n,Acy (trn n l)
 | 0=>a
 | n+1=>zjj.mpr (zhn a n)
theorem zgV {l:List Pq} (a:Acy l):∀n,(trn n l).length<=l.length - n
 | 0=>Af _
 | n+1=>by
  have ih:=zgV a n;have h1:(trim (trn n l)).length<=(trn n l).length:=List.length_filter_le _ _
  by_cases h:(trim (trn n l)).length=(trn n l).length
  ·have e:=(zkM h).mpr (zhn a n)
   show (trim (trn n l)).length<=_;rw[h,e];exact AO _
  ·show (trim (trn n l)).length<=_
   omega
theorem zjz {l:List Pq}{x y:Pq}{n:Nat} (hx:x∈l) (hy:y∈trn n l) (h:stp x y=true):∀k,k<=n+1->x∈trn k l/\(k<=n->y∈trn k l):=by
 have mono:∀k m,k<=m->∀z,z∈trn m l->z∈trn k l:=fun k m hk=>by
  induction m with
  | zero=>
   intro z hz;have:k=0:=by omega
   subst this;exact hz
  | succ m ih=>
   intro z hz
   by_cases e:k=m+1
   ·subst e; exact hz
   ·exact ih (by omega) z (zbl.mp hz).1
 intro k
 induction k with
 | zero=>exact fun _=>⟨hx,fun _=>mono 0 n (AO _) y hy⟩
 | succ k ih=>
  intro hk;obtain⟨h1,h2⟩:=ih (by omega);exact⟨zbl.mpr ⟨h1,y,h2 (by omega),h⟩,fun hk'=>mono (k+1) n hk' y hy⟩
def Dp (ps:List Pq) (n:Nat) (q:List Int):Prop:=∀x∈trn n ps,x.1≠q
theorem zj9 {ps:List Pq} (a:Acy ps) (q:List Int):Dp ps ps.length q:=fun x hx=>by
 have:=zgV a ps.length;rw[Nat.sub_self] at this;rw[List.eq_nil_of_length_eq_zero (Nat.le_zero.mp this)] at hx;cases hx
theorem zjY {ps:List Pq}{n:Nat}{x:Pq} (hx:x∈ps) (h:Dp ps (n+1) x.1) {r:List Int} (hr:r∈oth x):Dp ps n r:=fun y hy e=>by
 obtain⟨h1,h2⟩:=zb2.mp hr;have hs:stp x y=true:=zcU.mpr ⟨by rw[e]; exact h2,by rw[e]; exact h1⟩;exact h x (zjz hx hy hs (n+1) (Af _)).1 rfl
theorem zfg {α β:Type}{f:α->β}:∀{l:List α},(l.map f).Nodup->∀{x y:α},x∈l->y∈l->f x=f y->x=y
 | [],_,x,_,hx,_,_=>by cases hx
 | a::l,h,x,y,hx,hy,e=>by
  rw[Av,List.nodup_cons] at h;rcases List.mem_cons.mp hx with h1 | h1 <;> rcases List.mem_cons.mp hy with h2 | h2
  ·rw[h1,h2]
  ·exact absurd (List.mem_map.mpr ⟨y,h2,by rw[<- e,h1]⟩) h.1
  ·exact absurd (List.mem_map.mpr ⟨x,h1,by rw[e,h2]⟩) h.1
  ·exact zfg h.2 h1 h2 e
def fnd (ps:List Pq) (q:List Int):Option Pq:=ps.find? fun x=>decide (x.1=q)
theorem zja {ps:List Pq} (nd:(ps.map (·.1)).Nodup) {x:Pq} (hx:x∈ps):fnd ps x.1=some x:=by
 unfold fnd;cases e:ps.find? fun y=>decide (y.1=x.1) with
 | none=>exact absurd (decide_eq_true rfl) (List.find?_eq_none.mp e x hx)
 | some y=>rw[zfg nd (List.mem_of_find?_eq_some e) hx (by have:=List.find?_some e; simpa using this)]
theorem zdi {ps:List Pq}{q:List Int} (h:∀x∈ps,x.1≠q):fnd ps q=none:=List.find?_eq_none.mpr fun x hx=>by simpa using h x hx
theorem zle {ps:List Pq}{q:List Int}{x:Pq} (h:fnd ps q=some x):x∈ps/\x.1=q:=⟨List.mem_of_find?_eq_some h,by have:=List.find?_some h; simpa using this⟩
def Rf (left:List (List Int)) (ps:List Pq):Nat->List Int->List Int->Int
 | 0,q,e=>if q∈left/\q=e then 1 else 0
 | n+1,q,e=>match fnd ps q with
  | some x=>((oth x).map fun r=>wt x r*Rf left ps n r e).sum
  | none=>if q∈left/\q=e then 1 else 0
theorem zea {left:List (List Int)}{ps:List Pq} (e:List Int):∀(n:Nat) (q:List Int),Dp ps n q->∀m k,n<=m->n<=k->Rf left ps m q e=Rf left ps k q e
 | 0,q,h,m,k,_,_=>by
  have hn:fnd ps q=none:=zdi h;have go:∀m,Rf left ps m q e=if q∈left/\q=e then 1 else 0:=fun m=>by
   cases m with
   | zero=>rfl
   | succ m=>rw[Rf,hn]
  rw[go,go]
 | n+1,q,h,m,k,hm,hk=>by
  obtain⟨m,rfl⟩:∃m',m=m'+1:=⟨m - 1,by omega⟩;obtain⟨k,rfl⟩:∃k',k=k'+1:=⟨k - 1,by omega⟩;rw[Rf,Rf];cases hf:fnd ps q with
  | none=>rfl
  | some x=>
   obtain⟨hx,rfl⟩:=zle hf;show ((oth x).map fun r=>wt x r*Rf left ps m r e).sum=((oth x).map fun r=>wt x r*Rf left ps k r e).sum
   congr 1
   exact A6 fun r hr=>by rw[zea e n r (zjY hx h hr) m k (by omega) (by omega)]
theorem zbE:∀ps:List Pq,(stds ps).Perm (ps.map (·.1)++ps.map (·.2))
 | []=>.nil
 | x::ps=>by
  have h:=((zbE ps).cons x.2).cons x.1;exact h.trans (List.Perm.cons _ (List.perm_middle.symm))
structure IsR (left:List (List Int)) (ps:List Pq) (R:List Int->List Int->Int):Prop where
 lf:∀q∈left,∀e,R q e=if q=e then 1 else 0
 sn:∀x∈ps,∀e,R x.2 e=0
 fs:∀x∈ps,∀e,R x.1 e=((oth x).map fun r=>wt x r*R r e).sum
theorem zmx {kn left:List (List Int)}{ps:List Pq} (pg:PG kn ps) (hl:∀p,p∈left ↔ p∈kn/\p∉stds ps):∃R,IsR left ps R:=by
 have nd:=zc7 pg.nd;have hnd:=(zbE ps).nodup_iff.mp pg.nd;rw[AL] at hnd;have st:∀q e,Rf left ps ps.length q e=Rf left ps (ps.length+1) q e:=fun q e=>zea e ps.length q (zj9 pg.ac q) _ _ (Af _) (Nat.le_succ _);refine⟨Rf left ps ps.length,fun q hq e=>?_,fun x hx e=>?_,fun x hx e=>?_⟩
 ·have hn:fnd ps q=none:=zdi fun x hx z=>((hl q).mp hq).2 (z ▸ (zbJ hx).1)
  rw[st,Rf,hn];show (if q∈left/\q=e then (1:Int) else 0)=_;simp[hq]
 ·have hn:fnd ps x.2=none:=zdi fun y hy z=>hnd.2.2 y.1 (List.mem_map.mpr ⟨y,hy,rfl⟩) x.2 (List.mem_map.mpr ⟨x,hx,rfl⟩) z
  rw[st,Rf,hn];show (if x.2∈left/\x.2=e then (1:Int) else 0)=0;rw[if_neg fun z=>((hl x.2).mp z.1).2 (zbJ hx).2]
 ·rw[st,Rf,zja nd hx]
theorem zaH {c:Ch} (h:(ksC c).Nodup) (x:List Int):tot c x=getC c x:=by
 have:∀{c:Ch},(ksC c).Nodup->tot c x=getC c x:=by
  intro c
  induction c with
  | nil=>intro _; rfl
  | cons a r ih=>
   intro h;have h':a.1∉ksC r/\(ksC r).Nodup:=List.nodup_cons.mp h;rw[zbV,zac,ih h'.2]
   by_cases e:a.1=x
   ·rw[if_pos e,if_pos e,zbg (by rw[<- e]; exact h'.1)]; simp
   ·rw[if_neg e,if_neg e]; simp
 exact this h
theorem zbM (n:Int) (x:List Int):∀c:Ch,tot (c.map fun t=>(t.1,n*t.2)) x=n*tot c x
 | []=>by simp[tot]
 | a::r=>by
  rw[Av,zbV,zbV,zbM n x r,Int.mul_add]
  by_cases e:a.1=x
  ·simp[e]
  ·simp[e]
theorem zgO {c d:Ch} (hc:(ksC c).Nodup) (hd:(ksC d).Nodup) (zc:∀t∈c,t.2≠0) (zd:∀t∈d,t.2≠0) (h:∀x,tot c x=tot d x):c.Perm d:=by
 have nd:∀{c:Ch},(ksC c).Nodup->c.Nodup:=fun {c} h=>by
  unfold ksC at h;unfold List.Nodup at h ⊢;rw[List.pairwise_map] at h;exact h.imp fun {x y} h e=>h (by rw[e])
 have go:∀{c d:Ch},(ksC c).Nodup->(ksC d).Nodup->(∀t∈c,t.2≠0)->(∀x,tot c x=tot d x)->∀t∈c,t∈d:=fun {c d} hc hd zc h t ht=>by
  have h1:=h t.1;rw[zaH hc,zaH hd,zbC hc t ht] at h1;have hk:t.1∈ksC d:=Classical.byContradiction fun z=>zc t ht (by rw[h1]; exact zbg z);obtain⟨u,hu,e⟩:=List.mem_map.mp hk;have h2:=zbC hd u hu;have h2':getC d t.1=u.2:=by rw[<- e]; exact h2
  have:t=u:=Prod.ext e.symm (h1.trans h2');rw[this]; exact hu
 exact (List.perm_ext_iff_of_nodup (nd hc) (nd hd)).mpr fun t=>⟨go hc hd zc h t,go hd hc zd (fun x=>(h x).symm) t⟩
end K48
end
section
namespace K48
open K1
open PySem L2 STb
abbrev sBr:Stmt:=top 35
abbrev nmBr:List Str:=["terms","ends","told","rim","often"]
abbrev En:Type:=List Int×Ch
def EndR (H:Hp) (kv:List Key×V) (x:En):Prop:=kv.1=x.1.map Sum.inl/\∃b o,kv.2=.ref b/\H b=some (.frz o (.dT (kvC x.2)))
def Ends (H:Hp) (d:Addr) (es:List En):Prop:=∃kvs,H d=some (.dT kvs)/\Paired (EndR H) kvs es
theorem Ends.same {H H':Hp}{d:Addr}{es:List En} (h:Ends H d es) (s:Same H H'):Ends H' d es:=let ⟨kvs,e,p⟩:=h; ⟨kvs,s _ _ e,Paired.mapP p fun _ _ ⟨h1,b,o,h2,h3⟩=>⟨h1,b,o,h2,s _ _ h3⟩⟩
theorem Ends.upd {H:Hp}{d e:Addr}{es:List En}{o o':HO} (h:Ends H d es) (he:H e=some o') (hn:∀p q,o'≠.frz p q) (hd:d≠e):Ends (L2.upd H e o) d es:=let ⟨kvs,e1,p⟩:=h; ⟨kvs,by rw[zk hd]; exact e1,Paired.mapP p fun _ _ ⟨h1,b,ob,h2,h3⟩=>⟨h1,b,ob,h2,by
 rw[zk (fun z=>by subst z; rw[he] at h3; cases h3; exact hn _ _ rfl)]; exact h3⟩⟩
theorem end_val {H:Hp}:∀{kvs:List (List Key×V)}{es:List En},Paired (EndR H) kvs es->∀p:List Int,(valV kvs (p.map Sum.inl)=none/\p∉es.map (·.1)) \/ ∃b o c,valV kvs (p.map Sum.inl)=some (.ref b)/\(p,c)∈es/\H b=some (.frz o (.dT (kvC c)))
 | _,_,.nil,p=>.inl ⟨rfl,by simp⟩
 | kv::kvs,x::es,.cons ⟨h1,b,o,h2,h3⟩ t,p=>by
  by_cases e:x.1=p
  ·refine .inr ⟨b,o,x.2,?_,?_,h3⟩
   ·rw[zU (by rw[h1,e]),h2]
   ·rw[<- e]; exact Am
  ·have hne:¬ kv.1=p.map Sum.inl:=fun z=>e (zai.mp (h1.symm.trans z))
   rcases end_val t p with ⟨g1,g2⟩ | ⟨b',o',c,g1,g2,g3⟩
   ·refine .inl ⟨by rw[zO hne]; exact g1,?_⟩
    rw[Av,List.mem_cons];rintro (z | z)
    ·exact e z.symm
    ·exact g2 z
   ·exact .inr ⟨b',o',c,by rw[zO hne]; exact g1,Ar _ g2,g3⟩
theorem zkX {H:Hp}{kvs:List (List Key×V)}{es:List En} (h:Paired (EndR H) kvs es) {x:En}{b:Addr}{o:Obj} (hx:x.1∉es.map (·.1)) (hb:H b=some (.frz o (.dT (kvC x.2)))):∃kvs',putK kvs (x.1.map Sum.inl) (.ref b)=kvs'/\Paired (EndR H) kvs' (es++[x]):=by
 have hv:valV kvs (x.1.map Sum.inl)=none:=by
  rcases end_val h x.1 with ⟨g,_⟩ | ⟨b',o',q,_,g2,_⟩
  ·exact g
  ·exact absurd (List.mem_map.mpr ⟨_,g2,rfl⟩) hx
 refine⟨_,zcs _ hv,?_⟩;have ap:∀{kvs:List (List Key×V)} {ps:List En},Paired (EndR H) kvs ps->Paired (EndR H) (kvs++[(x.1.map Sum.inl,.ref b)]) (ps++[x]):=fun {kvs ps} h=>by
  induction h with
  | nil=>exact .cons ⟨rfl,b,o,rfl,hb⟩ .nil
  | cons r t ih=>exact .cons r ih
 exact ap h
theorem zmy {cs:Ch}{i:Nat}{kv:List Key×V} (h:(kvC cs)[i]?=some kv):∃c,cs[i]?=some c/\kv=((c.1.map Sum.inl:List Key),V.int c.2):=by
 unfold kvC at h;rw[Al] at h;cases e:cs[i]? with
 | none=>rw[e] at h; cases h
 | some c=>rw[e] at h; exact⟨c,rfl,(Ao h).symm⟩
theorem zl8 {H:Hp}{b:Addr}{ps:List Int} (h:H b=some (.tup ((ps.map Sum.inl:List Key).map kV))):Tp H b ps:=by rw[Ap] at h; exact h
def Ok (l:List (List Int)) (R:List Int->List Int->Int) (es:List En):Prop:=∀x∈es,x.2.length<=200/\(∀k∈ksC x.2,k∈l)/\∀e,tot x.2 e=R x.1 e
abbrev tOft:TE:=tTup (zW (tVar 0) (zW (tOp (rI CMul fun i j=>.int (i*j)) (tVar 2) (tVar 1)) tNil))
section
variable {P:Program}{w:World}{K:Ad}{mg:Str->Option Value}{base:Heap}
theorem zjM {H2:Hp}{d D:Addr}{o:Obj}{cs:Ch}{n:Int}{Q:VK} (hd:H2 d=some (.frz o (.dT (kvC cs)))) (hz:cs.length<=1000) (hn:n=1 \/ n=-1) (hD:H2 D=none)
  (k:∀(H3:Hp) (ts:List Addr),Same H2 H3->H3 D=some (.lst (ts.map V.ref))->Prs H3 ts (cs.map fun c=>(c.1,n*c.2))->Q (.ref D) H3) :
  zaj (Itp d o (kvC cs)) (gTup K 2 (zcP (zX 0) (zcP (zX 1) gNil))) tYes tOft [none,none,some (.int n)] H2 D Q:=by
 refine zbx cs.length (fun j σ ys H3=>∃(v0 v1:Option V) (ts:List Addr),σ=[v0,v1,some (.int n)]/\Same H2 H3/\H3 D=some (.lst ys)/\ys=ts.map V.ref/\Prs H3 ts ((cs.map fun c=>(c.1,n*c.2)).take j)) ?_ ?_ ?_ ?_ ?_
 ·exact⟨none,none,[],rfl,Same.new hD,upd_same,rfl,.nil⟩
 ·rintro σ ys H3 ⟨v0,v1,ts,rfl,sm,hD3,rfl,hp⟩
  exact⟨by rw[zaB],sm _ _ hd⟩
 ·rintro i σ ys H3 hi ⟨v0,v1,ts,rfl,sm,hD3,rfl,hp⟩
  exact⟨by rw[zaB]; exact hi,sm _ _ hd⟩
 ·rintro i σ ys H3 x H' hi hy ⟨v0,v1,ts,rfl,sm,hD3,rfl,hp⟩ ⟨p,kv,b,ekv,rfl,hpn,hb,rfl⟩
  obtain⟨c,ec,rfl⟩:=zmy ekv;have s1:=Same.new (o:=.tup [.ref b,.int c.2]) hpn;have e:(cs.map fun c=>(c.1,n*c.2))[i]?=some (c.1,n*c.2):=by rw[Al,ec]; rfl
  have hnl:cs.length<=sizeLine:=line_big (by omega);refine⟨p,_,rfl,SqT.of upd_same,rfl,_,_,rfl,_,_,rfl,rfl,yes_ ?_⟩;refine⟨_,rfl,_,rfl,_,rfl,_,_,rfl,rfl,.inl (by rcases hn with rfl | rfl <;> decide),line_big (by simp),fun t htn=>?_⟩;have s2:=s1.trans (Same.new (o:=.tup [.ref b,.int (n*c.2)]) htn);have hD5:=s2 _ _ hD3;refine cput hnl hi hy hD5 ⟨_,_,ts++[t],rfl,(sm.trans s2).then hD,upd_same,by rw[Ag]; rfl,?_⟩;rw[AH e];exact Prs.upd (Prs.snoc (hp.same s2) ⟨b,upd_same,s2.tp (zl8 hb)⟩) hD5 (by intro xs z; cases z)
 ·rintro σ ys H3 ⟨v0,v1,ts,rfl,sm,hD3,rfl,hp⟩
  rw[An (by rw[Ab]; exact Af _)] at hp;exact k H3 ts sm hD3 hp
def spBr (K:Ad):Sp:=fun vs H Q _=>∃l d ts cs es L R,vs=[.ref l,.ref d]/\SqL K H l (ts.map V.ref)/\Prs H ts cs/\Ends H d es/\(∀c∈cs,c.1∈es.map (·.1)/\(c.2=1 \/ c.2=-1))/\cs.length<=5/\Ok L R es/\
 ∀D H' c,Same H H'->H D=none->H' D=some (.dT (kvC c))->(ksC c).Nodup->(∀k∈ksC c,k∈L)->(∀t∈c,t.2≠0)->(∀e,tot c e=(cs.map fun t=>t.2*R t.1 e).sum)->Q (.ref D) H'
theorem scBr:zu nmBr ["terms","ends"] (zh sBr):=⟨rfl,rfl,rfl,by decide +kernel,rfl,by decide +kernel,by decide +kernel⟩
theorem zmX {f fs:Addr}{fd fds:FuncData} (F:Fun K "brought_to_ends" "brought_to_ends" sBr f fd)
  (Fs:Fun K "sum_of" "sum_of" sSum fs fds) (bs:Binds K fds ["terms"] []) (ms:mg "sum_of"=some (.ref fs)):FnOk P w K mg base CX0 2 f fd ["terms","ends"] (spBr K):=by
 have Gs:FnOk P w K mg base CX0 1 fs fds ["terms"] (zmE K):=zl2 Fs;refine F.ok scBr (fun vs H Q E h=>?_) (fun cdv A outer s H vs Q E hr h=>?_)
 ·obtain⟨l,d,ts,cs,es,L,R,rfl,_⟩:=h; rfl
 ·obtain⟨l,d,ts,cs,es,L,R,rfl,hl,hp,he,hc,h5,hok,k⟩:=h
  have hu:=zbo hr;refine⟨_,zf (zq (i:=2) scBr.nd rfl (Or.inl rfl) (zY zg))
   (zf (zM AF rfl (zw (pv 0)) (zdc rfl (zah (zm (i:=3) scBr.nd rfl (Or.inl rfl)) (zah (zm (i:=4) scBr.nd rfl (Or.inr rfl)) zbY)))
    (zi (zaz (zci AU PySem.F.slot_list_extend PySem.F.type_list_extend zek (pv 2) (ze
     (zx nmBr ["piece","worth","often"] [none,none,some 4] (zjc (zhe (zan hu (pv 1) (pv 3) (fun _ _=>rfl))))
      (fun cl C s₀ H₀ ex=>zdc rfl (zah (zm (i:=0) (ndN ["piece","worth","often"]) rfl (Or.inl rfl)) (zah (zm (i:=1) (ndN ["piece","worth","often"]) rfl (Or.inl rfl)) zbY)))
      (fun cl C s₀ H₀ ex=>zN) (fun cl C s₀ H₀ ex=>zak (ze (pv 0) (ze (zH za1 (pv 2) (pv 1)) zg)))
      (hfr:=frOf (zh sBr) (by decide +kernel)) (g:=gTup K 2 (zcP (zX 0) (zcP (zX 1) gNil))) (te:=tOft)) zg)))))
   (zi (zt (zn Gs hr rfl ms Fs.kp bs .nil pass0 (ze (pv 2) zg))))),?_⟩
  refine⟨line_big (by simp),fun T hT=>?_⟩;have sT:=Same.new (o:=.lst []) hT;have hpl:=hp.length;refine⟨_,rfl,l,rfl,⟨_,sT.seq hl⟩,zK (K:=K) (a:=l) (xs:=ts.map V.ref) (fun i σ H4=>∃(v3 v4:Option V) (us:List Addr) (tc:Ch),σ=[some (.ref l),some (.ref d),some (.ref T),v3,v4]/\Same H H4/\H4 T=some (.lst (us.map V.ref))/\Prs H4 us tc/\tc.length<=200*i/\(∀t∈tc,t.1∈L)/\∀e,tot tc e=((cs.take i).map fun t=>t.2*R t.1 e).sum)
   ⟨none,none,[],[],rfl,sT,upd_same,.nil,by simp,(fun t ht=>(by cases ht)),fun e=>rfl⟩ (fun i σ H4 _ ⟨_,_,_,_,_,sm,_⟩=>sm.seq hl) ?_ ?_⟩
  ·rintro i v σ H4 hv ⟨v3,v4,us,tc,rfl,sm,hT4,hp4,hz4,hL4,hR4⟩
   obtain⟨t,et,rfl⟩:=zE hv;obtain⟨c,ec,b,e1,e2⟩:=hp.get et;have hi:i<cs.length:=(List.getElem?_eq_some_iff.mp ec).1;obtain⟨hc1,hc2⟩:=hc c (Ak ec);obtain⟨kvs,hd4,hen⟩:=he.same sm;rcases end_val hen c.1 with ⟨_,g⟩ | ⟨q,o,x,g1,g2,g3⟩
   ·exact absurd hc1 g
   have hx:=hok _ g2;have hx1:x.length<=200:=hx.1;refine⟨t,_,rfl,SqT.of (sm _ _ e1),rfl,_,_,rfl,_,_,rfl,rfl,?_⟩;refine⟨_,rfl,.inl ⟨rfl,_,SqL.of hT4⟩,_,rfl,_,rfl,d,_,rfl,.inr ⟨kvs,c.1.map Sum.inl,b,.inl hd4,rfl,z0 (sm.tp e2),g1.symm⟩,q,kvC x,rfl,rfl,.inr ⟨o,g3⟩,fun v hv=>?_⟩;have s5:=Same.new (o:=itO v q) hv;refine⟨v,q,o,kvC x,rfl,upd_same,s5 _ _ g3,fun D hD=>zG (zjM (s5 _ _ g3) (by omega) hc2 hD fun H6 ws s6 hD6 hp6=>?_)⟩;have s46:=s5.trans s6;have hlu:=hp4.length;have hlw:=hp6.length;rw[Ab] at hlw;refine⟨T,D,_,_,rfl,rfl,s46 _ _ hT4,hD6,by rw[Ab,Ab]; exact line_big (by omega),⟨_,_,us++ws,tc++x.map fun y=>(y.1,c.2*y.2),rfl,(sm.trans s46).then hT,by rw[upd_same,Ag],?_,?_,?_,fun e=>?_⟩⟩
   ·exact Prs.upd ((hp4.same s46).append hp6) (s46 _ _ hT4) (by intro xs z; cases z)
   ·rw[Ah,Ab]; omega
   ·intro y hy
    rcases List.mem_append.mp hy with hy | hy
    ·exact hL4 y hy
    ·obtain⟨z,hz,rfl⟩:=List.mem_map.mp hy
     exact hx.2.1 _ (List.mem_map.mpr ⟨z,hz,rfl⟩)
   ·rw[zhq,zbM,hR4,hx.2.2 e,AH ec,Ag,List.sum_append]
    simp
  ·rintro σ H4 ⟨v3,v4,us,tc,rfl,sm,hT4,hp4,hz4,hL4,hR4⟩
   rw[Ab,hpl] at hz4 hR4;rw[An (Af _)] at hR4;refine⟨_,rfl,T,us,tc,rfl,SqL.of hT4,hp4,by omega,fun D H5 s5 hD0 hD5=>k D H5 _ (sm.trans s5) (sm.free hD0) hD5 (zke _) (fun q hq=>?_) (fun t ht=>(zmH ht).1) fun e=>?_⟩
   ·obtain⟨t,ht,rfl⟩:=ziN hq
    exact hL4 t ht
   ·rw[zaH (zke _),zh2,hR4]
end
end K48
end
section
namespace K48
open K1
open PySem L2 STb
abbrev zeB:Stmt:=top 34
theorem zdH:AS "dict"=some (.type "dict"):=by decide +kernel
theorem zdJ (ts:Ch):(ksC (zaC ts)).Nodup:=zaE (P:=fun ts=>(ksC (zaC ts)).Nodup) List.nodup_nil (fun l x h=>by
 have e:zaC (l++[x])=putC (zaC l) x.1 x.2:=by unfold zaC; rw[List.foldl_append]; rfl
 rw[e];exact zb4 _ _ h) ts
theorem zkx {p:List Int} (h:p.Nodup):∀c∈zaC (stm p 1),c.2=sg1 p c.1:=fun c hc=>by
 rw[<- zbC (zdJ _) c hc,zfH c.1 (stm p 1) (by rw[zcu]; exact zbk h)]
 rfl
abbrev tStT (K:Ad):TE:=tTup (zW (tVar 0) (zW (tOp (rI CMul fun i j=>.int (i*j)) (tUn (rU fun i=>.int (-i)) (zeN (tVar 1) (tVar 0))) (zeN (tVar 1) (tOp (rIxT K) (tVar 2) (tC (.int 0))))) tNil))
section
variable {P:Program}{w:World}{K:Ad}{mg:Str->Option Value}{base:Heap}
theorem zht {H2:Hp}{L D W t:Addr}{as:List Addr}{rs:List (List Int)}{x:Pq}{wc:Ch}{Q:VK} (hl:H2 L=some (.lst (as.map V.ref))) (ht:Tps H2 as rs) (hz:rs.length<=1000) (hx:Pr2 H2 t x) (hW:H2 W=some (.dT (kvC wc)))
  (hr:∀r∈rs,r∈ksC wc) (h0:x.1∈ksC wc) (hw:∀c∈wc,c.2=1 \/ c.2=-1) (hsg:∀c∈wc,c.2=sg1 x.2 c.1) (hD:H2 D=none)
  (k:∀(H3:Hp) (ts:List Addr) (cs:Ch),Same H2 H3->H3 D=some (.lst (ts.map V.ref))->Prs H3 ts cs->cs=(rs.map fun r=>(r,wt x r))->(∀c∈cs,c.2=1 \/ c.2=-1)->Q (.ref D) H3) :
  zaj (Itl K L) (zX 0) tYes (tStT K) [none,some (.ref W),some (.ref t)] H2 D Q:=by
 have hla:=ht.length;refine zL (xs:=as.map V.ref) (fun j σ ys H3=>∃(v0:Option V) (ts:List Addr) (cs:Ch),σ=[v0,some (.ref W),some (.ref t)]/\Same H2 H3/\H3 D=some (.lst ys)/\ys=ts.map V.ref/\Prs H3 ts cs/\cs=((rs.take j).map fun r=>(r,wt x r))/\∀c∈cs,c.2=1 \/ c.2=-1) ?_ ?_ ?_ ?_
 ·exact⟨none,[],[],rfl,Same.new hD,upd_same,rfl,.nil,rfl,fun c hc=>(by cases hc)⟩
 ·rintro j σ ys H3 ⟨v0,ts,cs,rfl,sm,hD3,rfl,_⟩
  exact SqL.of (sm _ _ hl)
 ·rintro j σ ys H3 v hv hj hy ⟨v0,ts,cs,rfl,sm,hD3,rfl,hp,hk,h1⟩
  obtain⟨o,eo,rfl⟩:=zE hv;obtain⟨r,er,ho⟩:=ht.get eo;have hn:(as.map V.ref).length<=sizeLine:=by rw[Ab]; exact line_big (by omega)
  obtain⟨a,b,et,ha,hb⟩:=hx.same sm;obtain⟨c1,hc1,e1,g1⟩:=zhZ (hr r (Ak er));obtain⟨c2,hc2,e2,g2⟩:=zhZ h0;have w1:=hw c1 hc1;have w2:=hw c2 hc2;refine gyes ⟨_,rfl,_,rfl,_,rfl,W,_,rfl,.inr ⟨_,r.map Sum.inl,o,.inl (sm _ _ hW),rfl,z0 (sm.tp ho),g1.symm⟩,_,rfl,_,rfl,_,rfl,t,_,_,_,rfl,rfl,SqT.of et,zC (j:=0) rfl,W,_,rfl,.inr ⟨_,x.1.map Sum.inl,a,.inl (sm _ _ hW),rfl,z0 ha,g2.symm⟩,_,_,rfl,rfl,.inr (by rcases w2 with e | e <;> rw[e] <;> decide),line_big (by simp),fun p hp0=>?_⟩;have s2:=Same.new (o:=.tup [.ref o,.int (-c1.2*c2.2)]) hp0;refine cput hn hj hy (s2 _ _ hD3) ⟨_,ts++[p],cs++[(r,-c1.2*c2.2)],rfl,(sm.trans s2).then hD,upd_same,by rw[Ag]; rfl,?_,?_,fun c hc=>?_⟩
  ·exact Prs.upd (Prs.snoc (hp.same s2) ⟨o,upd_same,s2.tp (sm.tp ho)⟩) (s2 _ _ hD3) (by intro xs z; cases z)
  ·rw[AH er,Ag,<- hk]
   show cs++[(r,-c1.2*c2.2)]=cs++[(r,wt x r)];unfold wt;rw[hsg c1 hc1,hsg c2 hc2,e1,e2]
  ·rcases List.mem_append.mp hc with hc | hc
   ·exact h1 c hc
   ·rw[List.mem_singleton.mp hc]
    show -c1.2*c2.2=1 \/ -c1.2*c2.2=-1;rcases w1 with e | e <;> rcases w2 with e' | e' <;> rw[e,e'] <;> decide
 ·rintro σ ys H3 ⟨v0,ts,cs,rfl,sm,hD3,rfl,hp,hk,h1⟩
  rw[Ab,hla,An (Af _)] at hk;exact k H3 ts cs sm hD3 hp hk h1
def zko:Sp:=fun vs H Q _=>∃t x,vs=[.ref t]/\Pr2 H t x/\x.2.length<=5/\x.2.Nodup/\x.1∈rims x.2/\∀D H' ts cs,Same H H'->H D=none->H' D=some (.lst (List.map V.ref ts))->Prs H' ts cs->cs=((oth x).map fun r=>(r,wt x r))->(∀c∈cs,c.2=1 \/ c.2=-1)->Q (.ref D) H'
theorem zjZ:zu ["pair","weights"] ["pair"] (zh zeB):=⟨rfl,rfl,rfl,by decide +kernel,rfl,by decide +kernel,by decide +kernel⟩
theorem zlw {f fo ft:Addr}{fd fdo fdt:FuncData} (F:Fun K "step_terms" "step_terms" zeB f fd) (B:Bt mg) (ydict:mg "dict"=none)
  (Fo:Fun K "other_rims" "other_rims" zbp fo fdo) (bo:Binds K fdo ["pair"] []) (mo:mg "other_rims"=some (.ref fo)) (Go:FnOk P w K mg base CX0 2 fo fdo ["pair"] zdk)
  (Ft:Fun K "seam_terms" "seam_terms" zbL ft fdt) (bt:Binds K fdt ["piece","often"] []) (mt:mg "seam_terms"=some (.ref ft)) (Gt:FnOk P w K mg base CX0 2 ft fdt ["piece","often"] zdI) :
  FnOk P w K mg base CX0 3 f fd ["pair"] zko:=by
 refine F.ok zjZ (fun vs H Q E h=>?_) (fun cdv A outer s H vs Q E hr h=>?_)
 ·obtain⟨t,x,rfl,_⟩:=h; rfl
 ·obtain⟨t,x,rfl,hx,h5,hxn,h0,k⟩:=h
  have hu:=zbo hr;have hu64:=hr.units;refine⟨_,zf (zq (i:=1) zjZ.nd rfl (Or.inr rfl) (zB (zar rfl hu64) rfl ydict zdH (ze (zn Gt hr rfl mt Ft.kp bt .nil pass0 (ze (zR zZ (pv 0) zl (fun _ _=>rfl)) (ze zl zg))) zg)))
   (zi (zt (zx ["pair","weights"] ["rim","weights","pair"] [none,some 1,some 0] (zw (zn Go hr rfl mo Fo.kp bo .nil pass0 (ze (pv 0) zg))) (fun cl C s₀ H₀ ex=>zm (i:=0) (ndN ["rim","weights","pair"]) rfl (Or.inl rfl))
    (fun cl C s₀ H₀ ex=>zN) (fun cl C s₀ H₀ ex=>zak (ze (pv 0) (ze (zH za1 (zgN zeC (zan hu (pv 1) (pv 0) (fun _ _=>rfl))) (zan hu (pv 1) (zR zZ (pv 2) zl (fun _ _=>rfl)) (fun _ _=>rfl))) zg)))
    (hfr:=frOf (zh zeB) (by decide +kernel)) (te:=tStT K)))),?_⟩
  obtain⟨a,b,et,ha,hb⟩:=id hx;refine⟨_,rfl,t,_,_,_,rfl,rfl,SqT.of et,zC (j:=1) rfl,b,x.2,1,rfl,hb,h5,fun D1 H1 us s1 hD10 hD1 hp1=>?_⟩;refine⟨D1,us,kvC (stm x.2 1),rfl,SqL.of hD1,zj6 hp1,fun W hW=>?_⟩;rw[zev];have sW:=Same.new (o:=.dT (kvC (zaC (stm x.2 1)))) hW;have s2:=s1.trans sW;obtain⟨d1,d2⟩:=zgd (P:=fun n=>n=1 \/ n=-1) (stm x.2 1) fun u hu=>(zeP hu).2;have has:∀r∈rims x.2,r∈ksC (zaC (stm x.2 1)):=fun r hr=>by
   obtain⟨u,hu,rfl⟩:=zkU (n:=1) hr;exact d2 u hu
  refine⟨_,rfl,t,x,rfl,hx.same s2,h5,fun RL H3 rs s3 _ hR3 hr3=>⟨RL,rfl,⟨_,SqL.of hR3⟩,fun D hD=>?_⟩⟩;have hrl:=zao x.2;have hol:(oth x).length<=(rims x.2).length:=List.length_filter_le _ _;exact zG (zht hR3 hr3 (by omega) (hx.same (s2.trans s3)) (s3 _ _ upd_same) (fun r hr=>has r (zb2.mp hr).1) (has _ h0) d1 (zkx hxn) hD fun H4 ts cs s4 hD4 hp4 hk4 h14=>k D H4 ts cs ((s2.trans s3).trans s4) ((s2.trans s3).free hD) hD4 hp4 hk4 h14)
theorem zks {H2:Hp}{L D d:Addr}{as:List Addr}{rs:List (List Int)}{es:List En}{Q:VK} (hl:H2 L=some (.lst (as.map V.ref))) (ht:Tps H2 as rs) (hz:rs.length<=1000) (he:Ends H2 d es) (hD:H2 D=none)
  (k:∀(H3:Hp),Same H2 H3->H3 D=some (.lst ((rs.map fun r=>decide (r∈es.map (·.1))).map V.bl))->Q (.ref D) H3) :
  zaj (Itl K L) (zX 0) tYes (tDIn (tVar 0) (tVar 1)) [none,some (.ref d)] H2 D Q:=by
 have hla:=ht.length;refine zL (xs:=as.map V.ref) (fun j σ ys H3=>∃(v0:Option V),σ=[v0,some (.ref d)]/\Same H2 H3/\H3 D=some (.lst ys)/\ys=(((rs.map fun r=>decide (r∈es.map (·.1))).take j).map V.bl)) ?_ ?_ ?_ ?_
 ·exact⟨none,rfl,Same.new hD,upd_same,rfl⟩
 ·rintro j σ ys H3 ⟨v0,rfl,sm,hD3,rfl⟩
  exact SqL.of (sm _ _ hl)
 ·rintro j σ ys H3 v hv hj hy ⟨v0,rfl,sm,hD3,rfl⟩
  obtain⟨o,eo,rfl⟩:=zE hv;obtain⟨r,er,ho⟩:=ht.get eo;have hn:(as.map V.ref).length<=sizeLine:=by rw[Ab]; exact line_big (by omega)
  obtain⟨kvs,hd,hp⟩:=he.same sm;have e:(rs.map fun r=>decide (r∈es.map (·.1)))[j]?=some (decide (r∈es.map (·.1))):=by rw[Al,er]; rfl
  refine gyes ⟨_,rfl,_,rfl,d,_,rfl,.inr ⟨kvs,r.map Sum.inl,o,.inl hd,rfl,z0 (sm.tp ho),rfl⟩,?_⟩;have eb:(valV kvs (r.map Sum.inl)).isSome=decide (r∈es.map (·.1)):=by
   rcases end_val hp r with ⟨g1,g2⟩ | ⟨b,ob,c,g1,g2,g3⟩
   ·rw[g1,decide_eq_false g2]; rfl
   ·rw[g1,decide_eq_true (List.mem_map.mpr ⟨_,g2,rfl⟩)]; rfl
  rw[eb];refine cput hn hj hy hD3 ⟨_,rfl,sm.then hD,upd_same,?_⟩;rw[AH e,Ag]; rfl
 ·rintro σ ys H3 ⟨v0,rfl,sm,hD3,rfl⟩
  rw[Ab,hla,An (by rw[Ab]; exact Af _)] at hD3;exact k H3 sm hD3
end
structure EI (left:List (List Int)) (R:List Int->List Int->Int) (ps:List Pq) (N:Nat) (es:List En) (W:List Pq):Prop where
 sub:W.Sublist ps
 cnt:es.length+W.length=N
 fst:∀x∈ps,x∈W \/ x.1∈es.map (·.1)
 new:∀x∈W,x.1∉es.map (·.1)
 lft:∀p∈left,p∈es.map (·.1)
 snd:∀x∈ps,x.2∈es.map (·.1)
 ok:Ok left R es
theorem EI.stuck {kn left:List (List Int)}{ps W:List Pq}{N:Nat}{es:List En}{R:List Int->List Int->Int} (e:EI left R ps N es W) (pg:PG kn ps) (hl:∀p∈kn,p∉stds ps->p∈left) (hc:∀p∈kn,∀r∈rims p,r∈kn) (h:∀x∈W,∃r∈oth x,r∉es.map (·.1)):W=[]:=by
 refine pg.ac W (fun x hx=>e.sub.subset hx) fun x hx=>?_;obtain⟨r,hr,hn⟩:=h x hx;obtain⟨hr1,hr2⟩:=zb2.mp hr;have hrk:r∈kn:=hc x.2 (pg.has x (e.sub.subset hx)).1 r hr1;have hrs:r∈stds ps:=Classical.byContradiction fun z=>hn (e.lft r (hl r hrk z));obtain⟨y,hy,hry⟩:=List.mem_flatMap.mp hrs;simp only[List.mem_cons,List.not_mem_nil,or_false] at hry;rcases hry with rfl | rfl
 ·rcases e.fst y hy with z | z
  ·exact⟨y,z,zcU.mpr ⟨hr2,hr1⟩⟩
  ·exact absurd z hn
 ·exact absurd (e.snd y hy) hn
theorem EI.put {left:List (List Int)}{ps A B:List Pq}{N:Nat}{es:List En}{x:Pq}{c:Ch}{R:List Int->List Int->Int} (e:EI left R ps N es (A++x::B)) (hf:(ps.map (·.1)).Nodup) (hk:c.length<=200/\(∀k∈ksC c,k∈left)/\∀e,tot c e=R x.1 e):EI left R ps N (es++[(x.1,c)]) (A++B):=by
 have sub:(A++B).Sublist (A++x::B):=List.Sublist.append (List.Sublist.refl _) (List.sublist_cons_self _ _);have km:∀{q},q∈es.map (·.1)->q∈(es++[(x.1,c)]).map (·.1):=fun {q} h=>by rw[Ag]; exact AI _ h
 have kx:x.1∈(es++[(x.1,c)]).map (·.1):=by rw[Ag]; simp
 have hnd:((A++x::B).map (·.1)).Nodup:=hf.sublist (e.sub.map _);refine⟨sub.trans e.sub,?_,fun y hy=>?_,fun y hy h=>?_,fun p hp=>km (e.lft p hp),fun y hy=>km (e.snd y hy),fun y hy=>?_⟩
 ·have:=e.cnt
  rw[Ah,Aw] at this;rw[Ah,Ah,AQ]; omega
 ·rcases e.fst y hy with h | h
  ·rcases List.mem_append.mp h with h | h
   ·exact .inl (AI _ h)
   ·rcases List.mem_cons.mp h with rfl | h
    ·exact .inr kx
    ·exact .inl (AJ _ h)
  ·exact .inr (km h)
 ·rw[Ag] at h
  rcases List.mem_append.mp h with h | h
  ·exact e.new y (sub.subset hy) h
  ·have hyx:y.1=x.1:=by simpa using h
   rw[Ag,Av,AL,List.nodup_cons] at hnd;rcases List.mem_append.mp hy with hy | hy
   ·exact hnd.2.2 _ (List.mem_map.mpr ⟨y,hy,rfl⟩) x.1 Am hyx
   ·exact hnd.2.1.1 (List.mem_map.mpr ⟨y,hy,hyx⟩)
 ·rcases List.mem_append.mp hy with hy | hy
  ·exact e.ok y hy
  ·rw[List.mem_singleton.mp hy]; exact hk
end K48
end
section
namespace K48
open K1
open PySem L2 STb
abbrev zeE:Stmt:=top 33
abbrev nmE:List Str:=["left","pairs","ends","piece","pair","waiting","later"]
theorem Ends.put {H:Hp}{T b ka:Addr}{es:List En}{x:En}{o:Obj} (h:Ends H T es) (hx:x.1∉es.map (·.1)) (hb:H b=some (.frz o (.dT (kvC x.2)))) (hk:Tp H ka x.1) (hl:es.length<=1000) :
  ∃kvs',DPut H T (.ref ka) (.ref b) (L2.upd H T (.dT kvs'))/\Ends (L2.upd H T (.dT kvs')) T (es++[x]):=by
 obtain⟨kvs,hT,hp⟩:=h;obtain⟨kvs',e,hp'⟩:=zkX hp hx hb;have hlen:=AN hp;have d:=DPut.t (k:=x.1.map Sum.inl) (v:=.ref b) hT (z0 hk) (zF (by omega));rw[e] at d;refine⟨kvs',d,kvs',upd_same,Paired.mapP hp' fun _ _ ⟨h1,c,oc,h2,h3⟩=>⟨h1,c,oc,h2,?_⟩⟩;rw[zk (fun z=>by subst z; rw[hT] at h3; cases h3)];exact h3
theorem zc6 {c:Ch}{l:List (List Int)} (h:(ksC c).Nodup) (hs:∀k∈ksC c,k∈l):c.length<=l.length:=by
 have:=h.length_le_of_subset (l₂:=l) fun x hx=>hs x hx;rw[zcJ] at this;exact this
section
variable {P:Program}{w:World}{K:Ad}{mg:Str->Option Value}{base:Heap}
def zkc (K:Ad):Sp:=fun vs H Q _=>∃l m as ts kn ps R,vs=[.ref l,.ref m]/\SqL K H l (as.map V.ref)/\Tps H as (kn.filter fun p=>!decide (p∈stds ps))/\SqL K H m (ts.map V.ref)/\Prs2 H ts ps/\PG kn ps/\kn.Nodup/\(∀p∈kn,∀r∈rims p,r∈kn)/\(∀p∈kn,p.length<=5)/\kn.length<=200/\ps.length<=100/\(∀p∈kn,p.Nodup)/\IsR (kn.filter fun p=>!decide (p∈stds ps)) ps R/\
 ∀D H' es,Same H H'->H D=none->Ends H' D es->(∀p∈kn,p∈es.map (·.1))->Ok (kn.filter fun p=>!decide (p∈stds ps)) R es->Q (.ref D) H'
theorem zcc:zu nmE ["left","pairs"] (zh zeE):=⟨rfl,rfl,rfl,by decide +kernel,rfl,by decide +kernel,by decide +kernel⟩
theorem zlA {f fo fs fb:Addr}{fd fdo fds fdb:FuncData} (F:Fun K "ends_of" "ends_of" zeE f fd) (B:Bt mg)
  (Fo:Fun K "other_rims" "other_rims" zbp fo fdo) (bo:Binds K fdo ["pair"] []) (mo:mg "other_rims"=some (.ref fo)) (Go:FnOk P w K mg base CX0 2 fo fdo ["pair"] zdk)
  (Fs:Fun K "step_terms" "step_terms" zeB fs fds) (bs:Binds K fds ["pair"] []) (ms:mg "step_terms"=some (.ref fs)) (Gs:FnOk P w K mg base CX0 3 fs fds ["pair"] zko)
  (Fb:Fun K "brought_to_ends" "brought_to_ends" sBr fb fdb) (bb:Binds K fdb ["terms","ends"] []) (mb:mg "brought_to_ends"=some (.ref fb)) (Gb:FnOk P w K mg base CX0 2 fb fdb ["terms","ends"] (spBr K)) :
  FnOk P w K mg base CX0 4 f fd ["left","pairs"] (zkc K):=by
 refine F.ok zcc (fun vs H Q E h=>?_) (fun cdv A outer s H vs Q E hr h=>?_)
 ·obtain⟨l,m,as,ts,kn,ps,R,rfl,_⟩:=h; rfl
 ·obtain⟨l,m,as,ts,kn,ps,R,rfl,hl,ha,hm,ht,pg,hkn,hcl,h5,hz,hzp,hnod,hR,k⟩:=h
  have hu:=zbo hr;have hr2:Room 2 _:=hr.mono (by decide);refine⟨_,zf (zq (i:=2) zcc.nd rfl (Or.inr rfl) zP)
   (zf (zM AF rfl (zw (pv 0)) (zm (i:=3) zcc.nd rfl (Or.inl rfl)) (zi (zQ hu (pv 2) (pv 3) (zgW (zh8 hu (pv 3) zl)) rfl)))
   (zf (zM AF rfl (zw (pv 1)) (zm (i:=4) zcc.nd rfl (Or.inl rfl)) (zi (zQ hu (pv 2) (zR zZ (pv 4) zl (fun _ _=>rfl)) (zgW zP) rfl)))
   (zf (zq (i:=5) zcc.nd rfl (Or.inl rfl) (zB zaG rfl B.list zaK (ze (pv 1) zg)))
   (zf (zge AF (zy zc1 (zv zo rfl B.len zaI (ze (pv 5) zg)) zl (nomark _))
    (zf (zq (i:=6) zcc.nd rfl (Or.inl rfl) (zY zg))
    (zf (zM AF rfl (zw (pv 5)) (zm (i:=4) zcc.nd rfl (Or.inl rfl))
     (zi (zaf (zbS (zv (zdO rfl) rfl B.all zkB (ze (zx nmE ["rim","ends"] [none,some 2] (zw (zn Go hr2 rfl mo Fo.kp bo .nil pass0 (ze (pv 4) zg))) (fun cl C s₀ H₀ ex=>zm (i:=0) (ndN ["rim","ends"]) rfl (Or.inl rfl)) (fun cl C s₀ H₀ ex=>zN)
       (fun cl C s₀ H₀ ex=>zh1 (zda hu (pv 0) (pv 1)) (by with_unfolding_all rfl)) (hfr:=frOf (zh zeE) (by decide +kernel)) (te:=tDIn (tVar 0) (tVar 1))) zg)))
      (zi (zQ hu (pv 2) (zR zZ (pv 4) zl (fun _ _=>rfl)) (zgW (zn Gb hr2 rfl mb Fb.kp bb .nil pass0 (ze (zn Gs hr rfl ms Fs.kp bs .nil pass0 (ze (pv 4) zg)) (ze (pv 2) zg)))) rfl))
      (zi (zaz (zci AU PySem.F.slot_list_append PySem.F.type_list_append zaA (pv 6) (ze (pv 4) zg)))))))
    (zi (zq (i:=5) zcc.nd rfl (Or.inl rfl) (pv 6))))))
   (zi (zt (pv 2))))))),?_⟩
  generalize hLf:(kn.filter fun p=>!decide (p∈stds ps))=left at ha hR k;have hlm:∀p,p∈left ↔ p∈kn/\p∉stds ps:=fun p=>by rw[<- hLf,List.mem_filter]; simp
  have hln:left.Nodup:=by rw[<- hLf]; exact hkn.sublist List.filter_sublist
  have hlz:left.length<=200:=by rw[<- hLf]; exact AG (List.length_filter_le _ _) hz
  have hnd:=(zbE ps).nodup_iff.mp pg.nd;rw[AL] at hnd;obtain⟨nd1,nd2,nd3⟩:=hnd;have hla:=ha.length;have htl:=ht.length;intro T hT;have sT:=Same.new (o:=.dT []) hT;refine⟨_,rfl,l,rfl,⟨_,sT.seq hl⟩,zK (K:=K) (a:=l) (xs:=as.map V.ref) (fun i σ H3=>∃(v3:Option V) (es:List En),σ=[some (.ref l),some (.ref m),some (.ref T),v3,none,none,none]/\Same H H3/\Ends H3 T es/\es.map (·.1)=left.take i/\Ok left R es)
   ⟨none,[],rfl,sT,⟨[],upd_same,.nil⟩,rfl,fun x hx=>(by cases hx)⟩ (fun i σ H3 _ ⟨_,_,_,sm,_⟩=>sm.seq hl) ?_ ?_⟩
  ·rintro i v σ H3 hv ⟨v3,es,rfl,sm,hE,hk,hok⟩
   obtain⟨b,eb,rfl⟩:=zE hv;obtain⟨p,ep,hp⟩:=ha.get eb;have hi:i<left.length:=(List.getElem?_eq_some_iff.mp ep).1;have hpm:p∈left:=Ak ep;have hnew:p∉es.map (·.1):=by
    rw[hk];intro z;have:=hln;rw[<- List.take_append_drop i left,AL] at this;exact this.2.2 p z p (by rw[List.drop_eq_getElem_cons hi]; rw[(List.getElem?_eq_some_iff.mp ep).2]; exact Am) rfl
   have hel:es.length=i:=by have:=congrArg List.length hk; rw[Ab,AC] at this; omega
   intro q hq;have sq:=Same.new (o:=.dT []) hq;refine⟨_,rfl,b,p.map Sum.inl,.int 1,rfl,upd_same,z0 (sq.tp (sm.tp hp)),q,_,rfl,upd_same,fun o=>?_⟩;have s3:Same H3 (upd (upd (upd H3 q (.dT [])) q (.dT [(p.map Sum.inl,.int 1)])) q (.frz o (.dT [(p.map Sum.inl,.int 1)]))):=(sq.then hq).then hq;obtain⟨kvs',d,hE'⟩:=(hE.same s3).put (x:=(p,[(p,1)])) hnew upd_same (s3.tp (sm.tp hp)) (by omega);refine⟨_,rfl,_,rfl,T,_,rfl,d,⟨_,_,rfl,(sm.trans s3).then hT,hE',?_,fun x hx=>?_⟩⟩
   ·rw[Ag,hk,AH ep]; rfl
   ·rcases List.mem_append.mp hx with hx | hx
    ·exact hok x hx
    ·rw[List.mem_singleton.mp hx]
     refine⟨by show 1<=200; decide,fun kk hkk=>?_,fun e=>?_⟩
     ·have:kk=p:=by simpa[ksC] using hkk
      rw[this]; exact hpm
     ·rw[hR.lf p hpm e]; simp[tot]
  ·rintro σ H3 ⟨v3,es,rfl,sm,hE,hk,hok⟩
   rw[Ab,hla,take_all] at hk;have hel:es.length=left.length:=by have:=congrArg List.length hk; rw[Ab] at this; exact this
   refine⟨_,rfl,m,rfl,⟨_,sm.seq hm⟩,zK (K:=K) (a:=m) (xs:=ts.map V.ref) (fun i σ H3=>∃(v4:Option V) (es:List En),σ=[some (.ref l),some (.ref m),some (.ref T),v3,v4,none,none]/\Same H H3/\Ends H3 T es/\es.map (·.1)=left++(ps.map (·.2)).take i/\Ok left R es)
    ⟨none,es,rfl,sm,hE,by rw[List.take_zero,List.append_nil]; exact hk,hok⟩ (fun i σ H3 _ ⟨_,_,_,sm,_⟩=>sm.seq hm) ?_ ?_⟩
   ·rintro i v σ H4 hv ⟨v4,es,rfl,sm,hE,hk,hok⟩
    obtain⟨t,et,rfl⟩:=zE hv;obtain⟨x,ex,hx⟩:=ht.get et;have hi:i<ps.length:=(List.getElem?_eq_some_iff.mp ex).1;have hxm:x∈ps:=Ak ex;have ex2:(ps.map (·.2))[i]?=some x.2:=by rw[Al,ex]; rfl
    have hi2:i<(ps.map (·.2)).length:=by rw[Ab]; exact hi
    have hnew:x.2∉es.map (·.1):=by
     rw[hk,List.mem_append];rintro (z | z)
     ·exact ((hlm _).mp z).2 (zbJ hxm).2
     ·have:=nd2
      rw[<- List.take_append_drop i (ps.map (·.2)),AL] at this;exact this.2.2 x.2 z x.2 (by rw[List.drop_eq_getElem_cons hi2]; rw[(List.getElem?_eq_some_iff.mp ex2).2]; exact Am) rfl
    have hel:es.length<=300:=by
     have:=congrArg List.length hk;rw[Ab,Ah,AC,Ab] at this;omega
    obtain⟨a4,b4,et4,ha4,hb4⟩:=hx.same sm;intro q hq;have sq:=Same.new (o:=.dT []) hq;refine⟨q,_,rfl,upd_same,fun o=>?_⟩;have s3:Same H4 (upd (upd H4 q (.dT [])) q (.frz o (.dT []))):=sq.then hq;obtain⟨kvs',d,hE'⟩:=(hE.same s3).put (x:=(x.2,[])) hnew upd_same (s3.tp hb4) (by omega);refine⟨_,rfl,_,rfl,t,_,_,_,rfl,rfl,SqT.of (s3 _ _ et4),zC (j:=1) rfl,T,_,rfl,d,⟨_,_,rfl,(sm.trans s3).then hT,hE',?_,fun y hy=>?_⟩⟩
    ·rw[Ag,hk,AH ex2,A4]; rfl
    ·rcases List.mem_append.mp hy with hy | hy
     ·exact hok y hy
     ·rw[List.mem_singleton.mp hy]
      exact⟨AO _,(fun kk hkk=>(by cases hkk)),fun e=>(hR.sn x hxm e).symm⟩
   ·rintro σ H4 ⟨v4,es,rfl,sm,hE,hk,hok⟩
    rw[Ab,htl,<- Ab (f:=(·.2)),take_all] at hk;refine⟨_,rfl,m,_,rfl,.inl (sm.seq hm),fun WL hWL=>?_⟩;have sW:=Same.new (o:=.lst (ts.map V.ref)) hWL;have hel:es.length+ps.length=left.length+2*ps.length:=by
     have:=congrArg List.length hk;rw[Ab,Ah,Ab] at this;omega
    have ei:EI left R ps (left.length+2*ps.length) es ps:=by
     refine⟨List.Sublist.refl _,hel,fun x hx=>.inl hx,fun x hx h=>?_,fun p hp=>by rw[hk]; exact AI _ hp,fun x hx=>by rw[hk]; exact AJ _ (List.mem_map.mpr ⟨x,hx,rfl⟩),hok⟩;rw[hk,List.mem_append] at h;rcases h with z | z
     ·exact ((hlm _).mp z).2 (zbJ hx).1
     ·exact nd3 x.1 (List.mem_map.mpr ⟨x,hx,rfl⟩) _ z rfl
    refine⟨fun n σ H3=>∃(WL:Addr) (us:List Addr) (W:List Pq) (es:List En) (v3 v4 v6:Option V),n=W.length/\σ=[some (.ref l),some (.ref m),some (.ref T),v3,v4,some (.ref WL),v6]/\Same H H3/\H3 WL=some (.lst (us.map V.ref))/\Prs2 H us W/\Ends H3 T es/\EI left R ps (left.length+2*ps.length) es W,
     ⟨_,WL,ts,ps,es,v3,v4,none,rfl,rfl,sm.trans sW,upd_same,ht,hE.same sW,ei⟩,?_⟩
    rintro n σ H5 ⟨WL,us,W,es,v3,v4,v6,rfl,rfl,sm5,hW5,hu5,hE5,ei⟩;have hul:=hu5.length;refine⟨_,rfl,WL,_,rfl,.inl (SqL.of hW5),_,_,rfl,rfl,_,rfl,?_⟩;rw[Ab,hul]
    by_cases hWn:W=[]
    ·subst hWn
     refine iteF ⟨_,rfl,k T H5 es sm5 hT hE5 (fun p hp=>?_) ei.ok⟩
     by_cases hs:p∈stds ps
     ·obtain⟨y,hy,hpy⟩:=List.mem_flatMap.mp hs
      simp only[List.mem_cons,List.not_mem_nil,or_false] at hpy;rcases hpy with rfl | rfl
      ·exact (ei.fst y hy).elim (fun z=>by cases z) id
      ·exact ei.snd y hy
     ·exact ei.lft p ((hlm p).mpr ⟨hp,hs⟩)
    have hWp:0<W.length:=List.length_pos_iff.mpr hWn;rw[decide_eq_true (show (0:Int)<((W.length:Nat):Int) by omega)];refine iteT ⟨fun σ' H'=>∃n',n'<W.length/\∃(WL:Addr) (us:List Addr) (W:List Pq) (es:List En) (v3 v4 v6:Option V),n'=W.length/\σ'=[some (.ref l),some (.ref m),some (.ref T),v3,v4,some (.ref WL),v6]/\Same H H'/\H' WL=some (.lst (us.map V.ref))/\Prs2 H us W/\Ends H' T es/\EI left R ps (left.length+2*ps.length) es W,fun σ' H' h=>h,?_⟩;refine⟨line_big (by simp),fun LL hLL=>?_⟩;have sL:=Same.new (o:=.lst []) hLL;have hLL0:H LL=none:=sm5.free hLL;have hnL:WL≠LL:=zj hW5 hLL;have hTL:T≠LL:=by obtain⟨kv,e,_⟩:=hE5; exact zj e hLL
    have hTW:WL≠T:=by obtain⟨kv,e,_⟩:=hE5; intro z; rw[z,e] at hW5; cases hW5
    refine⟨_,rfl,WL,rfl,⟨_,SqL.of (sL _ _ hW5)⟩,zK (K:=K) (a:=WL) (xs:=us.map V.ref) (fun i σ H6=>∃(vs:List Addr) (LP:List Pq) (es':List En) (v4:Option V),σ=[some (.ref l),some (.ref m),some (.ref T),v3,v4,some (.ref WL),some (.ref LL)]/\Same H H6/\H6 WL=some (.lst (us.map V.ref))/\H6 LL=some (.lst (vs.map V.ref))/\Prs2 H vs LP/\Ends H6 T es'/\EI left R ps (left.length+2*ps.length) es' (LP++W.drop i)/\LP.length<=i/\
      (LP.length<i \/ (LP=W.take i/\es'=es/\∀x∈LP,∃r∈oth x,r∉es.map (·.1))))
     ⟨[],[],es,v4,rfl,sm5.trans sL,sL _ _ hW5,upd_same,.nil,hE5.same sL,ei,Af _,.inr ⟨rfl,rfl,fun x hx=>(by cases hx)⟩⟩ (fun i σ H6 _ ⟨_,_,_,_,_,_,h,_⟩=>SqL.of h) ?_ ?_⟩
    ·rintro i v σ H6 hv ⟨vs,LP,es',v4,rfl,sm6,hW6,hL6,hv6,hE6,ei6,hle,hpr⟩
     obtain⟨t,et,rfl⟩:=zE hv;obtain⟨x,ex,hx⟩:=hu5.get et;have hi:i<W.length:=(List.getElem?_eq_some_iff.mp ex).1;have edr:W.drop i=x::W.drop (i+1):=by rw[List.drop_eq_getElem_cons hi,(List.getElem?_eq_some_iff.mp ex).2]
     rw[edr] at ei6;have hxp:x∈ps:=ei6.sub.subset (AJ _ Am);obtain⟨hx2,hx1⟩:=pg.has x hxp;have hx5:=h5 _ hx2;have hcnt:=ei6.cnt;refine⟨_,rfl,t,x,rfl,hx.same sm6,hx5,fun RL H7 rs s7 _ hR7 hr7=>⟨RL,rfl,⟨_,SqL.of hR7⟩,fun D hD=>?_⟩⟩;have hrl:=zao x.2;have hol:(oth x).length<=(rims x.2).length:=List.length_filter_le _ _;refine zG (zks hR7 hr7 (by omega) (hE6.same s7) hD fun H8 s8 hD8=>⟨D,_,rfl,SqL.of hD8,_,rfl,?_⟩);have s68:=s7.trans s8;have sm8:=sm6.trans s68;have hE8:=hE6.same s68;have hW8:=s68 _ _ hW6;have hL8:=s68 _ _ hL6;clear hD8 hR7 hr7 hD hE6 hW6 hL6;cases hal:((oth x).map fun r=>decide (r∈es'.map (·.1))).all id with
     | true=>
      have hin:∀r∈oth x,r∈es'.map (·.1):=fun r hr=>by
       have:=List.all_eq_true.mp hal _ (List.mem_map.mpr ⟨r,hr,rfl⟩);exact of_decide_eq_true this
      obtain⟨a8,b8,et8,ha8,hb8⟩:=hx.same sm8;refine iteT ⟨_,rfl,t,x,rfl,hx.same sm8,hx5,hnod _ hx2,hx1,fun D9 H9 ts9 cs9 s9 _ hD9 hp9 hk9 h19=>⟨_,rfl,D9,T,ts9,cs9,es',left,R,rfl,SqL.of hD9,hp9,hE8.same s9,fun c hc=>⟨hin c.1 (by rw[hk9] at hc; obtain⟨r,hr,rfl⟩:=List.mem_map.mp hc; exact hr),h19 c hc⟩,?_,ei6.ok,fun D0 H0 c0 s0 hD00 hD0 hn0 hk0 hz0 ht0=>⟨D0,_,rfl,hD0,fun o=>?_⟩⟩⟩
      ·rw[hk9,Ab]; omega
      ·have s80:Same H8 (upd H0 D0 (.frz o (.dT (kvC c0)))):=(s9.trans s0).then (s9.free hD00)
       have hnew:x.1∉es'.map (·.1):=ei6.new x (AJ _ Am);have hzl:es'.length<=1000:=by rw[Ah] at hcnt; omega
       obtain⟨kvs',d,hE'⟩:=(hE8.same s80).put (x:=(x.1,c0)) hnew upd_same (s80.tp ha8) hzl;refine⟨_,rfl,_,rfl,t,_,_,_,rfl,rfl,SqT.of (s80 _ _ et8),zC (j:=0) rfl,T,_,rfl,d,⟨vs,LP,_,_,rfl,(sm8.trans s80).then hT,?_,?_,hv6,hE',ei6.put nd1 ⟨AG (zc6 hn0 hk0) hlz,hk0,fun e=>by rw[ht0 e,hk9,Ap,hR.fs x hxp e]; rfl⟩,by omega,.inl (by omega)⟩⟩
       ·rw[zk hTW]; exact s80 _ _ hW8
       ·rw[zk (Ne.symm hTL)]; exact s80 _ _ hL8
     | false=>
      have hno:∃r∈oth x,r∉es'.map (·.1):=by
       obtain⟨b,hb,hf⟩:=List.all_eq_false.mp hal;obtain⟨r,hr,rfl⟩:=List.mem_map.mp hb;exact⟨r,hr,fun z=>hf (decide_eq_true z)⟩
      have hvl:=hv6.length;refine iteF ⟨_,rfl,.inl ⟨rfl,_,SqL.of hL8⟩,_,rfl,LL,_,_,rfl,rfl,hL8,by rw[Ab]; exact zF (by have:=ei6.sub.length_le; rw[Ah] at this; omega),⟨vs++[t],LP++[x],es',_,rfl,sm8.then hLL0,by rw[zk hnL]; exact hW8,by rw[upd_same,Ag]; rfl,Prs2.add hv6 hx,hE8.upd hL8 (by intro p q z; cases z) hTL,?_,by rw[Ah,AQ]; omega,?_⟩⟩
      ·rw[A4]; exact ei6
      ·rcases hpr with h | ⟨h1,h2,h3⟩
       ·exact .inl (by rw[Ah,AQ]; omega)
       ·refine .inr ⟨by rw[h1,AH ex],h2,fun y hy=>?_⟩
        rcases List.mem_append.mp hy with hy | hy
        ·exact h3 y hy
        ·rw[List.mem_singleton.mp hy,<- h2]; exact hno
    ·rintro σ H6 ⟨vs,LP,es',v4,rfl,sm6,hW6,hL6,hv6,hE6,ei6,hle,hpr⟩
     rw[Ab,hul] at ei6 hle hpr;rw[List.drop_length,List.append_nil] at ei6;refine⟨_,rfl,LP.length,?_,LL,vs,LP,es',v3,v4,_,rfl,rfl,sm6,hL6,hv6,hE6,ei6⟩;rcases hpr with h | ⟨h1,h2,h3⟩
     ·exact h
     ·rw[take_all] at h1
      subst h2 h1;exact absurd (ei.stuck pg (fun p hp hs=>(hlm p).mpr ⟨hp,hs⟩) hcl h3) hWn
end
end K48
end
section
namespace K48
open K1
open PySem L2 STb
abbrev zes:Stmt:=top 32
theorem zdS {pss:List (List Int)} (hw:webM pss=true) {p r:List Int} (hp:p∈canon pss) (hr:r∈rims p):r∈canon pss:=by
 obtain⟨h3,kk,hkk,er⟩:=zdp.mp hr;obtain⟨hs',hlt⟩:=zfc hkk er;have h0:r≠[]:=fun z=>by
  rw[z] at er;have:=congrArg List.length er;rw[Ah,AC,List.length_drop,List.length_nil] at this;have:=List.length_pos_iff.mpr (zam.mp (zaJ hw hp)).1;omega
 obtain⟨_,t,ht,hs2⟩:=zdL.mp hp;exact zdL.mpr ⟨h0,t,ht,hs'.trans hs2⟩
theorem zlv {cs:Ch}{f:List Int->Int} (h:∀c∈cs,c.2=f c.1):cs=(ksC cs).map fun q=>(q,f q):=by
 unfold ksC;rw[Ap]
 conv=>lhs; rw[<- List.map_id cs]
 exact A6 fun c hc=>Prod.ext rfl (h c hc)
theorem zl9 {p:List Int} (h:p.Nodup):stm p 1=(rims p).map fun q=>(q,sg1 p q):=by
 have hk:(ksC (stm p 1)).Nodup:=by rw[zcu]; exact zbk h
 have:=zlv (cs:=stm p 1) (f:=sg1 p) fun c hc=>by unfold sg1; rw[zaH hk,zbC hk c hc]
 rw[zcu] at this;exact this
structure Thn (R:List Int->List Int->Int) (x:List Int×Ch):Prop where
 nd:(ksC x.2).Nodup
 nz:∀t∈x.2,t.2≠0
 at_:∀e,tot x.2 e=((rims x.1).map fun r=>sg1 x.1 r*R r e).sum
def RwD (H:Hp) (t:Addr×Addr) (x:List Int×Ch):Prop:=∃b,H t.1=some (.tup [.ref b,.ref t.2])/\Tp H b x.1/\H t.2=some (.dT (kvC x.2))
def RwsD (H:Hp) (ts:List (Addr×Addr)) (xs:List (List Int×Ch)):Prop:=Paired (RwD H) ts xs
theorem RwsD.same {H H':Hp}{ts:List (Addr×Addr)}{xs:List (List Int×Ch)} (h:RwsD H ts xs) (s:Same H H'):RwsD H' ts xs:=Paired.mapP h fun t c ⟨b,e1,e2,e3⟩=>⟨b,s _ _ e1,s.tp e2,s _ _ e3⟩
theorem RwD.upd {H:Hp}{d:Addr}{o:HO}{ys:List V}{t:Addr×Addr}{x:List Int×Ch} (h:RwD H t x) (hd:H d=some (.lst ys)):RwD (L2.upd H d o) t x:=by
 obtain⟨b,e1,e2,e3⟩:=h;have go:∀{c:Addr} {q:HO},H c=some q->q≠.lst ys->L2.upd H d o c=some q:=fun {c q} ec hn=>by rw[zk fun z=>hn (by subst z; rw[ec] at hd; exact Ao hd)]; exact ec
 exact⟨b,go e1 (by intro z; cases z),go (show H b=some _ from e2) (by intro z; cases z),go e3 (by intro z; cases z)⟩
theorem RwsD.upd {H:Hp}{d:Addr}{o:HO}{ys:List V}{ts:List (Addr×Addr)}{xs:List (List Int×Ch)} (h:RwsD H ts xs) (hd:H d=some (.lst ys)):RwsD (L2.upd H d o) ts xs:=Paired.mapP h fun _ _ q=>q.upd hd
theorem RwsD.get {H:Hp}:∀{ts:List (Addr×Addr)}{cs:List (List Int×Ch)}{i:Nat}{t:Addr×Addr},RwsD H ts cs->ts[i]?=some t->∃c,cs[i]?=some c/\RwD H t c
 | _,_,0,_,.cons h _,e=>by cases e; exact⟨_,rfl,h⟩
 | _,_,i+1,_,.cons _ t,e=>RwsD.get (i:=i) t (by simpa using e)
abbrev rowV (t:Addr×Addr):V:=.ref t.1
abbrev tRow (K:Ad):TE:=tTup (zW (tVar 0) (zW (zji (spBr K) [] E0 (zW (zji zdI [] E0 (zW (tVar 0) (zW (tC (.int 1)) tNil))) (zW (tVar 1) tNil))) tNil))
section
variable {P:Program}{w:World}{K:Ad}{mg:Str->Option Value}{base:Heap}
theorem zjd {H2:Hp}{L D d:Addr}{as:List Addr}{rs l:List (List Int)}{R:List Int->List Int->Int}{es:List En}{Q:VK} (hl:H2 L=some (.lst (as.map V.ref))) (ht:Tps H2 as rs) (hz:rs.length<=1000) (h5:∀r∈rs,r.length<=5/\r.Nodup) (he:Ends H2 d es) (hin:∀r∈rs,∀q∈rims r,q∈es.map (·.1)) (hok:Ok l R es) (hlz:l.length<=200) (hD:H2 D=none)
  (k:∀(H3:Hp) (ts:List (Addr×Addr)) (xs:List (List Int×Ch)),Same H2 H3->H3 D=some (.lst (ts.map rowV))->RwsD H3 ts xs->xs.map (·.1)=rs->(∀x∈xs,Thn R x/\x.2.length<=200)->(ts.map (·.2)).Nodup->(∀t∈ts,H2 t.2=none)->Q (.ref D) H3) :
  zaj (Itl K L) (zX 0) tYes (tRow K) [none,some (.ref d)] H2 D Q:=by
 have hla:=ht.length;refine zL (xs:=as.map V.ref) (fun j σ ys H3=>∃(v0:Option V) (ts:List (Addr×Addr)) (xs:List (List Int×Ch)),σ=[v0,some (.ref d)]/\Same H2 H3/\H3 D=some (.lst ys)/\ys=ts.map rowV/\RwsD H3 ts xs/\xs.map (·.1)=rs.take j/\(∀x∈xs,Thn R x/\x.2.length<=200)/\(ts.map (·.2)).Nodup/\∀t∈ts,H2 t.2=none) ?_ ?_ ?_ ?_
 ·exact⟨none,[],[],rfl,Same.new hD,upd_same,rfl,.nil,rfl,(fun x hx=>by cases hx),List.nodup_nil,(fun x hx=>by cases hx)⟩
 ·rintro j σ ys H3 ⟨v0,ts,xs,rfl,sm,hD3,rfl,_⟩
  exact SqL.of (sm _ _ hl)
 ·rintro j σ ys H3 v hv hj hy ⟨v0,ts,xs,rfl,sm,hD3,rfl,hp,hx1,hx2,hx3,hx4⟩
  obtain⟨o,eo,rfl⟩:=zE hv;obtain⟨r,er,ho⟩:=ht.get eo;have hrm:=Ak er;have hn:(as.map V.ref).length<=sizeLine:=by rw[Ab]; exact line_big (by omega)
  refine gyes ⟨_,rfl,_,rfl,o,r,1,rfl,sm.tp ho,(h5 r hrm).1,fun D4 H4 us s4 _ hD4 hp4=>⟨_,rfl,D4,d,us,_,es,l,R,rfl,SqL.of hD4,hp4,he.same (sm.trans s4),fun c hc=>⟨hin r hrm c.1 (zeP hc).1,(zeP hc).2⟩,?_,hok,fun D5 H5 c s5 hD50 hD5 hc1 hc2 hc3 hc4=>⟨line_big (by simp),fun p hp0=>?_⟩⟩⟩
  ·rw[zkN]; have:=zao r; have:=(h5 r hrm).1; omega
  have s45:=s4.trans s5;have s2:=s45.trans (Same.new (o:=.tup [.ref o,.ref D5]) hp0);have hth:Thn R (r,c):=⟨hc1,hc3,fun e=>by rw[hc4 e,zl9 (h5 r hrm).2,Ap]; rfl⟩;have hrow:RwD (upd H5 p (.tup [.ref o,.ref D5])) (p,D5) (r,c):=⟨o,upd_same,s2.tp (sm.tp ho),Same.new hp0 _ _ hD5⟩;have hfree:H3 D5=none:=s4.free hD50;refine cput hn hj hy (s2 _ _ hD3) ⟨_,ts++[(p,D5)],xs++[(r,c)],rfl,(sm.trans s2).then hD,upd_same,by rw[Ag]; rfl,?_,?_,?_,?_,?_⟩
  ·exact RwsD.upd (Paired.snoc (hp.same s2) hrow) (s2 _ _ hD3)
  ·rw[AH er,Ag,hx1]; rfl
  ·intro x hx
   rcases List.mem_append.mp hx with hx | hx
   ·exact hx2 x hx
   ·rw[List.mem_singleton.mp hx]; exact⟨hth,AG (zc6 hc1 hc2) hlz⟩
  ·rw[Ag,AL]
   refine⟨hx3,by simp,fun a ha b hb e=>?_⟩;have hb':b=D5:=by simpa using hb
   obtain⟨t,ht',rfl⟩:=List.mem_map.mp ha;obtain⟨i,hi⟩:=List.getElem?_of_mem ht';obtain⟨c',_,b',_,_,e3⟩:=hp.get hi;rw[e,hb',hfree] at e3;cases e3
  ·intro t ht'
   rcases List.mem_append.mp ht' with h | h
   ·exact hx4 t h
   ·rw[List.mem_singleton.mp h]; exact sm.free hfree
 ·rintro σ ys H3 ⟨v0,ts,xs,rfl,sm,hD3,rfl,hp,hx1,hx2,hx3,hx4⟩
  rw[Ab,hla,An (Af _)] at hx1;exact k H3 ts xs sm hD3 hp hx1 hx2 hx3 hx4
def zjU (K:Ad):Sp:=fun vs H Q _=>∃l m as pss ts ps R,vs=[.ref l,.ref m]/\SqL K H l (as.map V.ref)/\Tps H as pss/\webS pss/\SqL K H m (ts.map V.ref)/\Prs2 H ts ps/\ps.length<=100/\PG (canon pss) ps/\IsR ((canon pss).filter fun p=>!decide (p∈stds ps)) ps R/\
 ∀D H' rs xs,Same H H'->H D=none->H' D=some (.lst (List.map rowV rs))->RwsD H' rs xs->xs.map (·.1)=((canon pss).filter fun p=>!decide (p∈stds ps))->(∀x∈xs,Thn R x/\x.2.length<=200)->(rs.map (·.2)).Nodup->(∀t∈rs,H t.2=none)->Q (.ref D) H'
theorem zgR:zu ["web","pairs","left","ends"] ["web","pairs"] (zh zes):=⟨rfl,rfl,rfl,by decide +kernel,rfl,by decide +kernel,by decide +kernel⟩
theorem zlc {f fl fe ft fb:Addr}{fd fdl fde fdt fdb:FuncData} (F:Fun K "thin_seams" "thin_seams" zes f fd) (B:Bt mg)
  (Fl:Fun K "left_over" "left_over" zei fl fdl) (bl:Binds K fdl ["web","pairs"] []) (ml:mg "left_over"=some (.ref fl)) (Gl:FnOk P w K mg base CX0 10 fl fdl ["web","pairs"] (zkd K))
  (Fe:Fun K "ends_of" "ends_of" zeE fe fde) (be:Binds K fde ["left","pairs"] []) (me:mg "ends_of"=some (.ref fe)) (Ge:FnOk P w K mg base CX0 4 fe fde ["left","pairs"] (zkc K))
  (Ft:Fun K "seam_terms" "seam_terms" zbL ft fdt) (bt:Binds K fdt ["piece","often"] []) (mt:mg "seam_terms"=some (.ref ft)) (Gt:FnOk P w K mg base CX0 2 ft fdt ["piece","often"] zdI)
  (Fb:Fun K "brought_to_ends" "brought_to_ends" sBr fb fdb) (bb:Binds K fdb ["terms","ends"] []) (mb:mg "brought_to_ends"=some (.ref fb)) (Gb:FnOk P w K mg base CX0 2 fb fdb ["terms","ends"] (spBr K)) :
  FnOk P w K mg base CX0 11 f fd ["web","pairs"] (zjU K):=by
 refine F.ok zgR (fun vs H Q E h=>?_) (fun cdv A outer s H vs Q E hr h=>?_)
 ·obtain⟨l,m,as,pss,ts,ps,R,rfl,_⟩:=h; rfl
 ·obtain⟨l,m,as,pss,ts,ps,R,rfl,hl,ha,hw,hm,ht,hz,pg,hR,k⟩:=h
  have hr2:Room 2 _:=hr.mono (by decide);have hr4:Room 4 _:=hr.mono (by decide);refine⟨_,zf (zq (i:=2) zgR.nd rfl (Or.inl rfl) (zn Gl hr rfl ml Fl.kp bl .nil pass0 (ze (pv 0) (ze (pv 1) zg))))
   (zf (zq (i:=3) zgR.nd rfl (Or.inr rfl) (zn Ge hr4 rfl me Fe.kp be .nil pass0 (ze (pv 2) (ze (pv 1) zg))))
   (zi (zt (zx ["web","pairs","left","ends"] ["piece","ends"] [none,some 3] (zw (pv 2)) (fun cl C s₀ H₀ ex=>zm (i:=0) (ndN ["piece","ends"]) rfl (Or.inl rfl))
    (fun cl C s₀ H₀ ex=>zN) (fun cl C s₀ H₀ ex=>zak (ze (pv 0) (ze (zn Gb hr2 rfl mb Fb.kp bb .nil pass0 (ze (zn Gt hr2 rfl mt Ft.kp bt .nil pass0 (ze (pv 0) (ze zl zg))) (ze (pv 1) zg))) zg)))
    (hfr:=frOf (zh zes) (by decide +kernel)) (te:=tRow K))))),?_⟩
  obtain⟨_,_,_,h200⟩:=za7 hw.1;rw[<- zas] at h200;have cp:∀p∈canon pss,p.length<=5/\p.Nodup:=fun p hp=>by
   obtain⟨_,h5,_,hpw⟩:=zam.mp (zaJ hw.1 hp);exact⟨h5,hpw.imp fun h z=>absurd (z ▸ h) (by omega)⟩
  refine⟨_,rfl,_,rfl,l,m,as,pss,ts,ps,rfl,hl,ha,hw,hm,ht,pg,hz,fun LD H2 bs s2 hL0 hL2 hb2=>?_⟩;refine⟨_,rfl,_,rfl,LD,m,bs,ts,canon pss,ps,R,rfl,SqL.of hL2,hb2,s2.seq hm,ht.same s2,pg,zeS pss,fun p hp r hr=>zdS hw.1 hp hr,fun p hp=>(cp p hp).1,h200,hz,fun p hp=>(cp p hp).2,hR,fun ED H3 es s3 hE0 hE3 hall hok=>?_⟩;have hfl:((canon pss).filter fun p=>!decide (p∈stds ps)).length<=(canon pss).length:=List.length_filter_le _ _;have hfm:∀p∈(canon pss).filter (fun p=>!decide (p∈stds ps)),p∈canon pss:=fun p hp=>(List.mem_filter.mp hp).1;have s23:=s2.trans s3;refine⟨_,rfl,LD,rfl,⟨_,SqL.of (s3 _ _ hL2)⟩,fun D hD=>zG (zjd (s3 _ _ hL2) (s3.tps hb2) (by omega) (fun r hr=>cp r (hfm r hr)) hE3 (fun r hr q hq=>hall q (zdS hw.1 (hfm r hr) hq)) hok (by omega) hD fun H4 us xs s4 hD4 hu4 hx1 hx2 hx3 hx4=>k D H4 us xs (s23.trans s4) (s23.free hD) hD4 hu4 hx1 hx2 hx3 fun t ht=>s23.free (hx4 t ht))⟩
end
end K48
end
section
namespace K48
open K1
open PySem L2 STb
abbrev zey:Stmt:=top 47
abbrev zbc:Stmt:=top 48
theorem zmg {p r:List Int} (h:p.Nodup) {j:Nat} (e:(rims p)[j]?=some r):sg1 p r=1 - 2*((j:Int) % 2):=by
 have hk:(ksC (stm p 1)).Nodup:=by rw[zcu]; exact zbk h
 have hm:(r,sg j 1)∈stm p 1:=by
  refine Ak (i:=j) ?_;unfold stm;rw[Al,List.getElem?_zipIdx,e];simp
 unfold sg1;rw[zaH hk,zbC hk _ hm];show sg j 1=_;unfold sg
 by_cases hj:(j:Int) % 2=0
 ·rw[if_pos hj,hj]; rfl
 ·have:(j:Int) % 2=1:=by omega
  rw[if_neg hj,this]; rfl
theorem zg7 {p r:List Int} (h:p.Nodup) (hr:r∈rims p):sg1 p r=1 \/ sg1 p r=-1:=by
 obtain⟨j,e⟩:=List.getElem?_of_mem hr;rw[zmg h e];have:(j:Int) % 2=0 \/ (j:Int) % 2=1:=by omega
 rcases this with e | e <;> rw[e]
 ·exact .inl rfl
 ·exact .inr rfl
def accC (fc ts:Ch):Ch:=ts.foldl addC fc
theorem zdr (fc ts:Ch) (t:List Int×Int):accC fc (ts++[t])=addC (accC fc ts) t:=by unfold accC; rw[List.foldl_append]; rfl
theorem zdD {fc:Ch} (hf:(ksC fc).Nodup) (ts:Ch):(ksC (accC fc ts)).Nodup/\(∀k∈ksC (accC fc ts),k∈ksC fc \/ k∈ksC ts)/\(∀e,tot (accC fc ts) e=tot fc e+tot ts e):=
 zaE (P:=fun ts=>(ksC (accC fc ts)).Nodup/\(∀k∈ksC (accC fc ts),k∈ksC fc \/ k∈ksC ts)/\(∀e,tot (accC fc ts) e=tot fc e+tot ts e)) ⟨hf,fun k hk=>.inl hk,fun e=>by show tot fc e=tot fc e+0; simp⟩ (fun l x ⟨h1,h2,h3⟩=>by
  have hn:(ksC (addC (accC fc l) x)).Nodup:=zb4 _ _ h1;rw[zdr];refine⟨hn,fun k hk=>?_,fun e=>?_⟩
  ·unfold addC at hk
   rcases putC_mem hk with hk | hk
   ·rcases h2 k hk with h | h
    ·exact .inl h
    ·exact .inr (by unfold ksC at h ⊢; rw[Ag]; exact AI _ h)
   ·exact .inr (by rw[hk]; unfold ksC; rw[Ag]; simp)
  ·rw[zaH hn]
   unfold addC;rw[zfi,zhq,zbV];have h3':=h3 e;rw[zaH h1] at h3';have h0:tot [] e=0:=rfl
   by_cases he:e=x.1
   ·subst he
    rw[if_pos rfl,if_pos rfl,h3',h0]; omega
   ·rw[if_neg he,if_neg (fun z=>he z.symm),h3',h0]; omega) ts
theorem zhN {fc ts:Ch}{l:List (List Int)} (hf:(ksC fc).Nodup) (h1:∀k∈ksC fc,k∈l) (h2:∀k∈ksC ts,k∈l):(accC fc ts).length<=l.length:=
 zc6 (zdD hf ts).1 fun k hk=>((zdD hf ts).2.1 k hk).elim (h1 k) (h2 k)
theorem zis {cs:Ch}{i:Nat}{q:List Int} (h:(ksC cs)[i]?=some q):∃c,cs[i]?=some c/\c.1=q:=by
 unfold ksC at h;rw[Al] at h;cases e:cs[i]? with
 | none=>rw[e] at h; cases h
 | some c=>rw[e] at h; exact⟨c,rfl,Ao h⟩
section
variable {P:Program}{w:World}{K:Ad}{mg:Str->Option Value}{base:Heap}
def zhz:Sp:=fun vs H Q _=>∃a b p r,vs=[.ref a,.ref b]/\Tp H a p/\Tp H b r/\p.length<=5/\p.Nodup/\r∈rims p/\∀H',Same H H'->Q (.int (sg1 p r)) H'
theorem zmu:zu ["piece","rim"] ["piece","rim"] (zh zey):=⟨rfl,rfl,rfl,by decide +kernel,rfl,by decide +kernel,by decide +kernel⟩
theorem zlD {f fr:Addr}{fd fdr:FuncData} (F:Fun K "_law_sign" "_law_sign" zey f fd) (B:Bt mg)
  (Fr:Fun K "_law_rims" "_law_rims" zbs fr fdr) (br:Binds K fdr ["piece"] []) (mr:mg "_law_rims"=some (.ref fr)):FnOk P w K mg base CX0 2 f fd ["piece","rim"] zhz:=by
 have Gr:FnOk P w K mg base CX0 1 fr fdr ["piece"] zbK:=zdT Fr B;refine F.ok zmu (fun vs H Q E h=>?_) (fun cdv A outer s H vs Q E hr h=>?_)
 ·obtain⟨a,b,p,r,rfl,_⟩:=h; rfl
 ·obtain⟨a,b,p,r,rfl,ha,hb,h5,hn,hm,k⟩:=h
  have hu64:=hr.units;refine⟨_,zi (zt (zH zj4 zl (zH za1 zl (zH zbW (zci AU PySem.F.slot_list_index PySem.F.type_list_index (zhr (in1_units hu64)) (zn Gr hr rfl mr Fr.kp br .nil pass0 (ze (pv 0) zg)) (ze (pv 1) zg)) zl)))),?_⟩;obtain⟨j,hj,ej,hlt⟩:∃j,(rims p)[j]?=some r/\j<5/\∀m q,m<j->(rims p)[m]?=some q->q≠r:=by
   obtain⟨j,e⟩:=List.getElem?_of_mem hm;have hjl:=(List.getElem?_eq_some_iff.mp e).1;have:=zao p;refine⟨j,e,by omega,fun m q hmj em eq=>?_⟩;subst eq;have hnd:=zbk hn;have h1:=List.pairwise_iff_getElem.mp hnd m j (by omega) hjl hmj;exact h1 (by rw[(List.getElem?_eq_some_iff.mp em).2,(List.getElem?_eq_some_iff.mp e).2])
  refine⟨_,rfl,a,p,rfl,ha,h5,fun RL H1 rs s1 _ hR hrs=>?_⟩;refine⟨.inl ⟨rfl,_,SqL.of hR⟩,_,rfl,RL,b,rs,rims p,r,j,rfl,rfl,hR,hrs,s1.tp hb,hj,hlt,by have:=zao p; omega,_,_,rfl,rfl,(by show (0:Int)<2; decide),_,_,rfl,rfl,.inl ⟨by decide,by decide⟩,_,_,rfl,rfl,?_⟩;have:=k H1 s1;rw[zmg hn hj] at this;exact this
end
end K48
end
section
namespace K48
open K1
open PySem L2 STb
def SB2 (k f:Addr) (H H':Hp):Prop:=∀b o,b≠k->b≠f->H b=some o->H' b=some o
theorem SB2.refl {k f:Addr}{H:Hp}:SB2 k f H H:=fun _ _ _ _ e=>e
theorem SB2.trans {k f:Addr}{H H1 H2:Hp} (a:SB2 k f H H1) (b:SB2 k f H1 H2):SB2 k f H H2:=fun c o h1 h2 e=>b c o h1 h2 (a c o h1 h2 e)
theorem SB2.of {k f:Addr}{H H1:Hp} (s:Same H H1):SB2 k f H H1:=fun c o _ _ e=>s _ _ e
theorem SB2.ofB {k f:Addr}{H H1:Hp} (s:zaa k H H1):SB2 k f H H1:=fun c o h _ e=>s c o h e
theorem SB2.updf {k f:Addr}{H H1:Hp}{o:HO} (s:SB2 k f H H1):SB2 k f H (upd H1 f o):=fun c u h1 h2 e=>by rw[zk h2]; exact s c u h1 h2 e
theorem SB2.tp {k f:Addr}{H H1:Hp}{x y:List (List Key×V)} (s:SB2 k f H H1) (hk:H k=some (.dT x)) (hf:H f=some (.dT y)) {a:Addr}{p:List Int} (h:Tp H a p):Tp H1 a p:=
 s _ _ (fun z=>by subst z; rw[show H a=some _ from h] at hk; cases hk) (fun z=>by subst z; rw[show H a=some _ from h] at hf; cases hf) h
theorem SB2.tps {k f:Addr}{H H1:Hp}{x y:List (List Key×V)} (s:SB2 k f H H1) (hk:H k=some (.dT x)) (hf:H f=some (.dT y)) {as:List Addr}{ps:List (List Int)} (h:Tps H as ps):Tps H1 as ps:=Paired.mapP h fun _ _ q=>s.tp hk hf q
theorem SB2.lst {k f:Addr}{H H1:Hp}{x y:List (List Key×V)} (s:SB2 k f H H1) (hk:H k=some (.dT x)) (hf:H f=some (.dT y)) {a:Addr}{xs:List V} (h:H a=some (.lst xs)):H1 a=some (.lst xs):=
 s _ _ (fun z=>by subst z; rw[h] at hk; cases hk) (fun z=>by subst z; rw[h] at hf; cases hf) h
theorem SB2.sec {k f:Addr}{H H1:Hp}{x y:List (List Key×V)} (s:SB2 k f H H1) (hk:H k=some (.dT x)) (hf:H f=some (.dT y)) {d:Addr}{ps:List Pq} (nk:d≠k) (nf:d≠f) (h:Sec H d ps):Sec H1 d ps:=
 let ⟨kvs,e,p⟩:=h; ⟨kvs,s _ _ nk nf e,Paired.mapP p fun _ _ ⟨h1,b,h2,h3⟩=>⟨h1,b,h2,s.tp hk hf h3⟩⟩
structure GoodC (left:List (List Int)) (R:List Int->List Int->Int) (q:List Int) (c:Ch):Prop where
 nd:(ksC c).Nodup
 ks:∀k∈ksC c,k∈left
 at_:∀e,tot c e=R q e
def KnS (H:Hp) (kd:Addr) (kn left:List (List Int)) (R:List Int->List Int->Int):Prop:=∃kvs:List (List Key×V),H kd=some (.dT kvs)/\(kvs.map (·.1)).Nodup/\(∀k∈kvs.map (·.1),∃q∈kn,k=q.map Sum.inl)/\∀(q:List Int) v,valV kvs (q.map Sum.inl)=some v->∃b c,v=.ref b/\b≠kd/\H b=some (.dT (kvC c))/\GoodC left R q c
def Nv (H:Hp) (kd F:Addr):Prop:=∀(kvs:List (List Key×V)) (k:List Key),H kd=some (.dT kvs)->valV kvs k≠some (.ref F)
def VA (H:Hp) (kd:Addr) (q:List Int) (b:Addr):Prop:=∃kvs:List (List Key×V),H kd=some (.dT kvs)/\valV kvs (q.map Sum.inl)=some (.ref b)
section
variable {H H':Hp}{kd F:Addr}{kn left:List (List Int)}{R:List Int->List Int->Int}{q:List Int}
theorem KnS.same (h:KnS H kd kn left R) (s:Same H H'):KnS H' kd kn left R:=by
 obtain⟨kvs,h1,h2,h3,h4⟩:=h;exact⟨kvs,s _ _ h1,h2,h3,fun q v e=>let ⟨b,c,a1,a2,a3,a4⟩:=h4 q v e; ⟨b,c,a1,a2,s _ _ a3,a4⟩⟩
theorem KnS.updF (h:KnS H kd kn left R) (nv:Nv H kd F) (nF:F≠kd) {o:HO}:KnS (upd H F o) kd kn left R:=by
 obtain⟨kvs,h1,h2,h3,h4⟩:=h;refine⟨kvs,by rw[zk nF.symm]; exact h1,h2,h3,fun q v e=>?_⟩;obtain⟨b,c,a1,a2,a3,a4⟩:=h4 q v e;exact⟨b,c,a1,a2,by rw[zk fun z=>nv kvs _ h1 (by rw[e,a1,z])]; exact a3,a4⟩
theorem KnS.len (h:KnS H kd kn left R) {kvs:List (List Key×V)} (e:H kd=some (.dT kvs)):kvs.length<=kn.length:=by
 obtain⟨kvs',h1,h2,h3,_⟩:=h;obtain rfl:kvs=kvs':=by rw[h1] at e; cases e; rfl
 have:=h2.length_le_of_subset (l₂:=kn.map fun q=>(q.map Sum.inl:List Key)) fun k hk=>by
  obtain⟨q,hq,e⟩:=h3 k hk;exact List.mem_map.mpr ⟨q,hq,e.symm⟩
 rw[Ab,Ab] at this;exact this
theorem KnS.nv (h:KnS H kd kn left R) (hF:H F=none):Nv H kd F:=fun kvs k e ev=>by
 obtain⟨kvs',h1,_,h3,h4⟩:=h;obtain rfl:kvs=kvs':=by rw[h1] at e; cases e; rfl
 obtain⟨q,_,rfl⟩:=h3 k (zds ev);obtain⟨b,c,a1,_,a3,_⟩:=h4 q _ ev;injection a1 with a1
 rw[<- a1,hF] at a3;cases a3
theorem Nv.same (h:Nv H kd F) (s:Same H H') {kvs:List (List Key×V)} (e:H kd=some (.dT kvs)):Nv H' kd F:=fun kvs' k e'=>by
 rw[s _ _ e] at e';cases e';exact h kvs k e
theorem Nv.updF {G:Addr} (h:Nv H kd F) (nG:G≠kd) {o:HO}:Nv (upd H G o) kd F:=fun kvs k e=>h kvs k (by rw[zk nG.symm] at e; exact e)
theorem put_keys (kvs:List (List Key×V)) (k:List Key) (v:V):(k∈kvs.map (·.1)/\(putK kvs k v).map (·.1)=kvs.map (·.1)) \/ (k∉kvs.map (·.1)/\(putK kvs k v).map (·.1)=kvs.map (·.1)++[k]):=by
 cases e:valV kvs k with
 | none=>exact .inr ⟨zjK e,by rw[zcs v e,Ag]; rfl⟩
 | some u=>
  refine .inl ⟨zds e,?_⟩;unfold putK;rw[zaw,e];simp only[Option.isSome_some,if_true];rw[Ap];refine A6 fun kv _=>?_;show (if kv.1=k then (kv.1,v) else kv).1=kv.1;split <;> rfl
theorem KnS.put (h:KnS H kd kn left R) (hq:q∈kn) {fc:Ch} (hF:H F=some (.dT (kvC fc))) (nF:F≠kd) (g:GoodC left R q fc) {kvs:List (List Key×V)} (e:H kd=some (.dT kvs)) :
  KnS (upd H kd (.dT (putK kvs (q.map Sum.inl) (.ref F)))) kd kn left R/\VA (upd H kd (.dT (putK kvs (q.map Sum.inl) (.ref F)))) kd q F:=by
 obtain⟨kvs',h1,h2,h3,h4⟩:=h;obtain rfl:kvs=kvs':=by rw[h1] at e; cases e; rfl
 refine⟨⟨_,upd_same,?_,fun k hk=>?_,fun q' v ev=>?_⟩,⟨_,upd_same,by rw[zdU,if_pos rfl]⟩⟩
 ·rcases put_keys kvs (q.map Sum.inl) (.ref F) with ⟨_,ek⟩ | ⟨hn,ek⟩
  ·rw[ek]; exact h2
  ·rw[ek,AL]
   exact⟨h2,by simp,fun a ha b hb z=>hn (by rw[List.mem_singleton.mp hb] at z; rw[<- z]; exact ha)⟩
 ·rcases put_keys kvs (q.map Sum.inl) (.ref F) with ⟨_,ek⟩ | ⟨_,ek⟩
  ·rw[ek] at hk; exact h3 k hk
  ·rw[ek] at hk
   rcases List.mem_append.mp hk with hk | hk
   ·exact h3 k hk
   ·exact⟨q,hq,List.mem_singleton.mp hk⟩
 ·rw[zdU] at ev
  by_cases eq:(q'.map Sum.inl:List Key)=q.map Sum.inl
  ·rw[if_pos eq] at ev
   obtain rfl:=zai.mp eq;exact⟨F,fc,(Ao ev).symm,nF,by rw[zk nF]; exact hF,g⟩
  ·rw[if_neg eq] at ev
   obtain⟨b,c,a1,a2,a3,a4⟩:=h4 q' v ev;exact⟨b,c,a1,a2,by rw[zk a2]; exact a3,a4⟩
theorem KnS.at_ (h:KnS H kd kn left R) {b:Addr} (va:VA H kd q b):∃c,b≠kd/\H b=some (.dT (kvC c))/\GoodC left R q c:=by
 obtain⟨kvs,h1,h2,h3,h4⟩:=h;obtain⟨kvs',e,ev⟩:=va;rw[h1] at e;cases e;obtain⟨b',c,a1,a2,a3,a4⟩:=h4 q _ ev;injection a1 with a1
 subst a1;exact⟨c,a2,a3,a4⟩
end
structure Sf (kn left:List (List Int)) (ps:List Pq) (R:List Int->List Int->Int):Prop where
 pg:PG kn ps
 lm:∀p,p∈left ↔ p∈kn/\p∉stds ps
 hR:IsR left ps R
 cp:∀p∈kn,p.length<=5/\p.Nodup
 cl:∀p∈kn,∀r∈rims p,r∈kn
 few:kn.length<=200
 fwl:left.length<=200
theorem key_ne {H:Hp}{d a:Addr}{kvs:List (List Key×V)}{p:List Int} (hd:H d=some (.dT kvs)) (h:Tp H a p):a≠d:=fun z=>by subst z; rw[show H a=some _ from h] at hd; cases hd
end K48
end
section
namespace K48
open K1
open PySem L2 STb
abbrev nmRd:List Str:=["piece","by_first","left","known","found","there","rim","worth","ends","end"]
abbrev rdB:List Stmt:=match List.drop 3 (zp zbc) with
 | .If _ b _ _::_=>b
 | _=>[]
structure Fx (H H3:Hp) (kd FD:Addr) (kn left:List (List Int)) (R:List Int->List Int->Int) (q:List Int) (fc:Ch):Prop where
 sb:zaa kd H H3
 kn:KnS H3 kd kn left R
 hF:H3 FD=some (.dT (kvC fc))
 g:GoodC left R q fc
 nv:Nv H3 kd FD
 kp:∀F o,H F=some o->Nv H kd F->Nv H3 kd F
section
variable {P:Program}{w:World}{K:Ad}{mg:Str->Option Value}{base:Heap}
def zfa (n:Nat):Sp:=fun vs H Q _=>∃a bf lf kd q kn left ps R ls,vs=[.ref a,.ref bf,.ref lf,.ref kd]/\Tp H a q/\Sec H bf ps/\bf≠kd/\H lf=some (.lst (List.map V.ref ls))/\Tps H ls left/\KnS H kd kn left R/\Sf kn left ps R/\q∈kn/\Dp ps n q/\
 ∀b H',zaa kd H H'->KnS H' kd kn left R->VA H' kd q b->(∀F o,H F=some o->Nv H kd F->Nv H' kd F)->Q (.ref b) H'
theorem zbu:zu nmRd ["piece","by_first","left","known"] (zh zbc):=⟨rfl,rfl,rfl,by decide +kernel,rfl,by decide +kernel,by decide +kernel⟩
theorem zga {f:Addr}{fd:FuncData} (n:Nat) (F:Fun K "_law_roads" "_law_roads" zbc f fd) (B:Bt mg)
  (RB:∀{cdv A outer s H E} (hr:Room (n+2) (A.deeper (PyProof.Rows.envOfC "_law_roads" (zh zbc) s.heap.objs.size f cdv))),∃tr,PSs (cxOf CX0 P w K mg base nmRd "_law_roads" (zh zbc) f cdv A outer s H E).nox rdB tr/\
   ∀(a bf lf kd FD:Addr) (q:List Int) (kn left:List (List Int)) (ps:List Pq) (R:List Int->List Int->Int) (ls:List Addr) (D:L2.Ends) (H0 H1:Hp) (x:Pq),Tp H0 a q->Sec H0 bf ps->bf≠kd->H0 lf=some (.lst (List.map V.ref ls))->Tps H0 ls left->KnS H0 kd kn left R->Sf kn left ps R->q∈kn->Dp ps n q->H0 FD=none->Same H0 H1->H1 FD=some (.dT (kvC []))->x∈ps->x.1=q->
    (∀v5 v6 v7 v8 v9 H3 fc,Fx H0 H3 kd FD kn left R q fc->D.nx [some (.ref a),some (.ref bf),some (.ref lf),some (.ref kd),some (.ref FD),v5,v6,v7,v8,v9] H3)->
    tr D [some (.ref a),some (.ref bf),some (.ref lf),some (.ref kd),some (.ref FD),none,none,none,none,none] H1) :
  FnOk P w K mg base CX0 (n+3) f fd ["piece","by_first","left","known"] (zfa n):=by
 refine F.ok zbu (fun vs H Q E h=>?_) (fun cdv A outer s H vs Q E hr h=>?_)
 ·obtain⟨a,bf,lf,kd,q,kn,left,ps,R,ls,rfl,_⟩:=h; rfl
 ·obtain⟨a,bf,lf,kd,q,kn,left,ps,R,ls,rfl,ha,hs,nbk,hl,htl,hkn,sf,hq,hdp,k⟩:=h
  have hu:=zbo hr;have hu64:=hr.units;have hi1:=in1_units hu64;obtain⟨trB,htrB,restB⟩:=RB (cdv:=cdv) (A:=A) (outer:=outer) (s:=s) (H:=H) (E:=E) hr;refine⟨_,zf (zaf (zet (zda hu (pv 0) (pv 3)) (by with_unfolding_all rfl)) (zi (zt (zan hu (pv 3) (pv 0) (fun _ _=>rfl)))) zA)
   (zf (zq (i:=4) zbu.nd rfl (Or.inl rfl) zP)
   (zf (zaf (zy (r:=rInT false K) (zhD hi1) (pv 0) (pv 2) (by with_unfolding_all rfl)) (zi (zQ hu (pv 4) (pv 0) zl rfl)) zA)
   (zf (zaf (zet (zda hu (pv 0) (pv 1)) (by with_unfolding_all rfl)) htrB zA)
   (zf (zQ hu (pv 3) (pv 0) (pv 4) rfl)
   (zi (zt (pv 4))))))),?_⟩
  obtain⟨kvs,ek,hk2,hk3,hk4⟩:=id hkn;refine⟨_,rfl,_,rfl,kd,_,rfl,DGet.t (k:=q.map Sum.inl) ek (z0 ha),_,rfl,?_⟩;cases ev:valV kvs (q.map Sum.inl) with
  | some v=>
   obtain⟨b,c,rfl,_,hb,_⟩:=hk4 q v ev;refine iteT ⟨_,rfl,_,rfl,kd,_,rfl,.inr ⟨kvs,q.map Sum.inl,a,.inl ek,rfl,z0 ha,ev.symm⟩,k b H (fun _ _ _ e=>e) hkn ⟨kvs,ek,ev⟩ fun F o _ h=>h⟩
  | none=>
   refine iteF fun FD hFD=>?_;have sF:=Same.new (o:=.dT []) hFD;have nFk:FD≠kd:=Ne.symm (zj ek hFD);have nv0:=hkn.nv hFD;have fin:∀v5 v6 v7 v8 v9 H3 fc,Fx H H3 kd FD kn left R q fc->(∃a' H4,V.ref kd=V.ref a'/\DPut H3 a' (.ref a) (.ref FD) H4/\∃x,([some (.ref a),some (.ref bf),some (.ref lf),some (.ref kd),some (.ref FD),v5,v6,v7,v8,v9]:List (Option V))[4]?=some (some x)/\Q x H4):=fun v5 v6 v7 v8 v9 H3 fc fx=>by
    obtain⟨kvs3,e3,_,_,_⟩:=id fx.kn;have hl3:=fx.kn.len e3;have hfew:=sf.few;have ha3:Tp H3 a q:=fx.sb _ _ (key_ne ek ha) ha;obtain⟨kn4,va4⟩:=fx.kn.put hq fx.hF nFk fx.g e3;refine⟨kd,_,rfl,DPut.t (k:=q.map Sum.inl) e3 (z0 ha3) (zF (by omega)),_,rfl,k FD _ (fun b o hb e=>by rw[zk hb]; exact fx.sb b o hb e) kn4 va4 fun G o hG hnv kvs' kk e'=>?_⟩;rw[upd_same] at e';cases e';rw[zdU];split
    ·intro z
     injection z with z
     injection z with z
     rw[<- z,hFD] at hG;cases hG
    ·exact fx.kp G o hG hnv kvs3 kk e3
   refine⟨_,rfl,_,rfl,a,lf,q,ls,left,rfl,rfl,sF.tp ha,SqL.of (sF _ _ hl),sF.tps htl,_,rfl,?_⟩;rw[if_neg (by decide)]
   by_cases hql:q∈left
   ·rw[decide_eq_true hql]
    have hqs:=((sf.lm q).mp hql).2;refine iteT ⟨_,rfl,_,rfl,FD,_,rfl,DPut.t (k:=q.map Sum.inl) upd_same (z0 (sF.tp ha)) (zF (by simp)),?_⟩;have s2:Same H (upd (upd H FD (.dT [])) FD (.dT (putK [] (q.map Sum.inl) (.int 1)))):=sF.then hFD;obtain⟨kvb,eb,hpb⟩:=hs.same s2;refine⟨_,rfl,_,rfl,bf,_,rfl,DGet.t (k:=q.map Sum.inl) eb (z0 (s2.tp ha)),_,rfl,?_⟩;rcases sec_val hpb q with ⟨g1,_⟩ | ⟨b,q2,_,g2,_⟩
    ·rw[g1]
     refine iteF ⟨_,rfl,_,rfl,_,rfl,fin _ _ _ _ _ _ [(q,1)] ⟨fun b o _ e=>s2 _ _ e,hkn.same s2,upd_same,⟨by simp[ksC],fun kk hkk=>?_,fun e=>?_⟩,?_,?_⟩⟩
     ·have:kk=q:=by simpa[ksC] using hkk
      rw[this]; exact hql
     ·rw[sf.hR.lf q hql e]; simp[tot]
     ·exact nv0.same s2 ek
     ·exact fun G o _ hnv=>hnv.same s2 ek
    ·exact absurd (zbJ g2).1 hqs
   ·rw[decide_eq_false hql]
    refine iteF ?_;obtain⟨kvb,eb,hpb⟩:=hs.same sF;refine⟨_,rfl,_,rfl,bf,_,rfl,DGet.t (k:=q.map Sum.inl) eb (z0 (sF.tp ha)),_,rfl,?_⟩;rcases sec_val hpb q with ⟨g1,g1'⟩ | ⟨b,q2,g1,g2,_⟩
    ·rw[g1]
     have hqs:q∈stds ps:=Classical.byContradiction fun z=>hql ((sf.lm q).mpr ⟨hq,z⟩);obtain⟨y,hy,hqy⟩:=List.mem_flatMap.mp hqs;simp only[List.mem_cons,List.not_mem_nil,or_false] at hqy;have hq2:q=y.2:=hqy.resolve_left fun z=>g1' (List.mem_map.mpr ⟨y,hy,z.symm⟩);refine iteF ⟨_,rfl,_,rfl,_,rfl,fin _ _ _ _ _ _ [] ⟨fun b o _ e=>sF _ _ e,hkn.same sF,upd_same,⟨List.nodup_nil,(fun kk hkk=>by cases hkk),fun e=>?_⟩,nv0.same sF ek,fun G o _ hnv=>hnv.same sF ek⟩⟩;rw[hq2,sf.hR.sn y hy e]; rfl
    ·rw[g1]
     refine iteT (restB a bf lf kd FD q kn left ps R ls _ H _ (q,q2) ha hs nbk hl htl hkn sf hq hdp hFD sF upd_same g2 rfl fun v5 v6 v7 v8 v9 H3 fc fx=>⟨_,rfl,_,rfl,_,rfl,fin v5 v6 v7 v8 v9 H3 fc fx⟩)
end
end K48
end
section
namespace K48
open K1
open PySem L2 STb
section
variable {P:Program}{w:World}{K:Ad}{mg:Str->Option Value}{base:Heap}
theorem zft {f fr fs:Addr}{fd fdr fds:FuncData} (F:Fun K "_law_roads" "_law_roads" zbc f fd) (bf':Binds K fd ["piece","by_first","left","known"] []) (mf:mg "_law_roads"=some (.ref f)) (B:Bt mg)
  (Fr:Fun K "_law_rims" "_law_rims" zbs fr fdr) (br:Binds K fdr ["piece"] []) (mr:mg "_law_rims"=some (.ref fr))
  (Fs:Fun K "_law_sign" "_law_sign" zey fs fds) (bs:Binds K fds ["piece","rim"] []) (ms:mg "_law_sign"=some (.ref fs)) (Gs:FnOk P w K mg base CX0 2 fs fds ["piece","rim"] zhz) :
  ∀n,FnOk P w K mg base CX0 (n+3) f fd ["piece","by_first","left","known"] (zfa n)
 | 0=>zga 0 F B fun {cdv A outer s H E} hr=>⟨_,zbb,fun a bf lf kd FD q kn left ps R ls D H0 H1 x ha hs nbk hl htl hkn sf hq hdp hFD sF hF hx hxq _=>absurd hxq (hdp x hx)⟩
 | n+1=>by
  have Gf:=zft F bf' mf B Fr br mr Fs bs ms Gs n;have Gr:FnOk P w K mg base CX0 1 fr fdr ["piece"] zbK:=zdT Fr B;refine zga (n+1) F B fun {cdv A outer s H E} hr=>?_;have hu:=zbo hr;have hu64:=hr.units;have hr1:Room 1 _:=hr.mono (by omega);have hr2:Room 2 _:=hr.mono (by omega);refine⟨_,zf (zq (i:=5) zbu.nd rfl (Or.inl rfl) (zan hu (pv 1) (pv 0) (fun _ _=>rfl)))
   (zi (zM AF rfl (zw (zn Gr hr1 rfl mr Fr.kp br .nil pass0 (ze (pv 5) zg))) (zm (i:=6) zbu.nd rfl (Or.inl rfl))
    (zi (zaf (zy (zh7 hu64) (pv 6) (pv 0) (nomark _))
     (zf (zq (i:=7) zbu.nd rfl (Or.inl rfl) (zH za1 (zgN zeC (zn Gs hr2 rfl ms Fs.kp bs .nil pass0 (ze (pv 5) (ze (pv 6) zg)))) (zn Gs hr2 rfl ms Fs.kp bs .nil pass0 (ze (pv 5) (ze (pv 0) zg)))))
     (zf (zq (i:=8) zbu.nd rfl (Or.inl rfl) (zn Gf hr rfl mf F.kp bf' .nil pass0 (ze (pv 6) (ze (pv 1) (ze (pv 2) (ze (pv 3) zg))))))
     (zi (zM AF rfl (zw (zB (zay rfl) rfl B.list zaK (ze (pv 8) zg))) (zm (i:=9) zbu.nd rfl (Or.inl rfl))
      (zi (zQ hu (pv 4) (pv 9) (zH zat (zdF hu (pv 4) (pv 9) zl ⟨rfl,rfl,rfl,rfl⟩) (zH za1 (pv 7) (zan hu (pv 8) (pv 9) (fun _ _=>rfl)))) rfl)))))) zA)))),?_⟩
  intro a bf lf kd FD q kn left ps R ls D H0 H1 x ha hs nbk hl htl hkn sf hq hdp hFD s1 hF1 hx hxq kD;subst hxq;obtain⟨kvs0,ek0,_⟩:=id hkn;have nFk:FD≠kd:=Ne.symm (zj ek0 hFD);have ek1:=s1 _ _ ek0;obtain⟨kvb,eb,hpb⟩:=hs.same s1;have nFb:bf≠FD:=by obtain⟨kv,e,_⟩:=hs; exact zj e hFD
  obtain⟨hx2,hx1⟩:=sf.pg.has x hx;obtain⟨hx5,hxn⟩:=sf.cp _ hx2;have ha1:=s1.tp ha;rcases sec_val hpb x.1 with ⟨_,g⟩ | ⟨tb,q2,g1,g2,htb⟩
  ·exact absurd (List.mem_map.mpr ⟨x,hx,rfl⟩) g
  have hq2:(x.1,q2)=x:=zfg (f:=(·.1)) (zc7 sf.pg.nd) g2 hx rfl;have hq2':q2=x.2:=by rw[<- hq2]
  subst hq2';refine⟨_,rfl,_,rfl,bf,_,rfl,.inr ⟨kvb,x.1.map Sum.inl,a,.inl eb,rfl,z0 ha1,g1.symm⟩,?_⟩;refine⟨_,rfl,tb,x.2,rfl,htb,hx5,fun RL H2 rs s2 _ hRL hrs=>?_⟩;have ek2:=s2 _ _ ek1;have hF2:=s2 _ _ hF1;have s12:=s1.trans s2;have hrl:=hrs.length;refine⟨RL,rfl,⟨_,SqL.of hRL⟩,zK (K:=K) (a:=RL) (xs:=rs.map V.ref) (fun i σ H3=>∃(v6 v7 v8 v9:Option V) (fc:Ch),σ=[some (.ref a),some (.ref bf),some (.ref lf),some (.ref kd),some (.ref FD),some (.ref tb),v6,v7,v8,v9]/\SB2 kd FD H2 H3/\KnS H3 kd kn left R/\H3 FD=some (.dT (kvC fc))/\(ksC fc).Nodup/\(∀k∈ksC fc,k∈left)/\(∀e,tot fc e=((((rims x.2).take i).filter fun r=>!decide (r=x.1)).map fun r=>wt x r*R r e).sum)/\Nv H3 kd FD/\∀G o,H0 G=some o->Nv H0 kd G->Nv H3 kd G)
   ⟨none,none,none,none,[],rfl,SB2.refl,hkn.same s12,hF2,List.nodup_nil,(fun k hk=>by cases hk),fun e=>rfl,(hkn.nv hFD).same s12 ek0,fun G o _ hnv=>hnv.same s12 ek0⟩ (fun i σ H3 _ ⟨_,_,_,_,_,_,sb,_⟩=>SqL.of (sb.lst ek2 hF2 hRL)) ?_ ?_⟩
  ·rintro i v σ H3 hv ⟨v6,v7,v8,v9,fc,rfl,sb3,kn3,hF3,nd3,ks3,tt3,nv3,kp3⟩
   obtain⟨ra,era,rfl⟩:=zE hv;obtain⟨r,er,hra⟩:=hrs.get era;have hrm:=Ak er;have hra3:=sb3.tp ek2 hF2 hra;have ha3:=sb3.tp ek2 hF2 (s2.tp ha1);have htb3:=sb3.tp ek2 hF2 (s2.tp htb);refine⟨_,rfl,_,rfl,.inl ⟨ra,a,r,x.1,rfl,rfl,hra3,ha3,_,rfl,?_⟩⟩;rw[if_pos rfl]
   by_cases hrq:r=x.1
   ·rw[decide_eq_true hrq]
    refine iteF ⟨_,_,_,_,fc,rfl,sb3,kn3,hF3,nd3,ks3,fun e=>?_,nv3,kp3⟩;rw[tt3 e,AH er,A8,List.filter_cons_of_neg (by simp[hrq]),List.filter_nil,List.append_nil]
   rw[decide_eq_false hrq];have hro:r∈oth x:=zb2.mpr ⟨hrm,hrq⟩;have hrk:=sf.cl _ hx2 r hrm;have hdr:Dp ps n r:=zjY hx hdp hro;have w1:=zg7 hxn hrm;have w2:=zg7 hxn hx1;refine iteT ⟨_,rfl,_,rfl,tb,ra,x.2,r,rfl,htb3,hra3,hx5,hxn,hrm,fun H4 s4=>⟨_,rfl,?_⟩⟩;refine⟨_,rfl,_,rfl,tb,a,x.2,x.1,rfl,s4.tp htb3,s4.tp ha3,hx5,hxn,hx1,fun H5 s5=>⟨_,_,rfl,rfl,?_,?_⟩⟩
   ·exact .inr (by rcases w2 with e | e <;> rw[e] <;> decide)
   have s35:=s4.trans s5;obtain⟨kvs3,ek3,_⟩:=id kn3;have sb5:SB2 kd FD H2 H5:=sb3.trans (.of s35);have hw1:wt x r=1 \/ wt x r=-1:=by
    unfold wt;rcases w1 with e | e <;> rcases w2 with e' | e' <;> rw[e,e'] <;> decide
   have hl5:=sb5.lst ek2 hF2 (s12 _ _ hl);have htl5:=sb5.tps ek2 hF2 (s12.tps htl);refine⟨_,rfl,_,rfl,_,rfl,_,rfl,ra,bf,lf,kd,r,kn,left,ps,R,ls,rfl,s35.tp hra3,sb5.sec ek2 hF2 nbk nFb (hs.same s12),nbk,hl5,htl5,kn3.same s35,sf,hrk,hdr,fun eb6 H6 sb6 kn6 va6 kp6=>?_⟩;have hF5:=s35 _ _ hF3;have nv5:=nv3.same s35 ek3;have nv6:=kp6 FD _ hF5 nv5;have hF6:=sb6 _ _ nFk hF5;obtain⟨c,nek,hc6,gc⟩:=kn6.at_ va6;have neF:eb6≠FD:=fun z=>by obtain⟨kv,e,ev⟩:=va6; exact nv6 kv _ e (by rw[ev,z])
   have sb26:SB2 kd FD H2 H6:=sb5.trans (.ofB sb6);have kp06:∀G o,H0 G=some o->Nv H0 kd G->Nv H6 kd G:=fun G o hG hn=>by
    have hGk:G≠FD:=zj hG hFD
    by_cases hGd:G=kd
    ·subst hGd
     intro kv kk e ev;obtain⟨kv',e1,_,h3,h4⟩:=id kn6;rw[e1] at e; cases e;obtain⟨qq,_,rfl⟩:=h3 kk (zds ev);obtain⟨b,cc,a1,a2,_⟩:=h4 qq _ ev;injection a1 with a1
     exact a2 a1.symm
    ·exact kp6 G o (s35 _ _ (sb3 G o hGd hGk (s12 _ _ hG))) ((kp3 G o hG hn).same s35 ek3)
   refine⟨_,rfl,eb6,kvC c,rfl,.inl hc6,fun ends pe L hL=>?_⟩;have te:=zco pe;have sL:=Same.new (o:=.lst (ends.map V.ref)) hL;have hel:=te.length;rw[zcJ] at hel;have hcl:c.length<=left.length:=zc6 gc.nd gc.ks;have hlf:=sf.fwl;obtain⟨kvs6,ek6,_⟩:=id kn6;have nLF:FD≠L:=zj hF6 hL;have nLk:kd≠L:=zj ek6 hL;have hL7:upd H6 L (.lst (ends.map V.ref)) L=some (.lst (ends.map V.ref)):=upd_same;have te7:=sL.tps te;have hc7:=sL _ _ hc6;have hF7:=sL _ _ hF6;have kn7:=kn6.same sL;have nv7:=nv6.same sL ek6;have ek7:=sL _ _ ek6;have sb27:SB2 kd FD H2 (upd H6 L (.lst (ends.map V.ref))):=sb26.trans (.of sL);have kp7:∀G o,H0 G=some o->Nv H0 kd G->Nv (upd H6 L (.lst (ends.map V.ref))) kd G:=fun G o hG hn=>(kp06 G o hG hn).same sL ek6;generalize upd H6 L (.lst (ends.map V.ref))=H7 at hL7 te7 hc7 hF7 kn7 nv7 ek7 sb27 kp7;have ksm:∀j,∀k∈ksC ((c.take j).map fun t=>(t.1,wt x r*t.2)),k∈left:=fun j k hk=>by
    unfold ksC at hk;rw[Ap] at hk;obtain⟨t,ht,rfl⟩:=List.mem_map.mp hk;exact gc.ks _ (List.mem_map.mpr ⟨t,List.mem_of_mem_take ht,rfl⟩)
   refine⟨L,rfl,⟨_,SqL.of hL7⟩,zK (K:=K) (a:=L) (xs:=ends.map V.ref) (fun j σ H8=>∃(v9:Option V),σ=[some (.ref a),some (.ref bf),some (.ref lf),some (.ref kd),some (.ref FD),some (.ref tb),some (.ref ra),some (.int (wt x r)),some (.ref eb6),v9]/\(∀b o,b≠FD->H7 b=some o->H8 b=some o)/\KnS H8 kd kn left R/\Nv H8 kd FD/\H8 FD=some (.dT (kvC (accC fc ((c.take j).map fun t=>(t.1,wt x r*t.2)))))/\∀G o,H0 G=some o->Nv H0 kd G->Nv H8 kd G)
    ⟨v9,rfl,fun _ _ _ e=>e,kn7,nv7,hF7,kp7⟩ (fun j σ H8 _ ⟨_,_,h,_⟩=>SqL.of (h _ _ (Ne.symm nLF) hL7)) ?_ ?_⟩
   ·rintro j v σ H8 hv ⟨v9,rfl,st8,kn8,nv8,hF8,kp8⟩
    obtain⟨ea,eea,rfl⟩:=zE hv;obtain⟨en,een,hea⟩:=te7.get eea;obtain⟨t,et,rfl⟩:=zis een;have htm:=Ak et;have hea8:Tp H8 ea t.1:=st8 _ _ (key_ne hF7 hea) hea;have hc8:=st8 _ _ neF hc7;have hal:=zhN nd3 ks3 (ksm j);refine⟨_,rfl,FD,rfl,.inr ⟨_,.inl hF8⟩,_,rfl,_,DGet.t (k:=t.1.map Sum.inl) hF8 (z0 hea8),?_⟩;rw[zdN];refine⟨_,rfl,_,rfl,_,rfl,eb6,.int t.2,rfl,.inr ⟨kvC c,t.1.map Sum.inl,ea,.inl hc8,rfl,z0 hea8,(zb3 gc.nd t htm).symm⟩,_,_,rfl,rfl,.inl (by rcases hw1 with e | e <;> rw[e] <;> decide),_,_,rfl,rfl,_,rfl,_,rfl,FD,_,rfl,DPut.t (k:=t.1.map Sum.inl) hF8 (z0 hea8) (by rw[zaB]; exact zF (by omega)),⟨_,rfl,fun b o hb e=>by rw[zk hb]; exact st8 b o hb e,kn8.updF nv8 nFk,nv8.updF nFk,?_,fun G o hG hn=>(kp8 G o hG hn).updF nFk⟩⟩;rw[upd_same,zcY,AH et,Ag,List.map_singleton,zdr]
    rfl
   ·rintro σ H8 ⟨v9,rfl,st8,kn8,nv8,hF8,kp8⟩
    rw[Ab,hel,An (Af _)] at hF8;obtain⟨a1,a2,a3⟩:=zdD nd3 (c.map fun t=>(t.1,wt x r*t.2));refine⟨_,_,_,_,_,rfl,fun b o h1 h2 e=>st8 b o h2 (sb27 b o h1 h2 e),kn8,hF8,a1,fun k hk=>?_,fun e=>?_,nv8,kp8⟩
    ·rcases a2 k hk with h | h
     ·exact ks3 k h
     ·exact ksm c.length k (by rw[An (Af _)]; exact h)
    ·rw[a3 e,tt3 e,zbM,gc.at_ e,AH er,A8,List.filter_cons_of_pos (by simp[hrq]),Ag,List.sum_append]
     simp
  ·rintro σ H3 ⟨v6,v7,v8,v9,fc,rfl,sb3,kn3,hF3,nd3,ks3,tt3,nv3,kp3⟩
   rw[Ab,hrl,An (Af _)] at tt3;refine kD _ _ _ _ _ H3 fc ⟨fun b o hb e=>sb3 b o hb (zj e hFD) (s12 _ _ e),kn3,hF3,⟨nd3,ks3,fun e=>?_⟩,nv3,kp3⟩;rw[tt3 e,sf.hR.fs x hx e]
end
end K48
end
section
namespace K48
open K1
open PySem L2 STb
abbrev zce:Stmt:=top 49
abbrev nmTh:List Str:=["piece","by_first","left","known","found","rim","ends","end"]
theorem zkL {ps:List Pq}{n m:Nat}{q:List Int} (h:Dp ps n q) (hm:n<=m):Dp ps m q:=fun x hx=>by
 refine h x ?_;have mono:∀m,n<=m->∀z,z∈trn m ps->z∈trn n ps:=fun m hk=>by
  induction m with
  | zero=>
   intro z hz;have:n=0:=by omega
   subst this;exact hz
  | succ m ih=>
   intro z hz
   by_cases e:n=m+1
   ·subst e; exact hz
   ·exact ih (by omega) z (zbl.mp hz).1
 exact mono m hm x hx
abbrev tNz:TT:=zdg (tOp rNe (zeN (tVar 1) (tVar 0)) (tC (.int 0)))
abbrev tPr:TE:=tTup (zW (tVar 0) (zW (zeN (tVar 1) (tVar 0)) tNil))
section
variable {P:Program}{w:World}{K:Ad}{mg:Str->Option Value}{base:Heap}
theorem zjh {H2:Hp}{L D d:Addr}{as:List Addr}{ss:Ch}{Q:VK} (hl:H2 L=some (.lst (as.map V.ref))) (ht:Tps H2 as (ksC ss)) (hd:H2 d=some (.dT (kvC ss))) (hn:(ksC ss).Nodup) (hz:ss.length<=1000) (hD:H2 D=none)
  (k:∀(H3:Hp) (ts:List Addr),Same H2 H3->H3 D=some (.lst (ts.map V.ref))->Prs H3 ts (ss.filter noZ)->Q (.ref D) H3) :
  zaj (Itl K L) (zX 0) tNz tPr [none,some (.ref d)] H2 D Q:=by
 have hla:=ht.length;rw[zcJ] at hla;refine zL (xs:=as.map V.ref) (fun j σ ys H3=>∃(v:Option V) (ts:List Addr),σ=[v,some (.ref d)]/\Same H2 H3/\H3 D=some (.lst ys)/\ys=ts.map V.ref/\Prs H3 ts ((ss.take j).filter noZ)) ?_ ?_ ?_ ?_
 ·exact⟨none,[],rfl,Same.new hD,upd_same,rfl,.nil⟩
 ·rintro j σ ys H3 ⟨v,ts,rfl,sm,hD3,rfl,hp⟩
  exact SqL.of (sm _ _ hl)
 ·rintro j σ ys H3 x hx hj hy ⟨v,ts,rfl,sm,hD3,rfl,hp⟩
  obtain⟨a,ea,rfl⟩:=zE hx;obtain⟨ps,eps,hps⟩:=ht.get ea;unfold ksC at eps;rw[Al] at eps;obtain⟨c,ec,rfl⟩:∃c,ss[j]?=some c/\c.1=ps:=by
   cases h:ss[j]? with
   | none=>rw[h] at eps; cases eps
   | some c=>rw[h] at eps; exact⟨c,rfl,Ao eps⟩
  have hsz:(as.map V.ref).length<=sizeLine:=by rw[Ab]; exact line_big (by omega)
  have g:∀H4,Same H3 H4->DGet H4 d (.ref a) (some (.int c.2)):=fun H4 s4=>.inr ⟨kvC ss,c.1.map Sum.inl,a,.inl (s4 _ _ (sm _ _ hd)),rfl,z0 (s4.tp (sm.tp hps)),(zb3 hn c (Ak ec)).symm⟩;refine⟨_,rfl,_,rfl,d,_,rfl,g H3 (Same.refl _),rfl,_,rfl,?_⟩;cases hz0:noZ c with
  | true=>
   have hz1:(!decide (V.int c.2=V.int 0))=true:=hz0;rw[hz1];refine iteT ⟨_,rfl,_,rfl,_,rfl,d,_,rfl,g H3 (Same.refl _),line_big (by simp),fun t htn=>?_⟩;have s4:=Same.new (o:=.tup [.ref a,.int c.2]) htn;refine cput hsz hj hy (s4 _ _ hD3) ⟨_,ts++[t],rfl,(sm.trans s4).then hD,upd_same,by rw[Ag]; rfl,?_⟩;rw[AH ec,A8,List.filter_cons_of_pos hz0];exact Prs.upd (Prs.snoc (hp.same s4) ⟨a,upd_same,s4.tp (sm.tp hps)⟩) (s4 _ _ hD3) (by intro xs z; cases z)
  | false=>
   have hz1:(!decide (V.int c.2=V.int 0))=false:=hz0;rw[hz1];refine iteF (cskip hj hy ⟨_,ts,rfl,sm,hD3,rfl,?_⟩);rw[AH ec,A8,List.filter_cons_of_neg (by rw[hz0]; decide),List.filter_nil,List.append_nil];exact hp
 ·rintro σ ys H3 ⟨v,ts,rfl,sm,hD3,rfl,hp⟩
  rw[Ab,hla,take_all] at hp;exact k H3 ts sm hD3 hp
def zfo:Sp:=fun vs H Q _=>∃a bf lf kd p kn left ps R ls,vs=[.ref a,.ref bf,.ref lf,.ref kd]/\Tp H a p/\Sec H bf ps/\bf≠kd/\H lf=some (.lst (List.map V.ref ls))/\Tps H ls left/\KnS H kd kn left R/\Sf kn left ps R/\p∈kn/\(∀q∈kn,Dp ps 60 q)/\
 ∀d H' c,zaa kd H H'->KnS H' kd kn left R->H d=none->H' d=some (.dT (kvC c))->Thn R (p,c)->Q (.ref d) H'
theorem zcD:zu nmTh ["piece","by_first","left","known"] (zh zce):=⟨rfl,rfl,rfl,by decide +kernel,rfl,by decide +kernel,by decide +kernel⟩
theorem ziv {f fr fs fo:Addr}{fd fdr fds fdo:FuncData} (F:Fun K "_law_thin" "_law_thin" zce f fd) (B:Bt mg) (ydict:mg "dict"=none)
  (Fr:Fun K "_law_rims" "_law_rims" zbs fr fdr) (br:Binds K fdr ["piece"] []) (mr:mg "_law_rims"=some (.ref fr))
  (Fs:Fun K "_law_sign" "_law_sign" zey fs fds) (bs:Binds K fds ["piece","rim"] []) (ms:mg "_law_sign"=some (.ref fs)) (Gs:FnOk P w K mg base CX0 2 fs fds ["piece","rim"] zhz)
  (Fo:Fun K "_law_roads" "_law_roads" zbc fo fdo) (bo:Binds K fdo ["piece","by_first","left","known"] []) (mo:mg "_law_roads"=some (.ref fo)) (Go:FnOk P w K mg base CX0 63 fo fdo ["piece","by_first","left","known"] (zfa 60)) :
  FnOk P w K mg base CX0 64 f fd ["piece","by_first","left","known"] zfo:=by
 have Gr:FnOk P w K mg base CX0 1 fr fdr ["piece"] zbK:=zdT Fr B;refine F.ok zcD (fun vs H Q E h=>?_) (fun cdv A outer s H vs Q E hr h=>?_)
 ·obtain⟨a,bf,lf,kd,p,kn,left,ps,R,ls,rfl,_⟩:=h; rfl
 ·obtain⟨a,bf,lf,kd,p,kn,left,ps,R,ls,rfl,ha,hs,nbk,hl,htl,hkn,sf,hp,hdp,k⟩:=h
  have hu:=zbo hr;have hu64:=hr.units;have hr1:Room 1 _:=hr.mono (by decide);have hr2:Room 2 _:=hr.mono (by decide);refine⟨_,zf (zq (i:=4) zcD.nd rfl (Or.inr rfl) zP)
   (zf (zM AF rfl (zw (zn Gr hr1 rfl mr Fr.kp br .nil pass0 (ze (pv 0) zg))) (zm (i:=5) zcD.nd rfl (Or.inl rfl))
    (zf (zq (i:=6) zcD.nd rfl (Or.inl rfl) (zn Go hr rfl mo Fo.kp bo .nil pass0 (ze (pv 5) (ze (pv 1) (ze (pv 2) (ze (pv 3) zg))))))
    (zi (zM AF rfl (zw (zB (zay rfl) rfl B.list zaK (ze (pv 6) zg))) (zm (i:=7) zcD.nd rfl (Or.inl rfl))
     (zi (zQ hu (pv 4) (pv 7) (zH zat (zdF hu (pv 4) (pv 7) zl ⟨rfl,rfl,rfl,rfl⟩) (zH za1 (zn Gs hr2 rfl ms Fs.kp bs .nil pass0 (ze (pv 0) (ze (pv 5) zg))) (zan hu (pv 6) (pv 7) (fun _ _=>rfl)))) rfl))))))
   (zi (zt (zB (zar rfl hu64) rfl ydict zdH (ze
    (zx nmTh ["end","found"] [none,some 4] (zw (zB (zay rfl) rfl B.list zaK (ze (pv 4) zg))) (fun cl C s₀ H₀ ex=>zm (i:=0) (ndN ["end","found"]) rfl (Or.inl rfl))
     (fun cl C s₀ H₀ ex=>zbB (zy zlb (zan hu (pv 1) (pv 0) (fun _ _=>rfl)) zl (nomark _))) (fun cl C s₀ H₀ ex=>zak (ze (pv 0) (ze (zan hu (pv 1) (pv 0) (fun _ _=>rfl)) zg))) (hfr:=frOf (zh zce) (by decide +kernel)) (tc:=tNz) (te:=tPr)) zg))))),?_⟩
  intro FD hFD;have s1:=Same.new (o:=.dT []) hFD;obtain⟨kvs0,ek0,_⟩:=id hkn;have nFk:FD≠kd:=Ne.symm (zj ek0 hFD);have nFb:bf≠FD:=by obtain⟨kv,e,_⟩:=hs; exact zj e hFD
  obtain⟨hp5,hpn⟩:=sf.cp _ hp;refine⟨_,rfl,a,p,rfl,s1.tp ha,hp5,fun RL H2 rs s2 _ hRL hrs=>?_⟩;have s12:=s1.trans s2;have ek2:=s12 _ _ ek0;have hF2:H2 FD=some (.dT (kvC [])):=s2 _ _ upd_same;have hrl:=hrs.length;refine⟨RL,rfl,⟨_,SqL.of hRL⟩,zK (K:=K) (a:=RL) (xs:=rs.map V.ref) (fun i σ H3=>∃(v5 v6 v7:Option V) (fc:Ch),σ=[some (.ref a),some (.ref bf),some (.ref lf),some (.ref kd),some (.ref FD),v5,v6,v7]/\SB2 kd FD H2 H3/\KnS H3 kd kn left R/\H3 FD=some (.dT (kvC fc))/\(ksC fc).Nodup/\(∀k∈ksC fc,k∈left)/\(∀e,tot fc e=(((rims p).take i).map fun r=>sg1 p r*R r e).sum)/\Nv H3 kd FD)
   ⟨none,none,none,[],rfl,SB2.refl,hkn.same s12,hF2,List.nodup_nil,(fun k hk=>by cases hk),fun e=>rfl,(hkn.nv hFD).same s12 ek0⟩ (fun i σ H3 _ ⟨_,_,_,_,_,sb,_⟩=>SqL.of (sb.lst ek2 hF2 hRL)) ?_ ?_⟩
  ·rintro i v σ H3 hv ⟨v5,v6,v7,fc,rfl,sb3,kn3,hF3,nd3,ks3,tt3,nv3⟩
   obtain⟨ra,era,rfl⟩:=zE hv;obtain⟨r,er,hra⟩:=hrs.get era;have hrm:=Ak er;have hra3:=sb3.tp ek2 hF2 hra;have ha3:=sb3.tp ek2 hF2 (s12.tp ha);have hrk:=sf.cl _ hp r hrm;have w1:=zg7 hpn hrm;have hl3:=sb3.lst ek2 hF2 (s12 _ _ hl);have htl3:=sb3.tps ek2 hF2 (s12.tps htl);obtain⟨kvs3,ek3,_⟩:=id kn3;refine⟨_,rfl,_,rfl,_,rfl,_,rfl,ra,bf,lf,kd,r,kn,left,ps,R,ls,rfl,hra3,sb3.sec ek2 hF2 nbk nFb (hs.same s12),nbk,hl3,htl3,kn3,sf,hrk,hdp r hrk,fun eb6 H6 sb6 kn6 va6 kp6=>?_⟩;have nv6:=kp6 FD _ hF3 nv3;have hF6:=sb6 _ _ nFk hF3;obtain⟨c,nek,hc6,gc⟩:=kn6.at_ va6;have neF:eb6≠FD:=fun z=>by obtain⟨kv,e,ev⟩:=va6; exact nv6 kv _ e (by rw[ev,z])
   have sb26:SB2 kd FD H2 H6:=sb3.trans (.ofB sb6);refine⟨_,rfl,eb6,kvC c,rfl,.inl hc6,fun ends pe L hL=>?_⟩;have te:=zco pe;have sL:=Same.new (o:=.lst (ends.map V.ref)) hL;have hel:=te.length;rw[zcJ] at hel;have hcl:c.length<=left.length:=zc6 gc.nd gc.ks;have hlf:=sf.fwl;obtain⟨kvs6,ek6,_⟩:=id kn6;have nLF:FD≠L:=zj hF6 hL;have hL7:upd H6 L (.lst (ends.map V.ref)) L=some (.lst (ends.map V.ref)):=upd_same;have te7:=sL.tps te;have hc7:=sL _ _ hc6;have hF7:=sL _ _ hF6;have kn7:=kn6.same sL;have nv7:=nv6.same sL ek6;have sb27:SB2 kd FD H2 (upd H6 L (.lst (ends.map V.ref))):=sb26.trans (.of sL);generalize upd H6 L (.lst (ends.map V.ref))=H7 at hL7 te7 hc7 hF7 kn7 nv7 sb27;have hra7:=sb27.tp ek2 hF2 hra;have ha7:=sb27.tp ek2 hF2 (s12.tp ha);have ksm:∀j,∀k∈ksC ((c.take j).map fun t=>(t.1,sg1 p r*t.2)),k∈left:=fun j k hk=>by
    unfold ksC at hk;rw[Ap] at hk;obtain⟨t,ht,rfl⟩:=List.mem_map.mp hk;exact gc.ks _ (List.mem_map.mpr ⟨t,List.mem_of_mem_take ht,rfl⟩)
   refine⟨L,rfl,⟨_,SqL.of hL7⟩,zK (K:=K) (a:=L) (xs:=ends.map V.ref) (fun j σ H8=>∃(v7:Option V),σ=[some (.ref a),some (.ref bf),some (.ref lf),some (.ref kd),some (.ref FD),some (.ref ra),some (.ref eb6),v7]/\(∀b o,b≠FD->H7 b=some o->H8 b=some o)/\KnS H8 kd kn left R/\Nv H8 kd FD/\H8 FD=some (.dT (kvC (accC fc ((c.take j).map fun t=>(t.1,sg1 p r*t.2))))))
    ⟨v7,rfl,fun _ _ _ e=>e,kn7,nv7,hF7⟩ (fun j σ H8 _ ⟨_,_,h,_⟩=>SqL.of (h _ _ (Ne.symm nLF) hL7)) ?_ ?_⟩
   ·rintro j v σ H8 hv ⟨v7,rfl,st8,kn8,nv8,hF8⟩
    obtain⟨ea,eea,rfl⟩:=zE hv;obtain⟨en,een,hea⟩:=te7.get eea;obtain⟨t,et,rfl⟩:=zis een;have htm:=Ak et;have hea8:Tp H8 ea t.1:=st8 _ _ (key_ne hF7 hea) hea;have hra8:Tp H8 ra r:=st8 _ _ (key_ne hF7 hra7) hra7;have ha8:Tp H8 a p:=st8 _ _ (key_ne hF7 ha7) ha7;have hc8:=st8 _ _ neF hc7;have hal:=zhN nd3 ks3 (ksm j);refine⟨_,rfl,FD,rfl,.inr ⟨_,.inl hF8⟩,_,rfl,_,DGet.t (k:=t.1.map Sum.inl) hF8 (z0 hea8),?_⟩;rw[zdN];refine⟨_,rfl,_,rfl,a,ra,p,r,rfl,ha8,hra8,hp5,hpn,hrm,fun H9 s9=>?_⟩;obtain⟨kvs8,ek8,_⟩:=id kn8;have hF9:=s9 _ _ hF8;have nv9:=nv8.same s9 ek8;have kn9:=kn8.same s9;refine⟨_,rfl,_,rfl,eb6,.int t.2,rfl,.inr ⟨kvC c,t.1.map Sum.inl,ea,.inl (s9 _ _ hc8),rfl,z0 (s9.tp hea8),(zb3 gc.nd t htm).symm⟩,_,_,rfl,rfl,.inl (by rcases w1 with e | e <;> rw[e] <;> decide),_,_,rfl,rfl,_,rfl,_,rfl,FD,_,rfl,DPut.t (k:=t.1.map Sum.inl) hF9 (z0 (s9.tp hea8)) (by rw[zaB]; exact zF (by omega)),⟨_,rfl,fun b o hb e=>by rw[zk hb]; exact s9 _ _ (st8 b o hb e),kn9.updF nv9 nFk,nv9.updF nFk,?_⟩⟩;rw[upd_same,zcY,AH et,Ag,List.map_singleton,zdr]
    rfl
   ·rintro σ H8 ⟨v7,rfl,st8,kn8,nv8,hF8⟩
    rw[Ab,hel,An (Af _)] at hF8;obtain⟨a1,a2,a3⟩:=zdD nd3 (c.map fun t=>(t.1,sg1 p r*t.2));refine⟨_,_,_,_,rfl,fun b o h1 h2 e=>st8 b o h2 (sb27 b o h1 h2 e),kn8,hF8,a1,fun k hk=>?_,fun e=>?_,nv8⟩
    ·rcases a2 k hk with h | h
     ·exact ks3 k h
     ·exact ksm c.length k (by rw[An (Af _)]; exact h)
    ·rw[a3 e,tt3 e,zbM,gc.at_ e,AH er,Ag,List.sum_append]
     simp
  ·rintro σ H3 ⟨v5,v6,v7,fc,rfl,sb3,kn3,hF3,nd3,ks3,tt3,nv3⟩
   rw[Ab,hrl,An (Af _)] at tt3;have hfl:fc.length<=left.length:=zc6 nd3 ks3;have hlf:=sf.fwl;obtain⟨kvs3,ek3,_⟩:=id kn3;refine⟨_,rfl,FD,kvC fc,rfl,.inl hF3,fun es pe L hL=>⟨L,rfl,⟨_,SqL.of upd_same⟩,fun D hD=>?_⟩⟩;have te:=zco pe;have sL:=Same.new (o:=.lst (es.map V.ref)) hL;refine zG (zjh upd_same (sL.tps te) (sL _ _ hF3) nd3 (by omega) hD fun H4 ts s4 hD4 hp4=>⟨D,ts,kvC (fc.filter noZ),rfl,SqL.of hD4,zj6 hp4,fun W hW=>?_⟩);rw[zev];have sW:=Same.new (o:=.dT (kvC (zaC (fc.filter noZ)))) hW;have s3W:=(sL.trans s4).trans sW;have ndf:(ksC (fc.filter noZ)).Nodup:=nd3.sublist (List.filter_sublist.map _);have hW0:H W=none:=by
    have h3:H3 W=none:=(sL.trans s4).free hW;cases e:H W with
    | none=>rfl
    | some u=>
     have n1:W≠kd:=fun z=>by subst z; rw[h3] at ek3; cases ek3
     have n2:W≠FD:=zj e hFD;rw[sb3 W u n1 n2 (s12 _ _ e)] at h3;cases h3
   refine k W _ _ (fun b o hb e=>s3W _ _ (sb3 b o hb (zj e hFD) (s12 _ _ e))) (kn3.same s3W) hW0 upd_same ⟨zdJ _,(zgd (P:=fun n=>n≠0) (fc.filter noZ) fun t ht=>?_).1,fun e=>?_⟩
   ·have hz:=(List.mem_filter.mp ht).2
    intro z;unfold noZ at hz;simp[z] at hz
   ·rw[zaH (zdJ _),zfH e _ ndf,zaH ndf,zbZ e nd3,<- zaH nd3,tt3 e]
end
end K48
end
section
namespace L2
open PySem PySem.Spec PyProof.Rows
theorem zj8 {P:Program}{w:World}{H:Hp}{h:Heap}{a:Addr}{kvs:List (List Key×V)}{pss:List (List Int)} (ok:HOk P w H h) (hq:Rd H a (.dT kvs)) (hp:kvs.map (·.1)=pss.map (·.map Sum.inl)) :
  (a == sysModules)=false/\∃xs:List (List Int×Addr×Value),(∀P' w',h.DictOfH (tupleKind (intKind P' w')) a xs)/\xs.length=kvs.length/\∀(i:Nat) x,xs[i]?=some x->pss[i]?=some x.1/\∃kv,kvs[i]?=some kv/\RelV kv.2 x.2.2:=by
 obtain⟨z,y,ys,rel,o,es,ep,h1,h2,h3,h4,h5⟩:=(show zJ P w H h a (.dT kvs) from hq.ok ok);have key:∀{l:List (List Key×V)} {m:List (List Key×Addr×Value)} {qs:List (List Int)},KT H l m->l.map (·.1)=qs.map (·.map Sum.inl)->
   ∃xs:List (List Int×Addr×Value),m=xs.map (fun x=>(x.1.map Sum.inl,x.2))/\xs.map (·.1)=qs/\(∀x∈xs,Tp H x.2.1 x.1)/\xs.length=l.length/\∀(i:Nat) x,xs[i]?=some x->qs[i]?=some x.1/\∃kv,l[i]?=some kv/\RelV kv.2 x.2.2:=by
  intro l m qs q
  induction q generalizing qs with
  | nil=>intro e; cases qs with
   | nil=>exact⟨[],rfl,rfl,(fun x hx=>by cases hx),rfl,(fun i x e=>by simp at e)⟩
   | cons p ps=>simp at e
  | @cons p q' ps qs' hq t ih=>intro e; cases qs with
   | nil=>simp at e
   | cons r rs=>
    simp only[Av,List.cons.injEq] at e;obtain⟨xs,e1,e2,e3,e4,e5⟩:=ih e.2;have hk:=hq.2.1;rw[e.1,Ap] at hk;refine⟨(r,q'.2)::xs,?_,by rw[Av,e2],fun x hx=>?_,by simp[e4],fun i x ex=>?_⟩
    ·rw[Av,<- e1,<- e.1,hq.1]
    ·rcases List.mem_cons.mp hx with rfl | hx
     ·exact hk
     ·exact e3 x hx
    ·cases i with
     | zero=>
      simp at ex;subst ex;exact⟨rfl,p,rfl,hq.2.2⟩
     | succ i=>simpa using e5 i x (by simpa using ex)
 obtain⟨xs,e1,e2,e3,e4,e5⟩:=key rel hp;refine⟨y,xs,fun P' w'=>⟨o,es,ep,h1,h2,h3,?_,fun x hx=>?_,?_⟩,e4,e5⟩
 ·rw[h4,e1,Ap]
  refine A6 fun x _=>?_;show DictEntry.mk (Ax (zD P w) (x.1.map Sum.inl)) (.ref x.2.1) x.2.2=DictEntry.mk (Ax (intKind P' w') x.1) (.ref x.2.1) x.2.2;rw[ziG]
  rfl
 ·obtain⟨_,its,r,p⟩:=(show zJ P w H h x.2.1 (.tup (x.1.map V.int)) from ok x.2.1 _ (e3 x hx))
  exact zdz p (intsAre_of r)
 ·have e6:xs.map (fun x=>x.1.map (Sum.inl:Int->Key))=(xs.map (·.1)).map (·.map Sum.inl):=by rw[Ap]; rfl
  rw[e1,Ap] at h5;have h6:((xs.map (·.1)).map (·.map (Sum.inl:Int->Key))).Nodup:=by rw[<- e6]; exact h5
  exact List.Pairwise.of_map _ (fun a b hne e=>hne (by rw[e])) h6
end L2
end
section
namespace DEq
open PySem
section
variable {prog:Program}{w:World}{K:Type} [DecidableEq K] {knd:HeapKind prog w K}{A:Around}{E:Value->Shared->Prop}{s:Shared}
theorem zjF {id:String}{a b:Addr}{xs ys:List (K×Addr×Value)}{Q:Bool->Shared->Prop} (hu:knd.room A) (ha:(a == sysModules)=false) (hb:(b == sysModules)=false) (hx:s.heap.DictOfH knd a xs) (hy:s.heap.DictOfH knd b ys)
  (hl:xs.length=ys.length) (hv:∀(i:Nat) k p v,xs[i]?=some (k,p,v)->∃(j:Nat) (q:Addr) (n:Int) (t t':Tok),v=.int n t/\ys[j]?=some (k,q,.int n t')) (h:Q true s):wpAny (model prog w) A (Builtin.Dict.samePairs id a b) Q E s:=by
 obtain⟨oa,ea,pa,ha0,ha1,ha2,ha3,ha4,ha5⟩:=hx;obtain⟨ob,eb,pb,hb0,hb1,hb2,hb3,hb4,hb5⟩:=hy;have sa:=size_of_entries (knd:=knd) ha3;have sb:=size_of_entries (knd:=knd) hb3;unfold Builtin.Dict.samePairs Builtin.Dict.showsAll;rw[if_neg (by rw[ha]; exact AA),if_neg (by rw[hb]; exact AA)];refine Aa (Ac (Aa (Ac ?_)));refine Aa (wpAny_dictEntries ha0 ha2 ?_);dsimp only;refine Aa (wpAny_dictEntries hb0 hb2 ?_);rw[if_neg (by rw[sa,sb,hl]; simp)];refine Aa (wpAny_dictEpoch ha0 ha2 ?_);refine Aa ?_;rw[Std.Legacy.Range.forIn_eq_forIn_range'];simp only[Std.Legacy.Range.size,Nat.sub_zero,Nat.add_sub_cancel,Nat.div_one];refine wpAny_forIn_list _ (fun rest r s'=>s'=s/\r.1=none/\∃i,rest=List.range' i (ea.size - i)/\i<=ea.size) _ ?_ ?_ _ _ ⟨rfl,rfl,0,by simp,AO _⟩
 ·rintro x rest r s' ⟨rfl,hr1,i,hr,hi⟩
  have hlt:i<ea.size:=by
   rcases Nat.lt_or_ge i ea.size with h | h
   ·exact h
   ·rw[Nat.sub_eq_zero_of_le h] at hr; simp at hr
  obtain⟨rfl,hrest⟩:x=i/\rest=List.range' (i+1) (ea.size - (i+1)):=by
   have e:ea.size - i=(ea.size - (i+1))+1:=by omega
   rw[e,List.range'_succ] at hr;injection hr with h1 h2
   exact⟨h1,h2⟩
  obtain⟨⟨k,p,v⟩,hkv⟩:∃y,xs[x]?=some y:=⟨xs[x]'(by rw[<- sa]; exact hlt),Ai _⟩;obtain⟨j0,q,n,t,t',rfl,hyv⟩:=hv x k p v hkv;have hex:ea[x]?=some ⟨knd.hash k,.ref p,.int n t⟩:=by rw[entry_at ha3 x,hkv]; rfl
  have hip:knd.is s'.heap k p:=ha4 _ (Ak hkv);refine Aa (wpAny_dictEntries ha0 ha2 ?_);rw[hex];dsimp only;refine Aa (AW (Aa (wpAny_dictFind_heap hu hip hb0 hb2 hb3 hb4 hb5 (fun hno=>absurd hyv (hno j0 _)) fun j pj hj=>?_)));obtain rfl:=idxH_unique hb5 hj hyv;dsimp only;refine Aa (wpAny_dictEntries hb0 hb2 ?_);have hey:eb[j]?=some ⟨knd.hash k,.ref q,.int n t'⟩:=by rw[entry_at hb3 j,hyv]; rfl
  rw[hey];dsimp only;refine AW (wpAny_eqBool_int ?_);rw[if_neg (by simp)];refine Aa (wpAny_dictEpoch ha0 ha2 ?_);rw[if_neg (by simp)];exact Ac ⟨rfl,rfl,x+1,hrest,hlt⟩
 ·rintro⟨r1,r2⟩ s' ⟨rfl,hr1,_⟩
  simp only at hr1;subst hr1;exact Ac h
end
end DEq
namespace L2
open PySem PySem.Spec PyProof.Rows
def Cmp (H:Hp) (a b:Addr) (r:Bool):Prop:=∃(kvs kvs':List (List Key×V)) (pss pss':List (List Int)) (ns:List Int),Rd H a (.dT kvs)/\Rd H b (.dT kvs')/\kvs.map (·.1)=pss.map (·.map Sum.inl)/\kvs'.map (·.1)=pss'.map (·.map Sum.inl)/\kvs.map (·.2)=ns.map V.int/\
 ((r=true/\kvs.length=kvs'.length/\∀kv∈kvs,kv∈kvs') \/ (r=false/\kvs.length≠kvs'.length))
section
variable {X:Cx}
theorem zfr:zaS X (.builtin "isinstance") (fun xs H Q=>∃a kvs,xs=[.ref a,.ty "dict"]/\H a=some (.dT kvs)/\Q (.bl true) H):=by
 intro pins s σ H xs us Q I r h;obtain⟨a,ys,rfl,ha,q⟩:=h;obtain⟨u,u',rfl,ru,ru'⟩:=vals2 r;cases ru';exact zcG I ru (.dT ha) (by first | rfl | kernel_rfl | decide +kernel) fun tk=>⟨.bl true,H,I.tok _,rfl,q⟩
end
end L2
end
section
namespace L2
open PySem PySem.Spec PyProof.Rows
section
variable {X:Cx}
def zm6 (K:Ad):R2:=fun x y H Q=>∃(L M l m l' m':Addr) (as bs ts us:List Addr) (pss:List (List Int)) (ps:List Pp),x=.ref L/\y=.ref M/\SqL K H L [.ref l,.ref m]/\SqL K H M [.ref l',.ref m']/\SqL K H l (as.map V.ref)/\Tps H as pss/\SqL K H l' (bs.map V.ref)/\Tps H bs pss/\SqL K H m (ts.map V.ref)/\Prs2 H ts ps/\SqL K H m' (us.map V.ref)/\Prs2 H us ps/\Q (.bl false) H
theorem zk8 (hu:X.A.units+128<cLine):OpR X (compareOp .NotEq) (zm6 X.K):=by
 intro pins s σ H x y v u Q I rx ry h;obtain⟨L,M,l,m,l',m',as,bs,ts,us,pss,ps,rfl,rfl,hL,hM,hl,ha,hl',hb,hm,ht,hm',hu',q⟩:=h;cases rx;cases ry;obtain⟨its,r1,p1,_⟩:=I.list hL;obtain⟨its2,r2,p2,_⟩:=I.list hM;obtain rfl:=vals_refs (as:=[l,m]) r1;obtain rfl:=vals_refs (as:=[l',m']) r2;have e1:SeqAt.EqAt X.A.in1 s (.ref l) (.ref l') true:=by
  have hs:=zba pss;have:=SeqAt.eqAt_reads _ _ X.A.in1 s _ _ _ _ (zbm I hl ha) (zbm I hl' hb) (SeqAt.canLay_of_shaped hs) (SeqAt.canLay_of_shaped hs) (SeqAt.room_of_shaped hs (by show X.A.units+1+64<cLine; omega));rw[<- SeqAt.same_eq_eqv _ _ (SeqAt.noMix_of_shape (.list (.tuples .int)) rfl _ _ (zc2 _) (zc2 _)),show same (.list (pss.map fun ps=>PyData.tuple (ps.map A1))) (.list (pss.map fun ps=>PyData.tuple (ps.map A1)))=true from by unfold same; rw[zdo pss pss]; exact decide_eq_true rfl] at this;exact this
 have e2:SeqAt.EqAt X.A.in1 s (.ref m) (.ref m') true:=by
  have hs:=zgm ps;have:=SeqAt.eqAt_reads _ _ X.A.in1 s _ _ _ _ (zeD I hm ht) (zeD I hm' hu') (SeqAt.canLay_of_shaped hs) (SeqAt.canLay_of_shaped hs) (SeqAt.room_of_shaped hs (by show X.A.units+1+64<cLine; omega));rw[<- SeqAt.same_eq_eqv _ _ (SeqAt.noMix_of_shape (.list (.tuples (.tuples .int))) rfl _ _ (zhT _) (zhT _)),show same (ppsD ps) (ppsD ps)=true from by simp only[same]; rw[zf5 ps ps]; exact decide_eq_true rfl] at this;exact this
 refine SeqAt.RcNeAt.lists (e:=fun _=>true) p1.isList p2.isList (by simp) (by omega) (fun j h1 h2=>?_) X.prog X.w X.xe _ ⟨.bl _,H,I,rfl,?_⟩
 ·have hj:j=0 \/ j=1:=by simp at h1; omega
  rcases hj with rfl | rfl
  ·exact e1
  ·exact e2
 ·rw[List.all_eq_true.mpr (fun _ _=>rfl)]; exact q
end
end L2
end
section
namespace L2
open PySem PySem.Spec PyProof.Rows
section
variable {X:Cx}
theorem zhV {A:Around}{pins:List (Addr×Obj)}{s:Shared}{σ:St}{H:Hp}{a b:Addr} (I:Inv X pins σ H s) (hu:A.units+8<cLine) (ha:∃(kvs kvs':List (List Key×V)) (pss pss':List (List Int)) (ns:List Int),Rd H a (.dT kvs)/\Rd H b (.dT kvs')/\kvs.map (·.1)=pss.map (·.map Sum.inl)/\kvs'.map (·.1)=pss'.map (·.map Sum.inl)/\kvs.map (·.2)=ns.map V.int/\kvs.length=kvs'.length/\∀kv∈kvs,kv∈kvs') :
  SeqAt.EqAt A s (.ref a) (.ref b) true:=by
 intro prog w E Q h;obtain⟨kvs,kvs',pss,pss',ns,ha,hb,hp,hp',hv,hl,hm⟩:=ha;obtain⟨ya,xs,ax,al,a5⟩:=zj8 I.hok ha hp;obtain⟨yb,ys,bx,bl,b5⟩:=zj8 I.hok hb hp';have hx:=ax prog w;have hy:=bx prog w;unfold eqBool
 try with_reducible refine AW ?_
 show wpAny _ _ (if (Value.ref a == Value.ref b)=true then _ else _) Q E s
 by_cases hab:(Value.ref a == Value.ref b)=true
 ·rw[if_pos hab]
  exact Aa (wpAny_rule (Ac h))
 ·rw[if_neg hab]
  refine Aa (wpAny_richCompare_same_room (op:=.Eq) hx.typeIs hy.typeIs F.slot_dict_eq
   (A2 F.slot_dict_eq hx.typeIs F.entry_dict_eq ?_ (F.args_dict_eq_2 _ _)) (by omega))
  unfold Builtin.«dict.__eq__»
  wp_delta
  refine Aa ?_;unfold Builtin.Dict.dictSlotArgs;refine Aa (wpAny_notOrdered_dict hx.typeIs ?_);refine Aa (show wpAny _ _ (pure (Value.ref a,[Value.ref b])) _ _ _ from Ac ?_);refine Ac ?_;dsimp only;refine Aa (wpAny_isInstance hy.typeIs DCp.zbG ?_);simp only[Bool.not_true,As,if_false];refine Aa (show wpAny _ _ (pure a) _ _ _ from Ac ?_);refine Aa (show wpAny _ _ (pure b) _ _ _ from Ac ?_);refine Aa (DEq.zjF (knd:=tupleKind (intKind prog w)) (show A.units+1<cLine by omega) ya yb hx hy (by omega) (fun i k p v e=>?_) ?_)
  ·obtain⟨g1,kv,g2,g3⟩:=a5 i _ e
   obtain⟨j,hj⟩:=List.getElem?_of_mem (hm kv (Ak g2));have hjl:j<ys.length:=by have:=(List.getElem?_eq_some_iff.mp hj).1; omega
   have ey:ys[j]?=some ys[j]:=Ai hjl;obtain⟨f1,kv',f2,f3⟩:=b5 j ys[j] ey;rw[hj] at f2;obtain rfl:=Ao f2;have k1:kv.1=k.map Sum.inl:=by
    have:=congrArg (·[i]?) hp;simp only[Al,g2,g1,A3,Option.some.injEq] at this;exact this
   have k2:kv.1=ys[j].1.map Sum.inl:=by
    have:=congrArg (·[j]?) hp';simp only[Al,hj,f1,A3,Option.some.injEq] at this;exact this
   have ek:ys[j].1=k:=zai.mp (k2.symm.trans k1);have hn:=congrArg (·[i]?) hv;simp only[Al,g2,A3] at hn;cases en:ns[i]? with
   | none=>rw[en] at hn; simp at hn
   | some n=>
    rw[en] at hn;have hn':kv.2=V.int n:=by simpa using hn
    rw[hn'] at g3 f3;obtain⟨t,et⟩:=(show ∃t,v=Value.int n t from g3);obtain⟨t',et'⟩:=(show ∃t,ys[j].2.2=Value.int n t from f3);refine⟨j,ys[j].2.1,n,t,t',et,?_⟩;rw[ey,<- ek,<- et']
  ·exact Ac ⟨_,rfl,(fun e=>nomatch e),wpAny_truthy_bool h⟩
end
end L2
namespace K48
open K1
open PySem PySem.Spec L2 STb
def Alk (x y:List Int×Ch):Prop:=x.1=y.1/\x.2.Perm y.2
section
variable {X:Cx}
theorem zjf {pins:List (Addr×Obj)}{σ:St}{H:Hp}{s:Shared}{A:Around} (hu:A.units+64<cLine) (I:Inv X pins σ H s) {t u:Addr×Addr}{x y:List Int×Ch} (ht:RwD H t x) (hu':RwD H u y) (h:Alk x y):SeqAt.EqAt A s (.ref t.1) (.ref u.1) true:=by
 obtain⟨b,e1,e2,e3⟩:=ht;obtain⟨b',g1,g2,g3⟩:=hu';obtain⟨hxy,hpm⟩:=h
 by_cases e:t.1=u.1
 ·rw[e]; exact .same _
 obtain⟨i1,r1,p1,_⟩:=I.tuple (SqT.of (K:=X.K) e1);obtain⟨i2,r2,p2,_⟩:=I.tuple (SqT.of (K:=X.K) g1);obtain rfl:=vals_refs (as:=[b,t.2]) r1;obtain rfl:=vals_refs (as:=[b',u.2]) r2;obtain⟨j1,q1,t1,_⟩:=I.tuple (SqT.of (K:=X.K) e2);obtain⟨j2,q2,t2,_⟩:=I.tuple (SqT.of (K:=X.K) g2);have hd:SeqAt.EqAt A.in1 s (.ref t.2) (.ref u.2) true:=by
  refine zhV I (by show A.units+1+8<cLine; omega) ⟨kvC x.2,kvC y.2,ksC x.2,ksC y.2,x.2.map (·.2),.inl e3,.inl g3,zfO _,zfO _,ziW _,by rw[zaB,zaB]; exact hpm.length_eq,fun kv hkv=>?_⟩;unfold kvC at hkv ⊢;obtain⟨c,hc,rfl⟩:=List.mem_map.mp hkv;exact List.mem_map.mpr ⟨c,hpm.mem_iff.mp hc,rfl⟩
 have:=SeqAt.RcAt.tuples (A:=A) (e:=fun _=>true) p1 p2 (by omega) (fun j h1 h2=>?_)
 ·refine .of_refs e ?_
  have ee:((A7 (min ([b,t.2].map Value.ref).toArray.size ([b',u.2].map Value.ref).toArray.size)).all (fun _=>true) && ([b,t.2].map Value.ref).toArray.size == ([b',u.2].map Value.ref).toArray.size)=true:=by simp
  rw[ee] at this;exact this
 ·have hj:j=0 \/ j=1:=by simp at h1; omega
  rcases hj with rfl | rfl
  ·intro prog w E Q q
   refine wpAny_eqBool_tuple (by show A.units+1<cLine; omega) (zdz (prog:=prog) (w:=w) t1 (intsAre_of q1)) (zdz t2 (intsAre_of q2)) ?_;rw[decide_eq_true hxy];exact q
  ·exact hd
def zm7 (K:Ad):R2:=fun x y H Q=>∃(l m:Addr) (ts us:List (Addr×Addr)) (xs ys:List (List Int×Ch)),x=.ref l/\y=.ref m/\SqL K H l (ts.map rowV)/\SqL K H m (us.map rowV)/\RwsD H ts xs/\RwsD H us ys/\Paired Alk xs ys/\Q (.bl false) H
theorem zgZ (hu:X.A.units+128<cLine):OpR X (compareOp .NotEq) (zm7 X.K):=by
 intro pins s σ H x y v u Q I rx ry h;obtain⟨l,m,ts,us,xs,ys,rfl,rfl,hl,hm,ht,hu',ha,q⟩:=h;cases rx;cases ry;obtain⟨its,r1,p1,_⟩:=I.list hl;obtain⟨its2,r2,p2,_⟩:=I.list hm;have f1:ts.map rowV=(ts.map (·.1)).map V.ref:=by rw[Ap]; rfl
 have f2:us.map rowV=(us.map (·.1)).map V.ref:=by rw[Ap]; rfl
 rw[f1] at r1;rw[f2] at r2;obtain rfl:=vals_refs r1;obtain rfl:=vals_refs r2;have l1:=AN ht;have l2:=AN hu';have l3:=AN ha;refine SeqAt.RcNeAt.lists (e:=fun _=>true) p1.isList p2.isList (by simp; omega) (by omega) (fun j h1 h2=>?_) X.prog X.w X.xe _ ⟨.bl _,H,I,rfl,?_⟩
 ·have h1':j<ts.length:=by simpa using h1
  have h2':j<us.length:=by simpa using h2
  obtain⟨x,ex,hx⟩:=RwsD.get ht (Ai h1');obtain⟨y,ey,hy⟩:=RwsD.get hu' (Ai h2');have hxy:Alk x y:=by
   have:∀{xs ys:List (List Int×Ch)},Paired Alk xs ys->∀{j:Nat} {x y:List Int×Ch},xs[j]?=some x->ys[j]?=some y->Alk x y:=fun {xs ys} h=>by
    induction h with
    | nil=>intro j x y e; simp at e
    | cons r t ih=>
     intro j x y ex ey;cases j with
     | zero=>simp at ex ey; subst ex; subst ey; exact r
     | succ j=>exact ih (by simpa using ex) (by simpa using ey)
   exact this ha ex ey
  have:=zjf (A:=X.A.in1) (by show X.A.units+1+64<cLine; omega) I hx hy hxy
  simpa using this
 ·rw[List.all_eq_true.mpr (fun _ _=>rfl)]; exact q
end
end K48
end
section
namespace K48
open K1
open PySem L2 STb
abbrev tOne (K:Ad) (i:Nat) (j:Int):TE:=tOp (rIxT K) (tVar i) (tC (.int j))
section
variable {P:Program}{w:World}{K:Ad}{mg:Str->Option Value}{base:Heap}
theorem zfm {H2:Hp}{L D:Addr}{ts:List Addr}{ps:List Pq}{Q:VK} (hl:SqL K H2 L (ts.map V.ref)) (ht:Prs2 H2 ts ps) (hz:ps.length<=1000) (hD:H2 D=none)
  (k:∀H3 bs,Same H2 H3->H3 D=some (.lst (bs.map V.ref))->Tps H3 bs (ps.map (·.1))->Q (.ref D) H3):zaj (Itl K L) (zX 0) tYes (tOne K 0 0) [none] H2 D Q:=by
 have hla:=ht.length;refine zL (xs:=ts.map V.ref) (fun j σ ys H3=>∃(v:Option V) (bs:List Addr),σ=[v]/\Same H2 H3/\H3 D=some (.lst ys)/\ys=bs.map V.ref/\Tps H3 bs ((ps.map (·.1)).take j)) ?_ ?_ ?_ ?_
 ·exact⟨none,[],rfl,Same.new hD,upd_same,rfl,.nil⟩
 ·rintro j σ ys H3 ⟨v,bs,rfl,sm,hD3,rfl,_⟩
  exact sm.seq hl
 ·rintro j σ ys H3 x hx hj hy ⟨v,bs,rfl,sm,hD3,rfl,hb⟩
  obtain⟨o,eo,rfl⟩:=zE hx;obtain⟨os,eos,ho⟩:=ht.get eo;obtain⟨a,b,eo3,ha,hb'⟩:=ho.same sm;have hn:(ts.map V.ref).length<=sizeLine:=by rw[Ab]; exact line_big (by omega)
  have e:(ps.map (·.1))[j]?=some os.1:=by rw[Al,eos]; rfl
  refine gyes ⟨_,rfl,o,_,_,_,rfl,rfl,SqT.of eo3,zC (j:=0) rfl,cput hn hj hy hD3 ⟨_,bs++[a],rfl,sm.then hD,upd_same,by rw[Ag]; rfl,?_⟩⟩;rw[AH e];exact Tps.upd (Tps.snoc hb ha) hD3 (by intro xs z; cases z)
 ·rintro σ ys H3 ⟨v,bs,rfl,sm,hD3,rfl,hb⟩
  rw[An (by rw[Ab,Ab]; omega)] at hb;exact k H3 bs sm hD3 hb
theorem zd5 {H2:Hp}{L D:Addr}{ts:List Addr}{ps:List Pq}{Q:VK} (hl:SqL K H2 L (ts.map V.ref)) (ht:Prs2 H2 ts ps) (hz:ps.length<=1000) (hD:H2 D=none)
  (k:∀H3 bs,Same H2 H3->H3 D=some (.lst (bs.map V.ref))->Tps H3 bs (ps.map (·.2))->Q (.ref D) H3):zaj (Itl K L) (zX 0) tYes (tOne K 0 1) [none] H2 D Q:=by
 have hla:=ht.length;refine zL (xs:=ts.map V.ref) (fun j σ ys H3=>∃(v:Option V) (bs:List Addr),σ=[v]/\Same H2 H3/\H3 D=some (.lst ys)/\ys=bs.map V.ref/\Tps H3 bs ((ps.map (·.2)).take j)) ?_ ?_ ?_ ?_
 ·exact⟨none,[],rfl,Same.new hD,upd_same,rfl,.nil⟩
 ·rintro j σ ys H3 ⟨v,bs,rfl,sm,hD3,rfl,_⟩
  exact sm.seq hl
 ·rintro j σ ys H3 x hx hj hy ⟨v,bs,rfl,sm,hD3,rfl,hb⟩
  obtain⟨o,eo,rfl⟩:=zE hx;obtain⟨os,eos,ho⟩:=ht.get eo;obtain⟨a,b,eo3,ha,hb'⟩:=ho.same sm;have hn:(ts.map V.ref).length<=sizeLine:=by rw[Ab]; exact line_big (by omega)
  have e:(ps.map (·.2))[j]?=some os.2:=by rw[Al,eos]; rfl
  refine gyes ⟨_,rfl,o,_,_,_,rfl,rfl,SqT.of eo3,zC (j:=1) rfl,cput hn hj hy hD3 ⟨_,bs++[b],rfl,sm.then hD,upd_same,by rw[Ag]; rfl,?_⟩⟩;rw[AH e];exact Tps.upd (Tps.snoc hb hb') hD3 (by intro xs z; cases z)
 ·rintro σ ys H3 ⟨v,bs,rfl,sm,hD3,rfl,hb⟩
  rw[An (by rw[Ab,Ab]; omega)] at hb;exact k H3 bs sm hD3 hb
end
theorem zk1 {ps:List Pq}{p:List Int}:p∈ps.map (·.1)++ps.map (·.2) ↔ p∈stds ps:=(zbE ps).mem_iff.symm
theorem zhW {H:Hp}:∀{ts:List Addr}{ps:List Pq},Prs2 H ts ps->∃kvs:List (List Key×V),Paired (fun t (kv:List Key×V)=>∃b,H t=some (.tup [.ref b,kv.2])/\H b=some (.tup (kv.1.map kV))) ts kvs/\Paired (SecR H) kvs ps/\kvs.map (·.1)=ps.map fun x=>(x.1.map Sum.inl:List Key)
 | _,_,.nil=>⟨[],.nil,.nil,rfl⟩
 | _,_,.cons (b:=x) ⟨a,b,e,ha,hb⟩ t=>by
  obtain⟨kvs,h1,h2,h3⟩:=zhW t;exact⟨(x.1.map Sum.inl,.ref b)::kvs,.cons ⟨a,e,z0 ha⟩ h1,.cons ⟨rfl,b,rfl,hb⟩ h2,by rw[Av,Av,h3]⟩
theorem zi1 {kvs:List (List Key×V)} (h:(kvs.map (·.1)).Nodup):zhu kvs=kvs:=by
 have go:∀(kvs acc:List (List Key×V)),((acc++kvs).map (·.1)).Nodup->kvs.foldl (fun acc kv=>putK acc kv.1 kv.2) acc=acc++kvs:=by
  intro kvs
  induction kvs with
  | nil=>intro acc _; simp
  | cons kv r ih=>
   intro acc h;have hn:valV acc kv.1=none:=by
    cases e:valV acc kv.1 with
    | none=>rfl
    | some v=>
     rw[Ag,AL] at h;exact absurd rfl (h.2.2 kv.1 (zds e) kv.1 (by simp))
   rw[List.foldl_cons,zcs _ hn,ih _ (by rw[A4]; exact h),A4]
   rfl
 exact go kvs [] h
theorem zgn {ps:List Pq} (h:(ps.map (·.1)).Nodup):(ps.map fun x=>(x.1.map Sum.inl:List Key)).Nodup:=by
 unfold List.Nodup at h ⊢;rw[List.pairwise_map] at h ⊢;exact h.imp fun {x y} h e=>h (zai.mp e)
theorem KnS.updL {H:Hp}{kd D:Addr}{kn left:List (List Int)}{R:List Int->List Int->Int} (h:KnS H kd kn left R) {ys:List V} (hD:H D=some (.lst ys)) {o:HO}:KnS (upd H D o) kd kn left R:=by
 obtain⟨kvs,h1,h2,h3,h4⟩:=h;have go:∀{c:Addr} {q:List (List Key×V)},H c=some (.dT q)->upd H D o c=some (.dT q):=fun {c q} ec=>by rw[zk fun z=>by subst z; rw[ec] at hD; cases hD]; exact ec
 exact⟨kvs,go h1,h2,h3,fun q v e=>let ⟨b,c,a1,a2,a3,a4⟩:=h4 q v e; ⟨b,c,a1,a2,go a3,a4⟩⟩
theorem RwsD.sameB {H H':Hp}{kd:Addr}{kvs:List (List Key×V)} (s:zaa kd H H') (ek:H kd=some (.dT kvs)):∀{ts:List (Addr×Addr)}{xs:List (List Int×Ch)},RwsD H ts xs->(∀t∈ts,t.2≠kd)->RwsD H' ts xs
 | _,_,.nil,_=>.nil
 | _,_,.cons ⟨b,e1,e2,e3⟩ r,hn=>.cons ⟨b,s _ _ (fun z=>by rw[z] at e1; rw[e1] at ek; cases ek) e1,s _ _ (key_ne ek e2) e2,s _ _ (hn _ Am) e3⟩ (RwsD.sameB s ek r fun t ht=>hn t (Ar _ ht))
abbrev tDue:TE:=tTup (zW (tVar 0) (zW (zji zfo [] E0 (zW (tVar 0) (zW (tVar 1) (zW (tVar 2) (zW (tVar 3) tNil))))) tNil))
section
variable {K:Ad}
theorem ziB {H2:Hp}{LF D BF KD:Addr}{ls:List Addr}{kn left:List (List Int)}{ps:List Pq}{R:List Int->List Int->Int}{Q:VK} (hl:H2 LF=some (.lst (ls.map V.ref))) (ht:Tps H2 ls left) (hs:Sec H2 BF ps) (nbk:BF≠KD) (hkn:KnS H2 KD kn left R) (sf:Sf kn left ps R) (hdp:∀q∈kn,Dp ps 60 q) (hD:H2 D=none)
  (k:∀(H3:Hp) (ts:List (Addr×Addr)) (xs:List (List Int×Ch)),zaa KD H2 H3->H3 D=some (.lst (ts.map rowV))->RwsD H3 ts xs->xs.map (·.1)=left->(∀x∈xs,Thn R x)->Q (.ref D) H3) :
  zaj (Itl K LF) (zX 0) tYes tDue [none,some (.ref BF),some (.ref LF),some (.ref KD)] H2 D Q:=by
 have hla:=ht.length;obtain⟨kvs0,ek0,_⟩:=id hkn;have hfw:=sf.fwl;refine zL (xs:=ls.map V.ref) (fun j σ ys H3=>∃(v0:Option V) (ts:List (Addr×Addr)) (xs:List (List Int×Ch)),σ=[v0,some (.ref BF),some (.ref LF),some (.ref KD)]/\zaa KD H2 H3/\KnS H3 KD kn left R/\H3 D=some (.lst ys)/\ys=ts.map rowV/\RwsD H3 ts xs/\(∀t∈ts,t.2≠KD)/\xs.map (·.1)=left.take j/\∀x∈xs,Thn R x) ?_ ?_ ?_ ?_
 ·exact⟨none,[],[],rfl,fun b o _ e=>Same.new hD _ _ e,hkn.same (Same.new hD),upd_same,rfl,.nil,(fun t ht=>by cases ht),rfl,(fun x hx=>by cases hx)⟩
 ·rintro j σ ys H3 ⟨v0,ts,xs,rfl,sb,_⟩
  exact SqL.of (sb _ _ (fun z=>by rw[z] at hl; rw[hl] at ek0; cases ek0) hl)
 ·rintro j σ ys H3 v hv hj hy ⟨v0,ts,xs,rfl,sb,kn3,hD3,rfl,hp,hn3,hx1,hx2⟩
  obtain⟨o,eo,rfl⟩:=zE hv;obtain⟨r,er,ho⟩:=ht.get eo;have hrl:=Ak er;have hn:(ls.map V.ref).length<=sizeLine:=by rw[Ab]; exact line_big (by omega)
  have sb2:SB2 KD KD H2 H3:=.ofB sb;obtain⟨kvs3,ek3,_⟩:=id kn3;have ho3:=sb2.tp ek0 ek0 ho;refine gyes ⟨_,rfl,_,rfl,_,rfl,_,rfl,_,rfl,o,BF,LF,KD,r,kn,left,ps,R,ls,rfl,ho3,sb2.sec ek0 ek0 nbk nbk hs,nbk,sb2.lst ek0 ek0 hl,sb2.tps ek0 ek0 ht,kn3,sf,((sf.lm r).mp hrl).1,hdp,fun d H4 c sb4 kn4 hd0 hd4 hth=>⟨line_big (by simp),fun p hp0=>?_⟩⟩;have s5:=Same.new (o:=.tup [.ref o,.ref d]) hp0;have nDk:D≠KD:=fun z=>by rw[z] at hD3; rw[hD3] at ek3; cases ek3
  have hD4:=sb4 _ _ nDk hD3;have hD5:=s5 _ _ hD4;have ndk:d≠KD:=fun z=>by rw[z,ek3] at hd0; cases hd0
  have ho5:Tp (upd H4 p (.tup [.ref o,.ref d])) o r:=s5.tp (sb4 _ _ (key_ne ek3 ho3) ho3);have hrow:RwD (upd H4 p (.tup [.ref o,.ref d])) (p,d) (r,c):=⟨o,upd_same,ho5,s5 _ _ hd4⟩;have hp5:=(RwsD.sameB sb4 ek3 hp hn3).same s5;refine cput hn hj hy hD5 ⟨_,ts++[(p,d)],xs++[(r,c)],rfl,fun b u hb e=>?_,(kn4.same s5).updL hD5,upd_same,by rw[Ag]; rfl,RwsD.upd (Paired.snoc hp5 hrow) hD5,fun t ht=>?_,?_,fun x hx=>?_⟩
  ·rw[zk (zj e hD)]
   exact s5 _ _ (sb4 b u hb (sb b u hb e))
  ·rcases List.mem_append.mp ht with h | h
   ·exact hn3 t h
   ·rw[List.mem_singleton.mp h]; exact ndk
  ·rw[AH er,Ag,hx1]; rfl
  ·rcases List.mem_append.mp hx with h | h
   ·exact hx2 x h
   ·rw[List.mem_singleton.mp h]; exact hth
 ·rintro σ ys H3 ⟨v0,ts,xs,rfl,sb,kn3,hD3,rfl,hp,hn3,hx1,hx2⟩
  rw[Ab,hla,An (Af _)] at hx1;exact k H3 ts xs sb hD3 hp hx1 hx2
end
end K48
end
section
namespace L2
open PySem PySem.Spec PyProof.Rows
section
variable {X:Cx}{scope:Scope}{N':List Str}{caps:List (Option Nat)}{tg iter elt:Expr}{ifs:List Expr}{wi:TI}{g:TG}{tc:TT}{te:TE}{pos:Pos}
theorem zk2 {i:Nat}{x:Str}{pos' spos:Pos} (hc:X.calm=true) (hk:scope.kind=.function) (hcell:∀y∈scope.names,y.2≠.cell) (hnames:∀y∈scope.names,y.2=.local->scope.names.lookup y.1=some .local)
  (hfr:∀y∈scope.names,y.2=.free->X.env.kindOf y.1=some .cell \/ X.env.kindOf y.1=some .free) (hcap:zjq X.N N' caps scope)
  (hi:PI X tg iter wi) (hg:∀cl C s₀ H₀ ex,PG (cxC X scope N' cl C s₀ H₀ ex) tg g) (ht:∀cl C s₀ H₀ ex,PTL (cxC X scope N' cl C s₀ H₀ ex) ifs tc) (he:∀cl C s₀ H₀ ex,PE (cxC X scope N' cl C s₀ H₀ ex) elt te)
  (hs:∀x,foldedSetIterable iter X.env x=pure x) (hN:X.N.Nodup) (hi':X.N[i]?=some x) (hx:Loc X.env.scope x) (hf:X.fn x=true \/ X.env.scope.names.lookup x=some .local)
  (hsw:swapsWith (.ListComp elt [⟨tg,iter,ifs,0⟩] scope pos) (some (.Name x pos')) spos.line X.env=pure true) :
  PS X (.Assign [.Name x pos'] (.ListComp elt [⟨tg,iter,ifs,0⟩] scope pos) spos) (tAsg (tLC wi caps g tc te) (zX i)):=by
 intro pins s σ H D I h;rw[exec_Assign_Name_used _ _ _ _ hsw];refine Aa (wpAny_standAt (Aa ?_));show wpAny _ X.A (do let _ <- comprehension (.ListComp elt [⟨tg,iter,ifs,0⟩] scope pos) scope X.env _ (newList []) (firstAsync [⟨tg,iter,ifs,0⟩]) (firstIter [⟨tg,iter,ifs,0⟩] X.env) (some (assign (.Name x pos') X.env))) _ _ s;refine Aa (wpAny_mono (zee (use:=some (assign (.Name x pos') X.env)) (R:=fun _ s'=>SP X pins D .next s') hc hk hcell hnames hfr hcap hi hg ht he hs I h fun Dl C H' s4 f L q=>?_) (fun _ s' hq=>Ac (Ac hq)) fun _ _ e=>e);show wpAny _ X.A (assign (.Name x pos') X.env (.ref Dl)) _ _ s4;refine wpAny_assign_Name (zeu (v:=.ref Dl) (L.back s4.heap (Heap.SameBut.refl _ _)) hN hi' hx rfl (fun s5 I5 ⟨a,hsa,ha⟩=>?_) hf);have hCa:C≠a:=by
  rcases ha with e | e
  ·rw[e]; exact L.nl
  ·exact fun z=>L.nc x a e z.symm
 obtain⟨m,hn⟩:=L.ns;refine⟨m,hn.sameBut hsa hCa,fun h' hs'=>⟨_,H',?_,q⟩⟩;refine I5.call' (s':={ s5 with heap:=h' }) (ch:=[C]) rfl ⟨fun b o q n hb hx=>?_,fun b o q n hb hx=>?_,fun b o q n hx=>n,fun b o q hx=>?_,fun b xs q=>q,fun b o u q=>q,fun b ps q=>⟨#[],by simpa using q⟩⟩ ?_ I5.bare fun b hb=>?_
 ·exact (hs'.2 b (by simpa using hx)).trans q
 ·exact⟨o.slots,(hs'.2 b (by simpa using hx)).trans q⟩
 ·exact⟨o,(hs'.2 b (by simpa using hx)).trans q⟩
 ·intro b u e
  refine (I5.hok b u e).stay (fun c v hc q=>(hs'.2 c ?_).trans q) (fun _ q=>q) fun _ _ q=>q;rintro rfl;rcases hc with z | z
  ·rw[<- z,L.no] at e; cases e
  ·rw[L.no] at z; cases z
 ·have e:b=C:=by simpa using hb
  subst e;exact⟨.inr L.far,L.nl,L.nc,L.np⟩
end
end L2
end
section
namespace L2
open PySem PySem.Spec PyProof.Rows
section
variable {X:Cx}{scope:Scope}{caps:List (Option Nat)}{tg iter elt:Expr}{ifs:List Expr}{wi:TI}{g:TG}{tc:TT}{te:TE}{pos:Pos}
theorem zkR {i:Nat}{x:Str}{pos' spos:Pos} (hnd:X.N.Nodup) (hi':X.N[i]?=some x) (hx:Loc X.env.scope x) (N N':List Str) (caps:List (Option Nat)) (hi:PI X tg iter wi) (hg:∀cl C s₀ H₀ ex,PG (cxC X scope N' cl C s₀ H₀ ex) tg g) (ht:∀cl C s₀ H₀ ex,PTL (cxC X scope N' cl C s₀ H₀ ex) ifs tc) (he:∀cl C s₀ H₀ ex,PE (cxC X scope N' cl C s₀ H₀ ex) elt te)
  (hc:X.calm=true:=by rfl) (hk:scope.kind=.function:=by rfl) (hcell:∀y∈scope.names,y.2≠.cell:=by decide +kernel) (hnames:∀y∈scope.names,y.2=.local->scope.names.lookup y.1=some .local:=by decide +kernel)
  (hfr:∀y∈scope.names,y.2=.free->X.env.kindOf y.1=some .cell \/ X.env.kindOf y.1=some .free) (hN:X.N=N:=by rfl) (hcap:capB N N' caps scope=true:=by decide +kernel)
  (hs:∀x,foldedSetIterable iter X.env x=pure x:=by intro _; rfl) (hf:X.fn x=true \/ X.env.scope.names.lookup x=some .local:=by first | exact .inl rfl | exact .inr rfl | assumption)
  (hsw:swapsWith (.ListComp elt [⟨tg,iter,ifs,0⟩] scope pos) (some (.Name x pos')) spos.line X.env=pure true:=by rfl) :
  PS X (.Assign [.Name x pos'] (.ListComp elt [⟨tg,iter,ifs,0⟩] scope pos) spos) (tAsg (tLC wi caps g tc te) (zX i)):=
 zk2 hc hk hcell hnames hfr (zfZ (by rw[hN]; exact hcap)) hi hg ht he hs hnd hi' hx hf hsw
end
end L2
end
section
namespace K48
open K1
open PySem L2 STb
abbrev sLaw:Stmt:=top 50
abbrev nmL:List Str:=["script","box","web","pairs","pair","by_first","met","left","known","due","handed","turn","found","k"]
theorem u128 {k:Nat}{A:Around} (r:Room k A):A.units+128<cLine:=by have:=r.un; omega
theorem SB2.tpL {k f:Addr}{H H1:Hp}{x y:List V} (s:SB2 k f H H1) (hk:H k=some (.lst x)) (hf:H f=some (.lst y)) {a:Addr}{p:List Int} (h:Tp H a p):Tp H1 a p:=
 s _ _ (fun z=>by subst z; rw[show H a=some _ from h] at hk; cases hk) (fun z=>by subst z; rw[show H a=some _ from h] at hf; cases hf) h
theorem SB2.pr2L {k f:Addr}{H H1:Hp}{x y:List V} (s:SB2 k f H H1) (hk:H k=some (.lst x)) (hf:H f=some (.lst y)) {t:Addr}{z:Pq} (h:Pr2 H t z):Pr2 H1 t z:=by
 obtain⟨a,b,e,h1,h2⟩:=h;exact⟨a,b,s _ _ (fun z=>by subst z; rw[e] at hk; cases hk) (fun z=>by subst z; rw[e] at hf; cases hf) e,s.tpL hk hf h1,s.tpL hk hf h2⟩
theorem ziX {p:Addr}{H H':Hp}{t:Addr}{x:Pq} (sb:zaa p H H') (hb:zal H p) (h:Pr2 H t x):Pr2 H' t x:=by
 obtain⟨a,b,e,ha,hb'⟩:=h;exact⟨a,b,sb _ _ (hb.net e) e,sb _ _ (hb.net ha) ha,sb _ _ (hb.net hb') hb'⟩
theorem zd7 {p:Addr}{H H':Hp}{ts:List Addr}{xs:List Pq} (sb:zaa p H H') (hb:zal H p) (h:Prs2 H ts xs):Prs2 H' ts xs:=Paired.mapP h fun _ _ q=>ziX sb hb q
theorem zhy {H:Hp}:∀{as:List Addr}{ps:List Pq}{a:Addr}{x:Pq},Prs2 H as ps->Pr2 H a x->∀n,Prs2 H (as.take n++a::as.drop n) (ps.take n++x::ps.drop n)
 | _,_,_,_,h,q,0=>.cons q h
 | _,_,_,_,.nil,q,n+1=>.cons q .nil
 | _,_,_,_,.cons r t,q,n+1=>.cons r (zhy t q n)
theorem zll {kn:List (List Int)}{fps qs rest:List Pq} (h:(qs++rest).Perm fps) (g:PG kn fps):PG kn qs:=by
 have hm:∀x∈qs,x∈fps:=fun x hx=>h.mem_iff.mp (AI _ hx);refine⟨fun x hx=>g.has x (hm x hx),?_,zb1 g.ac hm⟩;have:=(zbN h).nodup_iff.mpr g.nd;rw[zaZ,AL] at this;exact this.1
theorem Paired.cut {α β:Type}{R:α->β->Prop}:∀{xs:List α}{ys:List β} (n:Nat),Paired R xs ys->Paired R (xs.drop n) (ys.drop n)
 | _,_,0,h=>h
 | _,_,n+1,.nil=>.nil
 | _,_,n+1,.cons _ t=>Paired.cut n t
theorem zkg {R:List Int->List Int->Int}:∀{xs ys:List (List Int×Ch)},xs.map (·.1)=ys.map (·.1)->(∀x∈xs,Thn R x)->(∀y∈ys,Thn R y)->Paired Alk xs ys
 | [],[],_,_,_=>.nil
 | [],_::_,h,_,_=>by cases h
 | _::_,[],h,_,_=>by cases h
 | x::xs,y::ys,h,hx,hy=>by
  rw[Av,Av] at h;injection h with h1 h2
  have tx:=hx x Am;have ty:=hy y Am;refine .cons ⟨h1,zgO tx.nd ty.nd tx.nz ty.nz fun e=>by rw[tx.at_ e,ty.at_ e,h1]⟩ (zkg h2 (fun z hz=>hx z (Ar _ hz)) fun z hz=>hy z (Ar _ hz))
theorem RwsD.updD {H:Hp}{d:Addr}{o:HO}{kvs:List (List Key×V)} (hd:H d=some (.dT kvs)):∀{ts:List (Addr×Addr)}{xs:List (List Int×Ch)},RwsD H ts xs->(∀t∈ts,t.2≠d)->RwsD (L2.upd H d o) ts xs
 | _,_,.nil,_=>.nil
 | _,_,.cons ⟨b,e1,e2,e3⟩ r,hn=>.cons ⟨b,by rw[zk fun z=>by rw[z] at e1; rw[e1] at hd; cases hd]; exact e1,by show L2.upd H d o b=_; rw[zk (key_ne hd e2)]; exact e2,by rw[zk (hn _ Am)]; exact e3⟩ (RwsD.updD hd r fun t ht=>hn t (Ar _ ht))
theorem zfy {rs:List (Addr×Addr)}{i:Nat}{t:Addr×Addr} (e:rs[i]?=some t):atI (rs.map rowV) (0+(i:Int))=some (.ref t.1):=by
 rw[Int.zero_add];exact zC (by rw[Al,e]; rfl)
abbrev rIB:List V->Hp->VK->Prop:=fun xs H Q=>∃n,xs=[.int n,.ty "bool"]/\Q (.bl false) H
abbrev tBl (K:Ad):TT:=tB (tCB rIB (zW (zeN (tOp (rIxT K) (tOp (rIxL K) (tVar 1) (tVar 2)) (tC (.int 1))) (tVar 0)) (zW (tC (.ty "bool")) tNil)))
section
variable {P:Program}{w:World}{K:Ad}{mg:Str->Option Value}{base:Heap}
theorem zhw {H2:Hp}{L D FO:Addr}{as:List Addr}{rs:List (Addr×Addr)}{i:Nat}{t:Addr×Addr}{x:List Int×Ch}{Q:VK} (hl:H2 L=some (.lst (as.map V.ref))) (ht:Tps H2 as (ksC x.2)) (hF:H2 FO=some (.lst (rs.map rowV))) (et:rs[i]?=some t) (hr:RwD H2 t x) (hn:(ksC x.2).Nodup) (hz:x.2.length<=1000) (hD:H2 D=none)
  (k:∀(H3:Hp),Same H2 H3->H3 D=some (.lst [])->Q (.ref D) H3) :
  zaj (Itl K L) (zX 0) (tBl K) (tVar 0) [none,some (.ref FO),some (.int (0+(i:Int)))] H2 D Q:=by
 refine zL (xs:=as.map V.ref) (fun j σ ys H3=>∃(v:Option V),σ=[v,some (.ref FO),some (.int (0+(i:Int)))]/\Same H2 H3/\H3 D=some (.lst ys)/\ys=[]) ?_ ?_ ?_ ?_
 ·exact⟨none,rfl,Same.new hD,upd_same,rfl⟩
 ·rintro j σ ys H3 ⟨v,rfl,sm,_⟩
  exact SqL.of (sm _ _ hl)
 ·rintro j σ ys H3 v hv hj hy ⟨v0,rfl,sm,hD3,rfl⟩
  obtain⟨o,eo,rfl⟩:=zE hv;obtain⟨e,ee,ho⟩:=ht.get eo;obtain⟨c,ec,rfl⟩:=zis ee;obtain⟨b,e1,e2,e3⟩:=hr;refine⟨_,rfl,_,rfl,FO,_,_,_,rfl,rfl,SqL.of (sm _ _ hF),zfy et,t.1,_,_,_,rfl,rfl,SqT.of (sm _ _ e1),zC (j:=1) rfl,_,rfl,t.2,.int c.2,rfl,.inr ⟨kvC x.2,c.1.map Sum.inl,o,.inl (sm _ _ e3),rfl,z0 (sm.tp ho),(zb3 hn c (Ak ec)).symm⟩,_,rfl,_,rfl,iteF (cskip hj hy ⟨_,rfl,sm,hD3,rfl⟩)⟩
 ·rintro σ ys H3 ⟨v,rfl,sm,hD3,rfl⟩
  exact k H3 sm hD3
def zi9 (K:Ad):Sp:=fun vs H Q _=>∃(a:Addr) (ns:List Int),vs=[.ref a]/\SqL K H a (ns.map V.int)/\ns.length<=63/\∀H',Q (.bl true) H'
theorem zbH:zu nmL ["script"] (zh sLaw):=⟨rfl,rfl,rfl,by decide +kernel,rfl,by decide +kernel,by decide +kernel⟩
theorem zmR {f fc fb ft fw fl fp fe fh:Addr}{fd fdc fdb fdt fdw fdl fdp fde fdh:FuncData} (F:Fun K "law" "law" sLaw f fd) (B:Bt mg) (ydict:mg "dict"=none)
  (Fc:Fun K "_law_cell_at" "_law_cell_at" ze5 fc fdc) (bc:Binds K fdc ["script","k"] []) (mc:mg "_law_cell_at"=some (.ref fc))
  (Fb:Fun K "_law_box" "_law_box" sBox fb fdb) (bb:Binds K fdb ["cell"] []) (mb:mg "_law_box"=some (.ref fb))
  (Ft:Fun K "_law_take" "_law_take" zdV ft fdt) (bt:Binds K fdt ["box","most"] []) (mt:mg "_law_take"=some (.ref ft))
  (Fw:Fun K "_law_web" "_law_web" sWeb fw fdw) (bw:Binds K fdw ["box"] []) (mw:mg "_law_web"=some (.ref fw)) (Gw:FnOk P w K mg base CX0 3 fw fdw ["box"] zmp)
  (Fl:Fun K "_law_pieces" "_law_pieces" zaV fl fdl) (bl:Binds K fdl ["web"] []) (ml:mg "_law_pieces"=some (.ref fl)) (Gl:FnOk P w K mg base CX0 2 fl fdl ["web"] (zg0 K))
  (Fp:Fun K "pairing" "pairing" zax fp fdp) (bp:Binds K fdp ["web"] []) (mp:mg "pairing"=some (.ref fp)) (Gp:FnOk P w K mg base CX0 9 fp fdp ["web"] (zel K))
  (Fe:Fun K "thin_seams" "thin_seams" zes fe fde) (be:Binds K fde ["web","pairs"] []) (me:mg "thin_seams"=some (.ref fe)) (Ge:FnOk P w K mg base CX0 11 fe fde ["web","pairs"] (zjU K))
  (Fh:Fun K "_law_thin" "_law_thin" zce fh fdh) (bh:Binds K fdh ["piece","by_first","left","known"] []) (mh:mg "_law_thin"=some (.ref fh)) (Gh:FnOk P w K mg base CX0 64 fh fdh ["piece","by_first","left","known"] zfo) :
  FnOk P w K mg base CX0 65 f fd ["script"] (zi9 K):=by
 have Gc:FnOk P w K mg base CX0 1 fc fdc ["script","k"] (zki K):=zkr Fc B;have Gb:FnOk P w K mg base CX0 1 fb fdb ["cell"] zmT:=zlL Fb;have Gt:FnOk P w K mg base CX0 1 ft fdt ["box","most"] zf1:=ze7 Ft;refine F.ok zbH (fun vs H Q E h=>?_) (fun cdv A outer s H vs Q E hr h=>?_)
 ·obtain⟨a,ns,rfl,_⟩:=h; rfl
 ·obtain⟨a,nn,rfl,hS,hn,k⟩:=h
  have hu:=zbo hr;have hu64:=hr.units;have hu128:=u128 hr;have hi1:=in1_units hu64;have hr1:Room 1 _:=hr.mono (by decide);have hr2:Room 2 _:=hr.mono (by decide);have hr3:Room 3 _:=hr.mono (by decide);have hr9:Room 9 _:=hr.mono (by decide);have hr11:Room 11 _:=hr.mono (by decide);have R10:∃tr,PSs (cxOf CX0 P w K mg base nmL "law" (zh sLaw) f cdv A outer s H E).nox (List.drop 10 (zp sLaw)) tr/\
    ∀(p O PD DU HD LA LB:Addr) (os ts:List Addr) (us:List (Addr×Addr)) (pss:List (List Int)) (ps:List Pq) (R:List Int->List Int->Int) (ys:List (List Int×Ch)) (v4 v5 v6 v7 v8:Option V) (H3:Hp),
     H3 O=some (.lst (os.map V.ref))->Tps H3 os pss->webS pss->H3 PD=some (.lst (ts.map V.ref))->Prs2 H3 ts ps->ps.length<=60->PG (canon pss) ps->IsR ((canon pss).filter fun p=>!decide (p∈stds ps)) ps R->H3 DU=some (.lst (us.map rowV))->RwsD H3 us ys->ys.map (·.1)=((canon pss).filter fun p=>!decide (p∈stds ps))->(∀y∈ys,Thn R y)->
     H3 HD=some (.lst [.ref LA,.ref LB])->H3 LA=some (.lst (os.map V.ref))->H3 LB=some (.lst (ts.map V.ref))->
     tr { nx:=fun _ H'=>Q .non H',rt:=Q } [some (.ref a),some (.ref p),some (.ref O),some (.ref PD),v4,v5,v6,v7,v8,some (.ref DU),some (.ref HD),none,none,none] H3:=by
   refine⟨_,zf (zM AF rfl (zaN rfl B.range (ze zl zg)) (zm (i:=11) zbH.nd rfl (Or.inl rfl))
     (zf (zq (i:=12) zbH.nd rfl (Or.inr rfl) (zn Ge hr11 rfl me Fe.kp be .nil pass0 (ze (zR zab (pv 10) zl (fun _ _=>rfl)) (ze (zR zab (pv 10) zl (fun _ _=>rfl)) zg))))
     (zf (zaf (PW.pt (zhC (zc5 (zbS (zv zfe rfl B.isinstance zbe (ze (pv 12) (ze (zfd (v:=.ty "list") rfl B.list zaK rfl) zg)))))
      (zhC (zy (zgZ hu128) (pv 12) (pv 9) (nomark _)) (zfF (zy (zk8 hu128) (pv 10) (zY (ze (pv 2) (ze (pv 3) zg))) (nomark _)))))) (zi (zt zbf)) zA)
     (zf (zM AF rfl (zaN rfl B.range (ze (zv zo rfl B.len zaI (ze (pv 12) zg)) zg)) (zm (i:=13) zbH.nd rfl (Or.inr rfl))
      (zf (zaf (zc5 (zbS (zv zfr rfl B.isinstance zbe (ze (zR zZ (zR zab (pv 12) (pv 13) (fun _ _=>rfl)) zl (fun _ _=>rfl)) (ze (zfd (v:=.ty "dict") rfl ydict zdH rfl) zg))))) (zi (zt zbf)) zA)
      (zf (zaf (zy zc1 (zv zo rfl B.len zaI (ze
        (zx nmL ["one","found","k"] [none,some 12,some 13] (zw (zB (zay rfl) rfl B.list zaK (ze (zR zZ (zR zab (pv 12) (pv 13) (fun _ _=>rfl)) zl (fun _ _=>rfl)) zg))) (fun cl C s₀ H₀ ex=>zm (i:=0) (ndN ["one","found","k"]) rfl (Or.inl rfl))
         (fun cl C s₀ H₀ ex=>zbB (zbS (zv zeX rfl B.isinstance zbe (ze (zan hu (zR zZ (zR zab (pv 1) (pv 2) (fun _ _=>rfl)) zl (fun _ _=>rfl)) (pv 0) (fun _ _=>rfl)) (ze (zfd (v:=.ty "bool") rfl B.bool zml rfl) zg)))))
         (fun cl C s₀ H₀ ex=>pv 0) (hfr:=frOf (zh sLaw) (by decide +kernel)) (tc:=tBl K)) zg)) zl (nomark _)) (zi (zt zbf)) zA)
      (zf (zQ hu (zR zZ (zR zab (pv 12) (pv 13) (fun _ _=>rfl)) zl (fun _ _=>rfl)) (zak zg) zl rfl)
      (zi (zaf (zy (zgZ hu128) (zaF zfp (pv 12) (za2 (zH zat (pv 13) zl)) za5) (zaF zfp (pv 9) (za2 (zH zat (pv 13) zl)) za5) (nomark _)) (zi (zt zbf)) zA))))))
     (zi (zaz (zci AU PySem.F.slot_list_append PySem.F.type_list_append zaA (pv 12) (ze (zak zg) zg))))))))
    (zi (zt zbf)),?_⟩
   intro p O PD DU HD LA LB os ts us pss ps R ys v4 v5 v6 v7 v8 H3 hO ho hws hP hp hz pg hR hDU hus hy1 hy2 hH hA hB;refine⟨2,rfl,by omega,by omega,?_⟩;refine zbI (lo:=0) (n:=(2:Int).toNat) (fun i σ H4=>∃(v11 v12 v13:Option V),σ=[some (.ref a),some (.ref p),some (.ref O),some (.ref PD),v4,v5,v6,v7,v8,some (.ref DU),some (.ref HD),v11,v12,v13]/\Same H3 H4) ⟨none,none,none,rfl,Same.refl _⟩ ?_ ?_
   ·rintro i σ H4 hi ⟨v11,v12,v13,rfl,s4⟩
    refine⟨_,rfl,HD,_,_,_,rfl,rfl,SqL.of (s4 _ _ hH),zC (j:=0) rfl,_,rfl,HD,_,_,_,rfl,rfl,SqL.of (s4 _ _ hH),zC (j:=1) rfl,?_⟩;refine⟨LA,LB,os,pss,ts,ps,R,rfl,SqL.of (s4 _ _ hA),s4.tps ho,hws,SqL.of (s4 _ _ hB),hp.same s4,by omega,pg,hR,fun FO H5 rs xs s5 hFO0 hFO hrs hx1 hx2 hx3 hx4=>?_⟩;have s45:=s4.trans s5;have halk:=zkg (hx1.trans hy1.symm) (fun x hx=>(hx2 x hx).1) hy2;have hF30:H3 FO=none:=s4.free hFO0;have hx40:∀t∈rs,H3 t.2=none:=fun t ht=>s4.free (hx4 t ht);refine⟨_,rfl,FO,_,rfl,hFO,_,rfl,iteF ?_⟩;refine⟨_,rfl,_,rfl,FO,DU,rs,us,xs,ys,rfl,rfl,SqL.of hFO,SqL.of (s45 _ _ hDU),hrs,hus.same s45,halk,_,rfl,iteF ?_⟩;refine⟨_,rfl,_,rfl,_,rfl,line_big (by simp),fun T hT=>?_⟩;have s6:=Same.new (o:=.lst [.ref O,.ref PD]) hT;have s46:=s45.trans s6;refine⟨HD,T,LA,LB,O,PD,os,os,ts,ts,pss,ps,rfl,rfl,SqL.of (s46 _ _ hH),SqL.of upd_same,SqL.of (s46 _ _ hA),s46.tps ho,SqL.of (s46 _ _ hO),s46.tps ho,SqL.of (s46 _ _ hB),hp.same s46,SqL.of (s46 _ _ hP),hp.same s46,_,rfl,iteF ?_⟩;have hF6:=s6 _ _ hFO;have hr6:=hrs.same s6;generalize upd H5 T (.lst [.ref O,.ref PD])=H6 at s6 s46 hF6 hr6;have hrl:=AN hrs;have hxl:xs.length<=200:=by
     have e:=congrArg List.length hx1;rw[Ab] at e;obtain⟨_,_,_,h200⟩:=za7 hws.1;rw[<- zas] at h200;have:=List.length_filter_le (fun p=>!decide (p∈stds ps)) (canon pss);omega
    refine⟨_,rfl,FO,_,rfl,.inl (SqL.of hF6),_,rfl,by rw[Ab]; omega,by rw[Ab]; omega,?_⟩;rw[Ab];refine zbI (lo:=0) (n:=(rs.length:Int).toNat) (fun j σ H7=>∃(v13:Option V),σ=[some (.ref a),some (.ref p),some (.ref O),some (.ref PD),v4,v5,v6,v7,v8,some (.ref DU),some (.ref HD),some (.int (0+(i:Int))),some (.ref FO),v13]/\Same H3 H7/\H7 FO=some (.lst (rs.map rowV))/\RwsD H7 (rs.drop j) (xs.drop j)) ⟨_,rfl,s46,hF6,hr6⟩ ?_ ?_
    ·rintro j σ H7 hj ⟨v13,rfl,s7,hF7,hr7⟩
     have hj':j<rs.length:=by omega
     have hjx:j<xs.length:=by omega
     have et:rs[j]?=some rs[j]:=Ai hj';rw[List.drop_eq_getElem_cons hj',List.drop_eq_getElem_cons hjx] at hr7;have hxm:xs[j]∈xs:=List.getElem_mem hjx;have htm:rs[j]∈rs:=List.getElem_mem hj';have hne:∀t∈rs.drop (j+1),t.2≠rs[j].2:=fun t ht z=>by
      have hnd:=hx3;rw[<- List.take_append_drop j rs,Ag,AL,List.drop_eq_getElem_cons hj',Av,List.nodup_cons] at hnd;exact hnd.2.1.1 (List.mem_map.mpr ⟨t,ht,z⟩)
     generalize rs[j]=t at et hr7 htm hne;generalize xs[j]=x at hr7 hxm;have tx:=(hx2 x hxm).1;cases hr7 with
     | cons hrow hrest=>
     obtain⟨b,e1,e2,e3⟩:=id hrow;have hxz:x.2.length<=1000:=AG (hx2 x hxm).2 (by decide);refine⟨_,rfl,_,rfl,FO,_,_,_,rfl,rfl,SqL.of hF7,zfy et,t.1,_,_,_,rfl,rfl,SqT.of e1,zC (j:=1) rfl,t.2,_,rfl,e3,_,rfl,iteF ?_⟩;refine⟨_,rfl,_,rfl,FO,_,_,_,rfl,rfl,SqL.of hF7,zfy et,t.1,_,_,_,rfl,rfl,SqT.of e1,zC (j:=1) rfl,t.2,kvC x.2,rfl,.inl e3,fun bs pb L hL=>⟨L,rfl,⟨_,SqL.of upd_same⟩,fun D hD=>?_⟩⟩;have te:=zco pb;have sL:=Same.new (o:=.lst (bs.map V.ref)) hL;have hrowL:RwD (upd H7 L (.lst (bs.map V.ref))) t x:=⟨b,sL _ _ e1,sL.tp e2,sL _ _ e3⟩;refine zG (zhw upd_same (sL.tps te) (sL _ _ hF7) et hrowL tx.nd hxz hD fun H8 s8 hD8=>⟨D,_,rfl,.inl (SqL.of hD8),_,_,rfl,rfl,_,rfl,iteF ?_⟩);have s78:=sL.trans s8;have s38:=s7.trans s78;have hF8:=s78 _ _ hF7;have e18:=s78 _ _ e1;have e38:=s78 _ _ e3;have hre8:RwsD H8 (rs.drop (j+1)) (xs.drop (j+1)):=RwsD.same hrest s78;clear hrowL hD8 te;refine⟨_,rfl,_,rfl,FO,_,_,_,rfl,rfl,SqL.of hF8,zfy et,t.1,_,_,_,rfl,rfl,SqT.of e18,zC (j:=1) rfl,line_big (by simp),fun EE hEE=>?_⟩;have sE:=Same.new (o:=.tup []) hEE;have e39:=sE _ _ e38;have hF9:=sE _ _ hF8;have hre9:=RwsD.same hre8 sE;have s39:=s38.trans sE;have hE9:upd H8 EE (.tup []) EE=some (.tup (([]:List Key).map kV)):=upd_same;generalize upd H8 EE (.tup [])=H9 at sE e39 hF9 hre9 s39 hE9;refine⟨t.2,_,rfl,DPut.t (k:=[]) e39 hE9 (by rw[zaB]; exact zF (by omega)),?_⟩;have s310:Same H3 (upd H9 t.2 (.dT (putK (kvC x.2) [] (.int 7)))):=s39.then (hx40 t htm);have hF10:upd H9 t.2 (.dT (putK (kvC x.2) [] (.int 7))) FO=some (.lst (rs.map rowV)):=by rw[zk fun z=>by rw[z,e39] at hF9; cases hF9]; exact hF9
     have hre10:=RwsD.updD (o:=.dT (putK (kvC x.2) [] (.int 7))) e39 hre9 hne;generalize upd H9 t.2 (.dT (putK (kvC x.2) [] (.int 7)))=H10 at s310 hF10 hre10;have hul:=AN hus;have hal:=AN halk;have ecut:∀zs:List V,(j+1)<=zs.length->cutV zs (some (0+(j:Int)+1)) none=zs.drop (j+1):=fun zs hz'=>by
      rw[show (0+(j:Int)+1)=((j+1:Nat):Int) by omega];exact cutd zs (j+1) hz'
     refine⟨_,rfl,_,rfl,_,_,rfl,rfl,_,rfl,FO,_,rfl,SqL.of hF10,fun C1 hC1=>?_⟩;have sC1:=Same.new (o:=.lst (cutV (rs.map rowV) (some (0+(j:Int)+1)) none)) hC1;refine⟨_,rfl,_,rfl,_,_,rfl,rfl,_,rfl,DU,_,rfl,SqL.of (sC1 _ _ (s310 _ _ hDU)),fun C2 hC2=>?_⟩;have sC2:=Same.new (o:=.lst (cutV (us.map rowV) (some (0+(j:Int)+1)) none)) hC2;have s12:=sC1.trans sC2;have hC1':=sC2 _ _ (upd_same (H:=H10) (a:=C1) (o:=.lst (cutV (rs.map rowV) (some (0+(j:Int)+1)) none)));have hC2':=upd_same (H:=upd H10 C1 (.lst (cutV (rs.map rowV) (some (0+(j:Int)+1)) none))) (a:=C2) (o:=.lst (cutV (us.map rowV) (some (0+(j:Int)+1)) none));generalize upd (upd H10 C1 (.lst (cutV (rs.map rowV) (some (0+(j:Int)+1)) none))) C2 (.lst (cutV (us.map rowV) (some (0+(j:Int)+1)) none))=H12 at sC2 s12 hC1' hC2';rw[ecut _ (by rw[Ab]; omega),<- List.map_drop] at hC1' hC2';refine⟨C1,C2,rs.drop (j+1),us.drop (j+1),xs.drop (j+1),ys.drop (j+1),rfl,rfl,SqL.of hC1',SqL.of hC2',RwsD.same hre10 s12,Paired.cut (j+1) (hus.same (s310.trans s12)),Paired.cut (j+1) halk,_,rfl,iteF ⟨_,rfl,s310.trans s12,s12 _ _ hF10,RwsD.same hre10 s12⟩⟩
    ·rintro σ H7 ⟨v13,rfl,s7,hF7,_⟩
     refine⟨_,rfl,.inl ⟨rfl,_,SqL.of hF7⟩,line_big (by simp),fun EE hEE=>?_⟩;have sE:=Same.new (o:=.tup []) hEE;refine⟨FO,_,_,rfl,rfl,sE _ _ hF7,by rw[Ab]; exact zF (by omega),?_⟩;exact⟨_,_,_,rfl,(s7.trans sE).then hF30⟩
   ·rintro σ H4 ⟨v11,v12,v13,rfl,s4⟩
    exact k H4
  obtain⟨tr10,htr10,rest10⟩:=R10;have R4:∃tr,PSs (cxOf CX0 P w K mg base nmL "law" (zh sLaw) f cdv A outer s H E).nox (List.drop 4 (zp sLaw)) tr/\
    ∀(p O PD:Addr) (os ts:List Addr) (pss:List (List Int)) (ps:List Pq) (v4:Option V) (H2:Hp),
     H2 O=some (.lst (os.map V.ref))->Tps H2 os pss->webS pss->pss.length<=20->H2 PD=some (.lst (ts.map V.ref))->Prs2 H2 ts ps->ps.length<=60->PG (canon pss) ps->
     tr { nx:=fun _ H'=>Q .non H',rt:=Q } [some (.ref a),some (.ref p),some (.ref O),some (.ref PD),v4,none,none,none,none,none,none,none,none,none] H2:=by
   refine⟨_,zf (zq (i:=5) zbH.nd rfl (Or.inr rfl) (zB (zar rfl hu64) rfl ydict zdH (ze (pv 3) zg)))
    (zf (zq (i:=6) zbH.nd rfl (Or.inr rfl) (zH zcR
     (zx nmL ["pair"] [none] (zw (pv 3)) (fun cl C s₀ H₀ ex=>zm (i:=0) (ndN ["pair"]) rfl (Or.inl rfl)) (fun cl C s₀ H₀ ex=>zN) (fun cl C s₀ H₀ ex=>zR zZ (pv 0) zl (fun _ _=>rfl)) (hfr:=nofr (by decide +kernel)) (te:=tOne K 0 0))
     (zx nmL ["pair"] [none] (zw (pv 3)) (fun cl C s₀ H₀ ex=>zm (i:=0) (ndN ["pair"]) rfl (Or.inl rfl)) (fun cl C s₀ H₀ ex=>zN) (fun cl C s₀ H₀ ex=>zR zZ (pv 0) zl (fun _ _=>rfl)) (hfr:=nofr (by decide +kernel)) (te:=tOne K 0 1))))
    (zf (zq (i:=7) zbH.nd rfl (Or.inr rfl) (zx nmL ["piece","met"] [none,some 6] (zw (zn Gl hr2 rfl ml Fl.kp bl .nil pass0 (ze (pv 2) zg))) (fun cl C s₀ H₀ ex=>zm (i:=0) (ndN ["piece","met"]) rfl (Or.inl rfl)) (fun cl C s₀ H₀ ex=>zbB (zy (r:=rInT true K) (zeg hi1) (pv 0) (pv 1) (by with_unfolding_all rfl))) (fun cl C s₀ H₀ ex=>pv 0) (hfr:=frOf (zh sLaw) (by decide +kernel)) (tc:=zdg (tOp (rInT true K) (tVar 0) (tVar 1)))))
    (zf (zq (i:=8) zbH.nd rfl (Or.inr rfl) zP)
    (zf (zkR (i:=9) zbH.nd rfl (Or.inl rfl) nmL ["piece","by_first","left","known"] [none,some 5,some 7,some 8] (zw (pv 7)) (fun cl C s₀ H₀ ex=>zm (i:=0) (ndN ["piece","by_first","left","known"]) rfl (Or.inl rfl)) (fun cl C s₀ H₀ ex=>zN)
     (fun cl C s₀ H₀ ex=>zak (ze (pv 0) (ze (zn Gh hr rfl mh Fh.kp bh .nil pass0 (ze (pv 0) (ze (pv 1) (ze (pv 2) (ze (pv 3) zg))))) zg))) (hfr:=frOf (zh sLaw) (by decide +kernel)) (te:=tDue))
    (zf (zq (i:=10) zbH.nd rfl (Or.inl rfl) (zY (ze (zB zaG rfl B.list zaK (ze (pv 2) zg)) (ze (zB zaG rfl B.list zaK (ze (pv 3) zg)) zg))))
    htr10))))),?_⟩
   intro p O PD os ts pss ps v4 H2 hO ho hws h20 hP hp hz pg;obtain⟨_,hpc,h5,h200⟩:=za7 hws.1;rw[<- zas] at h200;have cp:∀q∈canon pss,q.length<=5/\q.Nodup:=fun q hq=>by
    obtain⟨_,h5,_,hpw⟩:=zam.mp (zaJ hws.1 hq);exact⟨h5,hpw.imp fun h z=>absurd (z ▸ h) (by omega)⟩
   obtain⟨kvs,hk1,hk2,hk3⟩:=zhW hp;refine⟨_,rfl,PD,ts,kvs,rfl,SqL.of hP,hk1,fun BF hBF=>?_⟩;rw[zi1 (by rw[hk3]; exact zgn (zc7 pg.nd))];have sB:=Same.new (o:=.dT kvs) hBF;have hsec3:Sec (upd H2 BF (.dT kvs)) BF ps:=⟨kvs,upd_same,Paired.mapP hk2 fun _ _ ⟨h1,b,h2,h3⟩=>⟨h1,b,h2,sB.tp h3⟩⟩;have hO3:=sB _ _ hO;have ho3:=sB.tps ho;have hP3:=sB _ _ hP;have hp3:=hp.same sB;generalize upd H2 BF (.dT kvs)=H3 at sB hsec3 hO3 ho3 hP3 hp3;refine⟨_,rfl,PD,rfl,⟨_,SqL.of hP3⟩,fun D1 hD1=>zG (zfm (SqL.of hP3) hp3 (by omega) hD1 fun H4 f1 s4 hF4 hf4=>?_)⟩;refine⟨_,rfl,PD,rfl,⟨_,SqL.of (s4 _ _ hP3)⟩,fun D2 hD2=>zG (zd5 (SqL.of (s4 _ _ hP3)) (hp3.same s4) (by omega) hD2 fun H5 f2 s5 hF5 hf5=>?_)⟩;have hf1l:=hf4.length;have hf2l:=hf5.length;rw[Ab] at hf1l hf2l;refine⟨D1,D2,_,_,rfl,rfl,s5 _ _ hF4,hF5,line_big (by rw[Ab,Ab]; omega),fun M hM=>?_⟩;have s6:=Same.new (o:=.lst (f1.map V.ref++f2.map V.ref)) hM;have hM6:=upd_same (H:=H5) (a:=M) (o:=.lst (f1.map V.ref++f2.map V.ref));rw[<- Ag] at hM6 s6;rw[<- Ag];have hms6:Tps (upd H5 M (.lst ((f1++f2).map V.ref))) (f1++f2) (ps.map (·.1)++ps.map (·.2)):=Tps.append (s6.tps (s5.tps hf4)) (s6.tps hf5);have s36:=(s4.trans s5).trans s6;generalize upd H5 M (.lst ((f1++f2).map V.ref))=H6 at hM6 s6 hms6 s36;generalize f1++f2=mm at hM6 hms6;refine⟨_,rfl,O,os,pss,rfl,SqL.of (s36 _ _ hO3),s36.tps ho3,h5,h20,by rw[<- zas]; exact hws.2,fun KN H7 q7 t7=>?_⟩;obtain⟨ks,s7,_,hK7,hk7⟩:=zc4 t7;have s37:=s36.trans s7;have hM7:=s7 _ _ hM6;have hms7:=s7.tps hms6;refine⟨KN,rfl,⟨_,SqL.of hK7⟩,fun LF hLF=>?_⟩;refine zG (zdt (p:=fun p=>!decide (p∈ps.map (·.1)++ps.map (·.2))) (fun o os' H' R sm' ho' _ hR=>⟨_,rfl,_,rfl,o,M,os',mm,_,rfl,rfl,ho',SqL.of (sm' _ _ hM7),sm'.tps hms7,_,rfl,?_⟩) (SqL.of hK7) hk7 (by omega) hLF fun H8 ls s8 hL8 hl8=>?_)
   ·rw[if_pos rfl]
    exact hR H' (Same.refl _)
   have ef:((canon pss).filter fun p=>!decide (p∈ps.map (·.1)++ps.map (·.2)))=(canon pss).filter fun p=>!decide (p∈stds ps):=List.filter_congr fun p _=>by rw[decide_eq_decide.mpr zk1]
   rw[ef] at hl8;have s38:=s37.trans s8;have hlm:∀q,q∈(canon pss).filter (fun p=>!decide (p∈stds ps)) ↔ q∈canon pss/\q∉stds ps:=fun q=>by rw[List.mem_filter]; simp
   obtain⟨R,hR⟩:=zmx pg hlm;have hfl:((canon pss).filter fun p=>!decide (p∈stds ps)).length<=(canon pss).length:=List.length_filter_le _ _;have sf:Sf (canon pss) ((canon pss).filter fun p=>!decide (p∈stds ps)) ps R:=⟨pg,hlm,hR,cp,fun q hq r hr=>zdS hws.1 hq hr,h200,by omega⟩;intro KD hKD;have s9:=Same.new (o:=.dT []) hKD;have hsec8:=hsec3.same s38;have nbk:BF≠KD:=by obtain⟨kv,e,_⟩:=hsec8; exact zj e hKD
   have hkn:KnS (upd H8 KD (.dT [])) KD (canon pss) ((canon pss).filter fun p=>!decide (p∈stds ps)) R:=⟨[],upd_same,List.nodup_nil,(fun k hk=>by cases hk),fun q v e=>by cases e⟩;have s39:=s38.trans s9;have ek9:upd H8 KD (.dT []) KD=some (.dT []):=upd_same;have hsec9:=hsec8.same s9;have hL9:=s9 _ _ hL8;have hl9:=s9.tps hl8;generalize upd H8 KD (.dT [])=H9 at s9 hkn s39 ek9 hsec9 hL9 hl9;refine⟨_,rfl,LF,rfl,⟨_,SqL.of hL9⟩,fun DU hDU=>zG (ziB hL9 hl9 hsec9 nbk hkn sf (fun q hq=>zkL (zj9 pg.ac q) hz) hDU fun H10 us ys sb10 hDU10 hus hy1 hy2=>?_)⟩;have sb2:SB2 KD KD H9 H10:=.ofB sb10;have hO10:=sb2.lst ek9 ek9 (s39 _ _ hO3);have ho10:=sb2.tps ek9 ek9 (s39.tps ho3);have hP10:=sb2.lst ek9 ek9 (s39 _ _ hP3);have hp10:Prs2 H10 ts ps:=Paired.mapP (hp3.same s39) fun t x ⟨b,c,e,e1,e2⟩=>⟨b,c,sb10 _ _ (fun z=>by rw[z] at e; rw[e] at ek9; cases ek9) e,sb2.tp ek9 ek9 e1,sb2.tp ek9 ek9 e2⟩;refine⟨_,rfl,O,_,rfl,.inl (SqL.of hO10),fun LA hLA=>?_⟩;have sA:=Same.new (o:=.lst (os.map V.ref)) hLA;refine⟨_,rfl,PD,_,rfl,.inl (SqL.of (sA _ _ hP10)),fun LB hLB=>⟨line_big (by simp),fun HD hHD=>?_⟩⟩;have sB':=Same.new (o:=.lst (ts.map V.ref)) hLB;have sH:=Same.new (o:=.lst [.ref LA,.ref LB]) hHD;have sx:=(sA.trans sB').trans sH;have hA3:=sH _ _ (sB' _ _ (upd_same (H:=H10) (a:=LA) (o:=.lst (os.map V.ref))));have hB3:=sH _ _ (upd_same (H:=upd H10 LA (.lst (os.map V.ref))) (a:=LB) (o:=.lst (ts.map V.ref)));have hH3:=upd_same (H:=upd (upd H10 LA (.lst (os.map V.ref))) LB (.lst (ts.map V.ref))) (a:=HD) (o:=.lst [.ref LA,.ref LB]);generalize upd (upd (upd H10 LA (.lst (os.map V.ref))) LB (.lst (ts.map V.ref))) HD (.lst [.ref LA,.ref LB])=H11 at sx hA3 hB3 hH3;exact rest10 p O PD DU HD LA LB os ts us pss ps R ys v4 _ _ _ _ H11 (sx _ _ hO10) (sx.tps ho10) hws (sx _ _ hP10) (hp10.same sx) hz pg hR (sx _ _ hDU10) (hus.same sx) hy1 hy2 hH3 hA3 hB3
  obtain⟨tr4,htr4,rest4⟩:=R4;refine⟨_,zf (zq (i:=1) zbH.nd rfl (Or.inl rfl) (zn Gb hr1 rfl mb Fb.kp bb .nil pass0 (ze (zn Gc hr1 rfl mc Fc.kp bc .nil pass0 (ze (pv 0) (ze zl zg))) zg)))
   (zf (zq (i:=2) zbH.nd rfl (Or.inl rfl) (zn Gw hr3 rfl mw Fw.kp bw .nil pass0 (ze (pv 1) zg)))
   (zf (zq (i:=3) zbH.nd rfl (Or.inl rfl) (zY zg))
   (zf (zM AF rfl (zw (zn Gp hr9 rfl mp Fp.kp bp .nil pass0 (ze (zB zaG rfl B.list zaK (ze (pv 2) zg)) zg))) (zm (i:=4) zbH.nd rfl (Or.inl rfl))
    (zi (zaf (zy zc1 (zn Gt hr1 rfl mt Ft.kp bt .nil pass0 (ze (pv 1) (ze zl zg))) zl (nomark _))
     (zi (zaz (zci AU PySem.F.slot_list_insert PySem.F.type_list_insert zem (pv 3) (ze (zn Gt hr1 rfl mt Ft.kp bt .nil pass0 (ze (pv 1) (ze (zH zat (zv zo rfl B.len zaI (ze (pv 3) zg)) zl) zg))) (ze (pv 4) zg))))) zA)))
   htr4))),?_⟩
  refine⟨_,rfl,a,nn,rfl,hS,fun n=>⟨n,rfl,fun p x y hp bo'=>?_⟩⟩;refine⟨_,rfl,p,rfl,⟨x,y,upd_same,bo'⟩,fun O os pss H1 sb1 hb1 _ hO1 ho1 hdr=>?_⟩;obtain⟨hw,hnd,hlen⟩:=zgM hdr;obtain⟨h20,hpc,h5,h200⟩:=za7 hw;have h56:=zhE hdr;have hws:webS pss:=⟨hw,by rw[zas]; omega⟩;refine⟨line_big (by simp),fun PD hPD=>?_⟩;have s2:=Same.new (o:=.lst []) hPD;have hPD2:=upd_same (H:=H1) (a:=PD) (o:=.lst []);have hb2:=hb1.same s2;have hO2:=s2 _ _ hO1;have ho2:=s2.tps ho1;have nPO:O≠PD:=zj hO1 hPD;have nPp:PD≠p:=hb2.ne (show upd H1 PD (.lst []) PD=some (.lst (([]:List Addr).map V.ref)) from hPD2);generalize upd H1 PD (.lst [])=H2 at s2 hPD2 hb2 hO2 ho2;refine⟨_,rfl,O,_,rfl,.inl (SqL.of hO2),fun LW hLW=>?_⟩;have s3:=Same.new (o:=.lst (os.map V.ref)) hLW;refine⟨LW,os,pss,rfl,SqL.of upd_same,s3.tps ho2,hws,fun PL H4 ts fps s4 hPL0 hPL ht pgf _ _=>?_⟩;have s24:=s3.trans s4;have hPD4:=s24 _ _ hPD2;have hb4:=hb2.same s24;have hO4:=s24 _ _ hO2;have ho4:=s24.tps ho2;obtain⟨bx,by',hbx,_⟩:=id hb4;have nLD:PL≠PD:=Ne.symm (zj (s3 _ _ hPD2) hPL0);have nLp:PL≠p:=hb4.ne hPL;have htl:=ht.length;have hfl:2*fps.length<=63:=by
   have h1:=pgf.nd.length_le_of_subset (l₂:=canon pss) fun q hq=>by
    obtain⟨y,hy,hqy⟩:=List.mem_flatMap.mp hq;obtain⟨g1,g2⟩:=pgf.has y hy;simp only[List.mem_cons,List.not_mem_nil,or_false] at hqy;rcases hqy with rfl | rfl
    ·exact zdS hw g1 g2
    ·exact g1
   have h2:=(zbE fps).length_eq;rw[Ah,Ab,Ab] at h2;have:=hws.2;omega
  refine⟨PL,rfl,⟨_,SqL.of hPL⟩,zK (K:=K) (a:=PL) (xs:=ts.map V.ref) (fun j σ H5=>∃(v4:Option V) (us:List Addr) (qs rest:List Pq),σ=[some (.ref a),some (.ref p),some (.ref O),some (.ref PD),v4,none,none,none,none,none,none,none,none,none]/\SB2 p PD H4 H5/\zal H5 p/\H5 PD=some (.lst (us.map V.ref))/\Prs2 H5 us qs/\(qs++rest).Perm (fps.take j))
   ⟨none,[],[],[],rfl,SB2.refl,hb4,hPD4,.nil,List.Perm.refl _⟩ (fun j σ H5 _ ⟨_,_,_,_,_,sb,_⟩=>SqL.of (sb _ _ nLp nLD hPL)) ?_ ?_⟩
  ·rintro j v σ H5 hv ⟨v4,us,qs,rest,rfl,sb5,hb5,hP5,hq5,hpm⟩
   obtain⟨t,et,rfl⟩:=zE hv;obtain⟨z,ez,hz⟩:=ht.get et;have hul:=hq5.length;have hql:qs.length<=31:=by
    have:=hpm.length_eq;rw[Ah,AC] at this;omega
   refine⟨_,rfl,p,4,rfl,hb5,by decide,by decide,fun r1 H6 r10 r11 sb6 hb6=>⟨_,_,rfl,rfl,_,rfl,?_⟩⟩;have hP6:=sb6 _ _ nPp hP5;have hq6:=zd7 sb6 hb5 hq5;have sb46:SB2 p PD H4 H6:=sb5.trans (.ofB sb6);refine ite2 (fun _=>?_) (fun _=>⟨_,us,qs,rest++[z],rfl,sb46,hb6,hP6,hq6,?_⟩)
   ·refine⟨_,rfl,.inl ⟨rfl,_,SqL.of hP6⟩,_,rfl,_,rfl,PD,_,rfl,.inl (SqL.of hP6),_,_,rfl,rfl,?_⟩
    refine⟨p,_,rfl,hb6,by rw[Ab]; omega,by rw[Ab]; omega,fun r3 H7 r30 r31 sb7 hb7=>?_⟩;have hP7:=sb7 _ _ nPp hP6;have hq7:=zd7 sb7 hb6 hq6;have sb47:SB2 p PD H4 H7:=sb46.trans (.ofB sb7);have hz7:Pr2 H7 t z:=sb47.pr2L hbx hPD4 hz;rw[Ab] at r31;refine⟨_,rfl,PD,_,_,_,rfl,rfl,hP7,r30,by rw[Ab]; omega,by rw[Ab]; exact zF (by omega),?_⟩;rw[show (us.map V.ref).take r3.toNat++V.ref t::(us.map V.ref).drop r3.toNat=(us.take r3.toNat++t::us.drop r3.toNat).map V.ref by rw[Ag,Av,List.map_take,List.map_drop]];refine⟨_,_,qs.take r3.toNat++z::qs.drop r3.toNat,rest,rfl,sb47.updf,hb7.upd nPp,upd_same,Prs2.upd (zhy hq7 hz7 r3.toNat) hP7 (by intro xs z; cases z),?_⟩;rw[AH ez];have e1:(qs.take r3.toNat++z::qs.drop r3.toNat).Perm (z::qs):=by
     have:=List.perm_middle (a:=z) (l₁:=qs.take r3.toNat) (l₂:=qs.drop r3.toNat);rw[List.take_append_drop] at this;exact this
    exact (e1.append_right rest).trans ((List.Perm.cons z hpm).trans (List.perm_append_singleton z _).symm)
   ·rw[AH ez,<- A4]
    exact hpm.append_right [z]
  ·rintro σ H5 ⟨v4,us,qs,rest,rfl,sb5,hb5,hP5,hq5,hpm⟩
   rw[Ab,htl,take_all] at hpm;have hql:qs.length<=31:=by
    have:=hpm.length_eq;rw[Ah] at this;omega
   exact rest4 p O PD os us pss qs v4 H5 (sb5 _ _ (hb4.ne hO4) nPO hO4) (Paired.mapP ho4 fun _ _ h=>sb5.tpL hbx hPD4 h) hws h20 hP5 hq5 (by omega) (zll hpm pgf)
end
end K48
end
section
namespace K48
open K1
open PySem L2 STb
theorem ln1 {α:Type}{us:List α}{p:Str} (h:us.length=[p].length):∃a,us=[a]:=by
 rcases us with _ | ⟨a,_ | ⟨b,t⟩⟩
 ·cases h
 ·exact⟨a,rfl⟩
 ·simp at h
theorem ln2 {α:Type}{us:List α}{p q:Str} (h:us.length=[p,q].length):∃a b,us=[a,b]:=by
 rcases us with _ | ⟨a,t⟩
 ·cases h
 ·obtain⟨b,rfl⟩:=ln1 (p:=p) (Nat.succ.inj h)
  exact⟨a,b,rfl⟩
theorem ln3 {α:Type}{us:List α}{p q r:Str} (h:us.length=[p,q,r].length):∃a b c,us=[a,b,c]:=by
 rcases us with _ | ⟨a,t⟩
 ·cases h
 ·obtain⟨b,c,rfl⟩:=ln2 (p:=p) (q:=q) (Nat.succ.inj h)
  exact⟨a,b,c,rfl⟩
theorem zmG {l:PySem.W.OpenLaw}{w:World}{K:Ad}{h:Heap}{mg:Str->Option Value}{fa f1 f2 f3 f4 f5 f6 f7 f8 f9 f10 f11 f12 f13 f14 f15 f16 f17 f18 f19 f20 f21 f22 f23 f24 f25 f26 f27 f28 f29 f30 f31 f32 f33 f34 f35 f36 f37 :Addr} (X:K.In h) (G:h.Ns mainGlobals mg) (hfa:mg "law"=some (.ref fa))
  {od1 an1 od2 an2 od3 an3 od4 an4 od5 an5 od6 an6 od7 an7 od8 an8 od9 an9 od10 an10 od11 an11 od12 an12 od13 an13 od14 an14 od15 an15 od16 an16 od17 an17 od18 an18 od19 an19 od20 an20 od21 an21 od22 an22 od23 an23 od24 an24 od25 an25 od26 an26 od27 an27 od28 an28 od29 an29 od30 an30 od31 an31 od32 an32 od33 an33 od34 an34 od35 an35 od36 an36 od37 an37:Option Addr} {sl1 sl2 sl3 sl4 sl5 sl6 sl7 sl8 sl9 sl10 sl11 sl12 sl13 sl14 sl15 sl16 sl17 sl18 sl19 sl20 sl21 sl22 sl23 sl24 sl25 sl26 sl27 sl28 sl29 sl30 sl31 sl32 sl33 sl34 sl35 sl36 sl37:Array (Option Value)} {oc1 kV1 dc1 pm1 cd1 ct1 oc2 kV2 dc2 pm2 cd2 ct2 oc3 kV3 dc3 pm3 cd3 ct3 oc4 kV4 dc4 pm4 cd4 ct4 oc5 kV5 dc5 pm5 cd5 ct5 oc6 kV6 dc6 pm6 cd6 ct6 oc7 kV7 dc7 pm7 cd7 ct7 oc8 kV8 dc8 pm8 cd8 ct8 oc9 kV9 dc9 pm9 cd9 ct9 oc10 kV10 dc10 pm10 cd10 ct10 oc11 kV11 dc11 pm11 cd11 ct11 oc12 kV12 dc12 pm12 cd12 ct12 oc13 kV13 dc13 pm13 cd13 ct13 oc14 kV14 dc14 pm14 cd14 ct14 oc15 kV15 dc15 pm15 cd15 ct15 oc16 kV16 dc16 pm16 cd16 ct16 oc17 kV17 dc17 pm17 cd17 ct17 oc18 kV18 dc18 pm18 cd18 ct18 oc19 kV19 dc19 pm19 cd19 ct19 oc20 kV20 dc20 pm20 cd20 ct20 oc21 kV21 dc21 pm21 cd21 ct21 oc22 kV22 dc22 pm22 cd22 ct22 oc23 kV23 dc23 pm23 cd23 ct23 oc24 kV24 dc24 pm24 cd24 ct24 oc25 kV25 dc25 pm25 cd25 ct25 oc26 kV26 dc26 pm26 cd26 ct26 oc27 kV27 dc27 pm27 cd27 ct27 oc28 kV28 dc28 pm28 cd28 ct28 oc29 kV29 dc29 pm29 cd29 ct29 oc30 kV30 dc30 pm30 cd30 ct30 oc31 kV31 dc31 pm31 cd31 ct31 oc32 kV32 dc32 pm32 cd32 ct32 oc33 kV33 dc33 pm33 cd33 ct33 oc34 kV34 dc34 pm34 cd34 ct34 oc35 kV35 dc35 pm35 cd35 ct35 oc36 kV36 dc36 pm36 cd36 ct36 oc37 kV37 dc37 pm37 cd37 ct37:Value} {tp tq tr ts:Tok}
  (a1:At K mainGlobals "is_piece"=some (some (.ref f1))) (l1:K.lookup f1=some ⟨oc1,od1,.func (AD "is_piece" "is_piece" (zr zcO) (zp zcO) (zh zcO) .none kV1 dc1 pm1 an1 cd1 ct1),sl1⟩) (c1:Az K cd1 "is_piece"=true) (k1:Ay K (.ref f1)=true)
  (a2:At K mainGlobals "parts_of"=some (some (.ref f2))) (l2:K.lookup f2=some ⟨oc2,od2,.func (AD "parts_of" "parts_of" (zr zbU) (zp zbU) (zh zbU) .none kV2 dc2 pm2 an2 cd2 ct2),sl2⟩) (c2:Az K cd2 "parts_of"=true) (k2:Ay K (.ref f2)=true)
  (a3:At K mainGlobals "rims_of"=some (some (.ref f3))) (l3:K.lookup f3=some ⟨oc3,od3,.func (AD "rims_of" "rims_of" (zr zcB) (zp zcB) (zh zcB) .none kV3 dc3 pm3 an3 cd3 ct3),sl3⟩) (c3:Az K cd3 "rims_of"=true) (k3:Ay K (.ref f3)=true)
  (a4:At K mainGlobals "order_key"=some (some (.ref f4))) (l4:K.lookup f4=some ⟨oc4,od4,.func (AD "order_key" "order_key" (zr sKey) (zp sKey) (zh sKey) .none kV4 dc4 pm4 an4 cd4 ct4),sl4⟩) (c4:Az K cd4 "order_key"=true) (k4:Ay K (.ref f4)=true)
  (a5:At K mainGlobals "in_order"=some (some (.ref f5))) (l5:K.lookup f5=some ⟨oc5,od5,.func (AD "in_order" "in_order" (zr zbP) (zp zbP) (zh zbP) .none kV5 dc5 pm5 an5 cd5 ct5),sl5⟩) (c5:Az K cd5 "in_order"=true) (k5:Ay K (.ref f5)=true)
  (a6:At K mainGlobals "all_parts"=some (some (.ref f6))) (l6:K.lookup f6=some ⟨oc6,od6,.func (AD "all_parts" "all_parts" (zr sAll) (zp sAll) (zh sAll) .none kV6 dc6 pm6 an6 cd6 ct6),sl6⟩) (c6:Az K cd6 "all_parts"=true) (k6:Ay K (.ref f6)=true)
  (a7:At K mainGlobals "is_web"=some (some (.ref f7))) (l7:K.lookup f7=some ⟨oc7,od7,.func (AD "is_web" "is_web" (zr zcM) (zp zcM) (zh zcM) .none kV7 dc7 pm7 an7 cd7 ct7),sl7⟩) (c7:Az K cd7 "is_web"=true) (k7:Ay K (.ref f7)=true)
  (a8:At K mainGlobals "must_be_web"=some (some (.ref f8))) (l8:K.lookup f8=some ⟨oc8,od8,.func (AD "must_be_web" "must_be_web" (zr zeU) (zp zeU) (zh zeU) .none kV8 dc8 pm8 an8 cd8 ct8),sl8⟩) (c8:Az K cd8 "must_be_web"=true) (k8:Ay K (.ref f8)=true)
  (a9:At K mainGlobals "pieces"=some (some (.ref f9))) (l9:K.lookup f9=some ⟨oc9,od9,.func (AD "pieces" "pieces" (zr zaR) (zp zaR) (zh zaR) .none kV9 dc9 pm9 an9 cd9 ct9),sl9⟩) (c9:Az K cd9 "pieces"=true) (k9:Ay K (.ref f9)=true)
  (a10:At K mainGlobals "seam_terms"=some (some (.ref f10))) (l10:K.lookup f10=some ⟨oc10,od10,.func (AD "seam_terms" "seam_terms" (zr zbL) (zp zbL) (zh zbL) .none kV10 dc10 pm10 an10 cd10 ct10),sl10⟩) (c10:Az K cd10 "seam_terms"=true) (k10:Ay K (.ref f10)=true)
  (a11:At K mainGlobals "sum_of"=some (some (.ref f11))) (l11:K.lookup f11=some ⟨oc11,od11,.func (AD "sum_of" "sum_of" (zr sSum) (zp sSum) (zh sSum) .none kV11 dc11 pm11 an11 cd11 ct11),sl11⟩) (c11:Az K cd11 "sum_of"=true) (k11:Ay K (.ref f11)=true)
  (a12:At K mainGlobals "judged"=some (some (.ref f12))) (l12:K.lookup f12=some ⟨oc12,od12,.func (AD "judged" "judged" (zr zbw) (zp zbw) (zh zbw) .none kV12 dc12 pm12 an12 cd12 ct12),sl12⟩) (c12:Az K cd12 "judged"=true) (k12:Ay K (.ref f12)=true)
  (a13:At K mainGlobals "first_bad"=some (some (.ref f13))) (l13:K.lookup f13=some ⟨oc13,od13,.func (AD "first_bad" "first_bad" (zr zex) (zp zex) (zh zex) .none kV13 dc13 pm13 an13 cd13 ct13),sl13⟩) (c13:Az K cd13 "first_bad"=true) (k13:Ay K (.ref f13)=true)
  (a14:At K mainGlobals "is_pair"=some (some (.ref f14))) (l14:K.lookup f14=some ⟨oc14,od14,.func (AD "is_pair" "is_pair" (zr zbD) (zp zbD) (zh zbD) .none kV14 dc14 pm14 an14 cd14 ct14),sl14⟩) (c14:Az K cd14 "is_pair"=true) (k14:Ay K (.ref f14)=true)
  (a15:At K mainGlobals "first_round"=some (some (.ref f15))) (l15:K.lookup f15=some ⟨oc15,od15,.func (AD "first_round" "first_round" (zr ze6) (zp ze6) (zh ze6) .none kV15 dc15 pm15 an15 cd15 ct15),sl15⟩) (c15:Az K cd15 "first_round"=true) (k15:Ay K (.ref f15)=true)
  (a16:At K mainGlobals "round_with"=some (some (.ref f16))) (l16:K.lookup f16=some ⟨oc16,od16,.func (AD "round_with" "round_with" (zr sRW) (zp sRW) (zh sRW) .none kV16 dc16 pm16 an16 cd16 ct16),sl16⟩) (c16:Az K cd16 "round_with"=true) (k16:Ay K (.ref f16)=true)
  (a17:At K mainGlobals "other_rims"=some (some (.ref f17))) (l17:K.lookup f17=some ⟨oc17,od17,.func (AD "other_rims" "other_rims" (zr zbp) (zp zbp) (zh zbp) .none kV17 dc17 pm17 an17 cd17 ct17),sl17⟩) (c17:Az K cd17 "other_rims"=true) (k17:Ay K (.ref f17)=true)
  (a18:At K mainGlobals "pairing"=some (some (.ref f18))) (l18:K.lookup f18=some ⟨oc18,od18,.func (AD "pairing" "pairing" (zr zax) (zp zax) (zh zax) .none kV18 dc18 pm18 an18 cd18 ct18),sl18⟩) (c18:Az K cd18 "pairing"=true) (k18:Ay K (.ref f18)=true)
  (a19:At K mainGlobals "pairs_of"=some (some (.ref f19))) (l19:K.lookup f19=some ⟨oc19,od19,.func (AD "pairs_of" "pairs_of" (zr sPof) (zp sPof) (zh sPof) .none kV19 dc19 pm19 an19 cd19 ct19),sl19⟩) (c19:Az K cd19 "pairs_of"=true) (k19:Ay K (.ref f19)=true)
  (a20:At K mainGlobals "left_over"=some (some (.ref f20))) (l20:K.lookup f20=some ⟨oc20,od20,.func (AD "left_over" "left_over" (zr zei) (zp zei) (zh zei) .none kV20 dc20 pm20 an20 cd20 ct20),sl20⟩) (c20:Az K cd20 "left_over"=true) (k20:Ay K (.ref f20)=true)
  (a21:At K mainGlobals "thin_seams"=some (some (.ref f21))) (l21:K.lookup f21=some ⟨oc21,od21,.func (AD "thin_seams" "thin_seams" (zr zes) (zp zes) (zh zes) .none kV21 dc21 pm21 an21 cd21 ct21),sl21⟩) (c21:Az K cd21 "thin_seams"=true) (k21:Ay K (.ref f21)=true)
  (a22:At K mainGlobals "ends_of"=some (some (.ref f22))) (l22:K.lookup f22=some ⟨oc22,od22,.func (AD "ends_of" "ends_of" (zr zeE) (zp zeE) (zh zeE) .none kV22 dc22 pm22 an22 cd22 ct22),sl22⟩) (c22:Az K cd22 "ends_of"=true) (k22:Ay K (.ref f22)=true)
  (a23:At K mainGlobals "step_terms"=some (some (.ref f23))) (l23:K.lookup f23=some ⟨oc23,od23,.func (AD "step_terms" "step_terms" (zr zeB) (zp zeB) (zh zeB) .none kV23 dc23 pm23 an23 cd23 ct23),sl23⟩) (c23:Az K cd23 "step_terms"=true) (k23:Ay K (.ref f23)=true)
  (a24:At K mainGlobals "brought_to_ends"=some (some (.ref f24))) (l24:K.lookup f24=some ⟨oc24,od24,.func (AD "brought_to_ends" "brought_to_ends" (zr sBr) (zp sBr) (zh sBr) .none kV24 dc24 pm24 an24 cd24 ct24),sl24⟩) (c24:Az K cd24 "brought_to_ends"=true) (k24:Ay K (.ref f24)=true)
  (a25:At K mainGlobals "_law_cell_at"=some (some (.ref f25))) (l25:K.lookup f25=some ⟨oc25,od25,.func (AD "_law_cell_at" "_law_cell_at" (zr ze5) (zp ze5) (zh ze5) .none kV25 dc25 pm25 an25 cd25 ct25),sl25⟩) (c25:Az K cd25 "_law_cell_at"=true) (k25:Ay K (.ref f25)=true)
  (a26:At K mainGlobals "_law_box"=some (some (.ref f26))) (l26:K.lookup f26=some ⟨oc26,od26,.func (AD "_law_box" "_law_box" (zr sBox) (zp sBox) (zh sBox) .none kV26 dc26 pm26 an26 cd26 ct26),sl26⟩) (c26:Az K cd26 "_law_box"=true) (k26:Ay K (.ref f26)=true)
  (a27:At K mainGlobals "_law_take"=some (some (.ref f27))) (l27:K.lookup f27=some ⟨oc27,od27,.func (AD "_law_take" "_law_take" (zr zdV) (zp zdV) (zh zdV) .none kV27 dc27 pm27 an27 cd27 ct27),sl27⟩) (c27:Az K cd27 "_law_take"=true) (k27:Ay K (.ref f27)=true)
  (a28:At K mainGlobals "_law_parts"=some (some (.ref f28))) (l28:K.lookup f28=some ⟨oc28,od28,.func (AD "_law_parts" "_law_parts" (zr zbd) (zp zbd) (zh zbd) .none kV28 dc28 pm28 an28 cd28 ct28),sl28⟩) (c28:Az K cd28 "_law_parts"=true) (k28:Ay K (.ref f28)=true)
  (a29:At K mainGlobals "_law_pieces"=some (some (.ref f29))) (l29:K.lookup f29=some ⟨oc29,od29,.func (AD "_law_pieces" "_law_pieces" (zr zaV) (zp zaV) (zh zaV) .none kV29 dc29 pm29 an29 cd29 ct29),sl29⟩) (c29:Az K cd29 "_law_pieces"=true) (k29:Ay K (.ref f29)=true)
  (a30:At K mainGlobals "_law_known"=some (some (.ref f30))) (l30:K.lookup f30=some ⟨oc30,od30,.func (AD "_law_known" "_law_known" (zr zcx) (zp zcx) (zh zcx) .none kV30 dc30 pm30 an30 cd30 ct30),sl30⟩) (c30:Az K cd30 "_law_known"=true) (k30:Ay K (.ref f30)=true)
  (a31:At K mainGlobals "_law_named"=some (some (.ref f31))) (l31:K.lookup f31=some ⟨oc31,od31,.func (AD "_law_named" "_law_named" (zr zcg) (zp zcg) (zh zcg) .none kV31 dc31 pm31 an31 cd31 ct31),sl31⟩) (c31:Az K cd31 "_law_named"=true) (k31:Ay K (.ref f31)=true)
  (a32:At K mainGlobals "_law_web"=some (some (.ref f32))) (l32:K.lookup f32=some ⟨oc32,od32,.func (AD "_law_web" "_law_web" (zr sWeb) (zp sWeb) (zh sWeb) .none kV32 dc32 pm32 an32 cd32 ct32),sl32⟩) (c32:Az K cd32 "_law_web"=true) (k32:Ay K (.ref f32)=true)
  (a33:At K mainGlobals "_law_rims"=some (some (.ref f33))) (l33:K.lookup f33=some ⟨oc33,od33,.func (AD "_law_rims" "_law_rims" (zr zbs) (zp zbs) (zh zbs) .none kV33 dc33 pm33 an33 cd33 ct33),sl33⟩) (c33:Az K cd33 "_law_rims"=true) (k33:Ay K (.ref f33)=true)
  (a34:At K mainGlobals "_law_sign"=some (some (.ref f34))) (l34:K.lookup f34=some ⟨oc34,od34,.func (AD "_law_sign" "_law_sign" (zr zey) (zp zey) (zh zey) .none kV34 dc34 pm34 an34 cd34 ct34),sl34⟩) (c34:Az K cd34 "_law_sign"=true) (k34:Ay K (.ref f34)=true)
  (a35:At K mainGlobals "_law_roads"=some (some (.ref f35))) (l35:K.lookup f35=some ⟨oc35,od35,.func (AD "_law_roads" "_law_roads" (zr zbc) (zp zbc) (zh zbc) .none kV35 dc35 pm35 an35 cd35 ct35),sl35⟩) (c35:Az K cd35 "_law_roads"=true) (k35:Ay K (.ref f35)=true)
  (a36:At K mainGlobals "_law_thin"=some (some (.ref f36))) (l36:K.lookup f36=some ⟨oc36,od36,.func (AD "_law_thin" "_law_thin" (zr zce) (zp zce) (zh zce) .none kV36 dc36 pm36 an36 cd36 ct36),sl36⟩) (c36:Az K cd36 "_law_thin"=true) (k36:Ay K (.ref f36)=true)
  (a37:At K mainGlobals "law"=some (some (.ref f37))) (l37:K.lookup f37=some ⟨oc37,od37,.func (AD "law" "law" (zr sLaw) (zp sLaw) (zh sLaw) .none kV37 dc37 pm37 an37 cd37 ct37),sl37⟩) (c37:Az K cd37 "law"=true) (k37:Ay K (.ref f37)=true)
  (gp:At K mainGlobals "MOST_POINTS"=some (some (.int 5 tp)))
  (gq:At K mainGlobals "LAST_POINT"=some (some (.int 99 tq)))
  (gr:At K mainGlobals "MOST_HANDED"=some (some (.int 20 tr)))
  (gs:At K mainGlobals "MOST_PIECES"=some (some (.int 200 ts)))
  (z1:At K mainGlobals "len"=some none)
  (z2:At K mainGlobals "all"=some none)
  (z3:At K mainGlobals "zip"=some none)
  (z4:At K mainGlobals "sorted"=some none)
  (z5:At K mainGlobals "set"=some none)
  (z6:At K mainGlobals "list"=some none)
  (z7:At K mainGlobals "tuple"=some none)
  (z8:At K mainGlobals "range"=some none)
  (z9:At K mainGlobals "enumerate"=some none)
  (z10:At K mainGlobals "int"=some none)
  (z11:At K mainGlobals "isinstance"=some none)
  (z12:At K mainGlobals "reversed"=some none)
  (z13:At K mainGlobals "bool"=some none)
  (z14:At K mainGlobals "any"=some none)
  (z15:At K mainGlobals "dict"=some none) :
  ∃fd:FuncData,(∀(s:Shared) (v:Value),BindsTo s fd ⟨[v],[]⟩ [("script",v)])/\∀base:Heap,K.In base->base.Ns mainGlobals mg->FnOk l.prog w K mg base CX0 65 fa fd ["script"] (zi9 K):=by
 have e:=hfa.symm.trans (AB X G a37);cases e;have B:Bt mg:=⟨AV X G z1,AV X G z2,AV X G z3,AV X G z4,AV X G z5,AV X G z6,AV X G z7,AV X G z8,AV X G z9,AV X G z10,AV X G z11,AV X G z12,AV X G z13⟩;have F1:=zI (st:=zcO) l1 c1 k1;have b1:=F1.binds (ps:=["numbers"]) fun _ _ _ _ _ _ us hl=>by obtain⟨_,rfl⟩:=ln1 hl; rfl
 have m1:=AB X G a1;have F2:=zI (st:=zbU) l2 c2 k2;have b2:=F2.binds (ps:=["piece"]) fun _ _ _ _ _ _ us hl=>by obtain⟨_,rfl⟩:=ln1 hl; rfl
 have m2:=AB X G a2;have F3:=zI (st:=zcB) l3 c3 k3;have b3:=F3.binds (ps:=["piece"]) fun _ _ _ _ _ _ us hl=>by obtain⟨_,rfl⟩:=ln1 hl; rfl
 have m3:=AB X G a3;have F4:=zI (st:=sKey) l4 c4 k4;have b4:=F4.binds (ps:=["piece"]) fun _ _ _ _ _ _ us hl=>by obtain⟨_,rfl⟩:=ln1 hl; rfl
 have m4:=AB X G a4;have F5:=zI (st:=zbP) l5 c5 k5;have b5:=F5.binds (ps:=["some"]) fun _ _ _ _ _ _ us hl=>by obtain⟨_,rfl⟩:=ln1 hl; rfl
 have m5:=AB X G a5;have F6:=zI (st:=sAll) l6 c6 k6;have b6:=F6.binds (ps:=["some"]) fun _ _ _ _ _ _ us hl=>by obtain⟨_,rfl⟩:=ln1 hl; rfl
 have m6:=AB X G a6;have F7:=zI (st:=zcM) l7 c7 k7;have b7:=F7.binds (ps:=["web"]) fun _ _ _ _ _ _ us hl=>by obtain⟨_,rfl⟩:=ln1 hl; rfl
 have m7:=AB X G a7;have F8:=zI (st:=zeU) l8 c8 k8;have b8:=F8.binds (ps:=["web"]) fun _ _ _ _ _ _ us hl=>by obtain⟨_,rfl⟩:=ln1 hl; rfl
 have m8:=AB X G a8;have F9:=zI (st:=zaR) l9 c9 k9;have b9:=F9.binds (ps:=["web"]) fun _ _ _ _ _ _ us hl=>by obtain⟨_,rfl⟩:=ln1 hl; rfl
 have m9:=AB X G a9;have F10:=zI (st:=zbL) l10 c10 k10;have b10:=F10.binds (ps:=["piece","often"]) fun _ _ _ _ _ _ us hl=>by obtain⟨_,_,rfl⟩:=ln2 hl; rfl
 have m10:=AB X G a10;have F11:=zI (st:=sSum) l11 c11 k11;have b11:=F11.binds (ps:=["terms"]) fun _ _ _ _ _ _ us hl=>by obtain⟨_,rfl⟩:=ln1 hl; rfl
 have m11:=AB X G a11;have F12:=zI (st:=zbw) l12 c12 k12;have b12:=F12.binds (ps:=["web","pairs"]) fun _ _ _ _ _ _ us hl=>by obtain⟨_,_,rfl⟩:=ln2 hl; rfl
 have m12:=AB X G a12;have F13:=zI (st:=zex) l13 c13 k13;have b13:=F13.binds (ps:=["every","pairs"]) fun _ _ _ _ _ _ us hl=>by obtain⟨_,_,rfl⟩:=ln2 hl; rfl
 have m13:=AB X G a13;have F14:=zI (st:=zbD) l14 c14 k14;have b14:=F14.binds (ps:=["every","pair"]) fun _ _ _ _ _ _ us hl=>by obtain⟨_,_,rfl⟩:=ln2 hl; rfl
 have m14:=AB X G a14;have F15:=zI (st:=ze6) l15 c15 k15;have b15:=F15.binds (ps:=["pairs"]) fun _ _ _ _ _ _ us hl=>by obtain⟨_,rfl⟩:=ln1 hl; rfl
 have m15:=AB X G a15;have F16:=zI (st:=sRW) l16 c16 k16;have b16:=F16.binds (ps:=["seconds","new"]) fun _ _ _ _ _ _ us hl=>by obtain⟨_,_,rfl⟩:=ln2 hl; rfl
 have m16:=AB X G a16;have F17:=zI (st:=zbp) l17 c17 k17;have b17:=F17.binds (ps:=["pair"]) fun _ _ _ _ _ _ us hl=>by obtain⟨_,rfl⟩:=ln1 hl; rfl
 have m17:=AB X G a17;have F18:=zI (st:=zax) l18 c18 k18;have b18:=F18.binds (ps:=["web"]) fun _ _ _ _ _ _ us hl=>by obtain⟨_,rfl⟩:=ln1 hl; rfl
 have m18:=AB X G a18;have F19:=zI (st:=sPof) l19 c19 k19;have b19:=F19.binds (ps:=["every"]) fun _ _ _ _ _ _ us hl=>by obtain⟨_,rfl⟩:=ln1 hl; rfl
 have m19:=AB X G a19;have F20:=zI (st:=zei) l20 c20 k20;have b20:=F20.binds (ps:=["web","pairs"]) fun _ _ _ _ _ _ us hl=>by obtain⟨_,_,rfl⟩:=ln2 hl; rfl
 have m20:=AB X G a20;have F21:=zI (st:=zes) l21 c21 k21;have b21:=F21.binds (ps:=["web","pairs"]) fun _ _ _ _ _ _ us hl=>by obtain⟨_,_,rfl⟩:=ln2 hl; rfl
 have m21:=AB X G a21;have F22:=zI (st:=zeE) l22 c22 k22;have b22:=F22.binds (ps:=["left","pairs"]) fun _ _ _ _ _ _ us hl=>by obtain⟨_,_,rfl⟩:=ln2 hl; rfl
 have m22:=AB X G a22;have F23:=zI (st:=zeB) l23 c23 k23;have b23:=F23.binds (ps:=["pair"]) fun _ _ _ _ _ _ us hl=>by obtain⟨_,rfl⟩:=ln1 hl; rfl
 have m23:=AB X G a23;have F24:=zI (st:=sBr) l24 c24 k24;have b24:=F24.binds (ps:=["terms","ends"]) fun _ _ _ _ _ _ us hl=>by obtain⟨_,_,rfl⟩:=ln2 hl; rfl
 have m24:=AB X G a24;have F25:=zI (st:=ze5) l25 c25 k25;have b25:=F25.binds (ps:=["script","k"]) fun _ _ _ _ _ _ us hl=>by obtain⟨_,_,rfl⟩:=ln2 hl; rfl
 have m25:=AB X G a25;have F26:=zI (st:=sBox) l26 c26 k26;have b26:=F26.binds (ps:=["cell"]) fun _ _ _ _ _ _ us hl=>by obtain⟨_,rfl⟩:=ln1 hl; rfl
 have m26:=AB X G a26;have F27:=zI (st:=zdV) l27 c27 k27;have b27:=F27.binds (ps:=["box","most"]) fun _ _ _ _ _ _ us hl=>by obtain⟨_,_,rfl⟩:=ln2 hl; rfl
 have m27:=AB X G a27;have F28:=zI (st:=zbd) l28 c28 k28;have b28:=F28.binds (ps:=["piece"]) fun _ _ _ _ _ _ us hl=>by obtain⟨_,rfl⟩:=ln1 hl; rfl
 have m28:=AB X G a28;have F29:=zI (st:=zaV) l29 c29 k29;have b29:=F29.binds (ps:=["web"]) fun _ _ _ _ _ _ us hl=>by obtain⟨_,rfl⟩:=ln1 hl; rfl
 have m29:=AB X G a29;have F30:=zI (st:=zcx) l30 c30 k30;have b30:=F30.binds (ps:=["number"]) fun _ _ _ _ _ _ us hl=>by obtain⟨_,rfl⟩:=ln1 hl; rfl
 have m30:=AB X G a30;have F31:=zI (st:=zcg) l31 c31 k31;have b31:=F31.binds (ps:=["box","web"]) fun _ _ _ _ _ _ us hl=>by obtain⟨_,_,rfl⟩:=ln2 hl; rfl
 have m31:=AB X G a31;have F32:=zI (st:=sWeb) l32 c32 k32;have b32:=F32.binds (ps:=["box"]) fun _ _ _ _ _ _ us hl=>by obtain⟨_,rfl⟩:=ln1 hl; rfl
 have m32:=AB X G a32;have F33:=zI (st:=zbs) l33 c33 k33;have b33:=F33.binds (ps:=["piece"]) fun _ _ _ _ _ _ us hl=>by obtain⟨_,rfl⟩:=ln1 hl; rfl
 have m33:=AB X G a33;have F34:=zI (st:=zey) l34 c34 k34;have b34:=F34.binds (ps:=["piece","rim"]) fun _ _ _ _ _ _ us hl=>by obtain⟨_,_,rfl⟩:=ln2 hl; rfl
 have m34:=AB X G a34;have F35:=zI (st:=zbc) l35 c35 k35;have b35:=F35.binds (ps:=["piece","by_first","left","known"]) fun _ _ _ _ _ _ us hl=>match us,hl with | [_,_,_,_],_=>rfl
 have m35:=AB X G a35;have F36:=zI (st:=zce) l36 c36 k36;have b36:=F36.binds (ps:=["piece","by_first","left","known"]) fun _ _ _ _ _ _ us hl=>match us,hl with | [_,_,_,_],_=>rfl
 have m36:=AB X G a36;have F37:=zI (st:=sLaw) l37 c37 k37;have m37:=AB X G a37;have np:=AB X G gp;have nq:=AB X G gq;have nr:=AB X G gr;have ns:=AB X G gs;refine⟨AD "law" "law" (zr sLaw) (zp sLaw) (zh sLaw) .none kV37 dc37 pm37 an37 cd37 ct37,fun s v=>.of_eq rfl,fun base _ _=>?_⟩;have yany:=AV X G z14;have ydict:=AV X G z15;have Gall:=zkl (P:=l.prog) (w:=w) (base:=base) F6 B F2 b2 m2 F5 b5 m5 F4 b4 m4;have Gweb:=zix (P:=l.prog) (w:=w) (base:=base) F7 B np nq nr ns F1 b1 m1 F6 b6 m6 F2 b2 m2 F5 b5 m5 F4 b4 m4;have Gm:=zkZ F8 F7 b7 m7 Gweb;have Gp:=zhP F9 F8 b8 m8 Gm F6 b6 m6 Gall;have Gor:=zjr (P:=l.prog) (w:=w) (base:=base) F17 B F3 b3 m3;have Grw:=znd F16 B F17 b17 m17 Gor;have Gip:=zh5 (P:=l.prog) (w:=w) (base:=base) F14 B F3 b3 m3;have Gfb:=zkV F13 B yany (by decide +kernel) F14 b14 m14 Gip;have Gfr:=zlJ F15 B F16 b16 m16 Grw;have Gju:=zhL F12 B F13 b13 m13 Gfb F15 b15 m15 Gfr F9 b9 m9 Gp;have Gpo:=zmb (P:=l.prog) (w:=w) (base:=base) F19 B F3 b3 m3;have Gpa:=zgD F18 B yany (by decide +kernel) F9 b9 m9 Gp F19 b19 m19 Gpo F16 b16 m16 Grw F5 b5 m5 F4 b4 m4;have Glo:=zkY F20 B F12 b12 m12 Gju F9 b9 m9 Gp;have Gte:=zjs (P:=l.prog) (w:=w) (base:=base) F10 B F3 b3 m3;have Gbr:=zmX (P:=l.prog) (w:=w) (base:=base) F24 F11 b11 m11;have Gsp:=zlw F23 B ydict F17 b17 m17 Gor F10 b10 m10 Gte;have Gen:=zlA F22 B F17 b17 m17 Gor F23 b23 m23 Gsp F24 b24 m24 Gbr;have Gth:=zlc F21 B F20 b20 m20 Glo F22 b22 m22 Gen F10 b10 m10 Gte F24 b24 m24 Gbr;have Glp:=zgk (P:=l.prog) (w:=w) (base:=base) F29 B F28 b28 m28;have Gsi:=zlD (P:=l.prog) (w:=w) (base:=base) F34 B F33 b33 m33;have Grd:=zft F35 b35 m35 B F33 b33 m33 F34 b34 m34 Gsi 60;have Glt:=ziv F36 B ydict F33 b33 m33 F34 b34 m34 Gsi F35 b35 m35 Grd;have Gwb:=zmQ (P:=l.prog) (w:=w) (base:=base) F32 B F27 b27 m27 F31 b31 m31 F30 b30 m30;exact zmR F37 B ydict F25 b25 m25 F26 b26 m26 F27 b27 m27 F32 b32 m32 Gwb F29 b29 m29 Glp F18 b18 m18 Gpa F21 b21 m21 Gth F36 b36 m36 Glt
theorem walk {l:PySem.W.OpenLaw}{q:Program}{loose:List Str}{XP:(Str->Option Value)->Heap->Prop}{YP:World->Heap->Prop}{d:DefRec}{K:Params->Ad} (hn:l.most=some 63) (hdf:d.params.defaults=[])
  (hY:∀(w:World) (h:Heap),YP w h->(K w.params).In h)
  (F:∀(w:World) (mg:Str->Option Value) (fa:Addr) (h:Heap),(K w.params).In h->h.Ns mainGlobals mg->mg d.name=some (.ref fa)->
   ∃fd:FuncData,(∀(s:Shared) (u:Value),BindsTo s fd ⟨[u],[]⟩ [("script",u)])/\∀base:Heap,(K w.params).In base->base.Ns mainGlobals mg->FnOk l.prog w (K w.params) mg base CX0 65 fa fd ["script"] (zi9 (K w.params))) :
  PySem.W.WalkO q loose XP YP l.row.toRowW d [] (fun f vs=>PySem.call f vs):=
 L2.zhp (n:=63) (k:=65) (x:="script") (CX:=fun _=>CX0) (sp:=fun w=>zi9 (K w.params)) hn (by decide) hdf ⟨rfl,by decide,by decide⟩ hY F (fun _ _ a ns hl _ hS=>⟨a,ns,rfl,hS,hl,fun _=>rfl⟩) fun _ _ _ _ _ z=>z
end K48
open PySem PySem.W PyProof.Rows
namespace PySem.W.Fast
theorem tw1002380512591781258:True:=⟨⟩
theorem tw10042376680262503033:True:=⟨⟩
theorem tw1009796024618348824:True:=⟨⟩
theorem tw10181886037640534890:True:=⟨⟩
theorem tw10264332583494677076:True:=⟨⟩
theorem tw10453009374629609433:True:=⟨⟩
theorem tw10531725935781787004:True:=⟨⟩
theorem tw10538272133231631935:True:=⟨⟩
theorem tw10702723998994778071:True:=⟨⟩
theorem tw10710699514894916326:True:=⟨⟩
theorem tw10724171255286891703:True:=⟨⟩
theorem tw10724221977881532449:True:=⟨⟩
theorem tw10795679433652110499:True:=⟨⟩
theorem tw10840560423929862097:True:=⟨⟩
theorem tw11028197658919595822:True:=⟨⟩
theorem tw1103037230942723311:True:=⟨⟩
theorem tw11342716315566032218:True:=⟨⟩
theorem tw11389717025158694891:True:=⟨⟩
theorem tw11469932631338074692:True:=⟨⟩
theorem tw11476299819107254969:True:=⟨⟩
theorem tw11512222946609124777:True:=⟨⟩
theorem tw11655543824495277812:True:=⟨⟩
theorem tw11755176276431129097:True:=⟨⟩
theorem tw11819696615173272036:True:=⟨⟩
theorem tw11854879283466731755:True:=⟨⟩
theorem tw11919863280442137807:True:=⟨⟩
theorem tw12048094643121744840:True:=⟨⟩
theorem tw12110404519159154453:True:=⟨⟩
theorem tw12123821726097719758:True:=⟨⟩
theorem tw12124006751931303273:True:=⟨⟩
theorem tw12168377973441719774:True:=⟨⟩
theorem tw12366316597857998244:True:=⟨⟩
theorem tw12594718249929336499:True:=⟨⟩
theorem tw12616591552440621526:True:=⟨⟩
theorem tw12619733572645303092:True:=⟨⟩
theorem tw12622774538166678483:True:=⟨⟩
theorem tw12650518769100275937:True:=⟨⟩
theorem tw12724901959928000482:True:=⟨⟩
theorem tw12934148333241461802:True:=⟨⟩
theorem tw12948208206391015918:True:=⟨⟩
theorem tw12991743869745453010:True:=⟨⟩
theorem tw13096026034125914214:True:=⟨⟩
theorem tw13097480862904856056:True:=⟨⟩
theorem tw13128074857851878024:True:=⟨⟩
theorem tw1320951210598201640:True:=⟨⟩
theorem tw13256945750154240182:True:=⟨⟩
theorem tw13499172559407607980:True:=⟨⟩
theorem tw13502891507998234564:True:=⟨⟩
theorem tw13603853580249284715:True:=⟨⟩
theorem tw13883243841382928596:True:=⟨⟩
theorem tw13934712724085905727:True:=⟨⟩
theorem tw13944657067641344382:True:=⟨⟩
theorem tw13952412881142215452:True:=⟨⟩
theorem tw14180273207702034876:True:=⟨⟩
theorem tw14204813334806324856:True:=⟨⟩
theorem tw14212367972073626827:True:=⟨⟩
theorem tw14298337875976468966:True:=⟨⟩
theorem tw14310407669198529077:True:=⟨⟩
theorem tw14318011332051606061:True:=⟨⟩
theorem tw14381476162031988423:True:=⟨⟩
theorem tw1439626471628550962:True:=⟨⟩
theorem tw14404371603873799003:True:=⟨⟩
theorem tw14489614594480088255:True:=⟨⟩
theorem tw14532213922719832097:True:=⟨⟩
theorem tw14569280587438660210:True:=⟨⟩
theorem tw14642137109692035722:True:=⟨⟩
theorem tw14695426789203662576:True:=⟨⟩
theorem tw14750890608323868631:True:=⟨⟩
theorem tw14841875589136844224:True:=⟨⟩
theorem tw14883081349897766097:True:=⟨⟩
theorem tw14893251271144124693:True:=⟨⟩
theorem tw14920143818710686297:True:=⟨⟩
theorem tw14983684391002899189:True:=⟨⟩
theorem tw15204772658457674292:True:=⟨⟩
theorem tw15293158868653394526:True:=⟨⟩
theorem tw15317087035687433087:True:=⟨⟩
theorem tw15323134775948609185:True:=⟨⟩
theorem tw1532406016864955463:True:=⟨⟩
theorem tw15343372832777295468:True:=⟨⟩
theorem tw15413826436973730507:True:=⟨⟩
theorem tw15726534076803384906:True:=⟨⟩
theorem tw15782351127061402462:True:=⟨⟩
theorem tw15796074342584641628:True:=⟨⟩
theorem tw16060240237206332578:True:=⟨⟩
theorem tw16078168243689980219:True:=⟨⟩
theorem tw16135418665854733650:True:=⟨⟩
theorem tw16135423629699462317:True:=⟨⟩
theorem tw16220352379811890873:True:=⟨⟩
theorem tw16224543932004942840:True:=⟨⟩
theorem tw16241153938107425658:True:=⟨⟩
theorem tw16268036888048985539:True:=⟨⟩
theorem tw16315237310661590025:True:=⟨⟩
theorem tw16335997603665497088:True:=⟨⟩
theorem tw16354634245000437002:True:=⟨⟩
theorem tw16367325107350952694:True:=⟨⟩
theorem tw16367834612969884769:True:=⟨⟩
theorem tw16393169996758339492:True:=⟨⟩
theorem tw16434234352095833385:True:=⟨⟩
theorem tw16503764337598719860:True:=⟨⟩
theorem tw16556979108642731435:True:=⟨⟩
theorem tw16621841572316036896:True:=⟨⟩
theorem tw16684793354804815303:True:=⟨⟩
theorem tw1675833327309159925:True:=⟨⟩
theorem tw16880086897579605041:True:=⟨⟩
theorem tw17146198804113768197:True:=⟨⟩
theorem tw17197475293622472526:True:=⟨⟩
theorem tw17232677124486816521:True:=⟨⟩
theorem tw1728384392435725549:True:=⟨⟩
theorem tw17439830566058799059:True:=⟨⟩
theorem tw17471660628562859745:True:=⟨⟩
theorem tw17476534493171907254:True:=⟨⟩
theorem tw17488360624837582575:True:=⟨⟩
theorem tw17537409796655739684:True:=⟨⟩
theorem tw17620793132990747573:True:=⟨⟩
theorem tw17755053523497483132:True:=⟨⟩
theorem tw17915481434313629917:True:=⟨⟩
theorem tw17931599500332177892:True:=⟨⟩
theorem tw17980548410918590880:True:=⟨⟩
theorem tw17987620572583406606:True:=⟨⟩
theorem tw1802673482554857284:True:=⟨⟩
theorem tw18328497919906510518:True:=⟨⟩
theorem tw18328711433191604464:True:=⟨⟩
theorem tw18367951238345973955:True:=⟨⟩
theorem tw1854543998523388782:True:=⟨⟩
theorem tw1867533302052252097:True:=⟨⟩
theorem tw1878953117467653877:True:=⟨⟩
theorem tw1904722340424646103:True:=⟨⟩
theorem tw1916736163094784425:True:=⟨⟩
theorem tw2004102568278416252:True:=⟨⟩
theorem tw2020363137233882688:True:=⟨⟩
theorem tw2195447043090926457:True:=⟨⟩
theorem tw2220176529635934783:True:=⟨⟩
theorem tw2261349090679694459:True:=⟨⟩
theorem tw2261350040793854275:True:=⟨⟩
theorem tw2570779591091576882:True:=⟨⟩
theorem tw2575310423033038514:True:=⟨⟩
theorem tw2576506609626941545:True:=⟨⟩
theorem tw2591286018036853211:True:=⟨⟩
theorem tw2741623613057052425:True:=⟨⟩
theorem tw274188923173882246:True:=⟨⟩
theorem tw2805234823939441850:True:=⟨⟩
theorem tw3086536183426094657:True:=⟨⟩
theorem tw3123695204961301678:True:=⟨⟩
theorem tw3172579794431191557:True:=⟨⟩
theorem tw3306965264164256230:True:=⟨⟩
theorem tw3346965531396347344:True:=⟨⟩
theorem tw3383066243437020711:True:=⟨⟩
theorem tw3406093118984590663:True:=⟨⟩
theorem tw3409513662617268331:True:=⟨⟩
theorem tw342489801996284034:True:=⟨⟩
theorem tw3584698120130615345:True:=⟨⟩
theorem tw3636413322641862586:True:=⟨⟩
theorem tw3671267714540129656:True:=⟨⟩
theorem tw3784595832712670065:True:=⟨⟩
theorem tw3800206650581365896:True:=⟨⟩
theorem tw3818412817313212294:True:=⟨⟩
theorem tw382067233090282263:True:=⟨⟩
theorem tw4058971632324385449:True:=⟨⟩
theorem tw4097497546208325802:True:=⟨⟩
theorem tw4225668130301750691:True:=⟨⟩
theorem tw4255115545245063299:True:=⟨⟩
theorem tw4312559953357720140:True:=⟨⟩
theorem tw4410011390237380207:True:=⟨⟩
theorem tw4533605586535048024:True:=⟨⟩
theorem tw4537567588451358896:True:=⟨⟩
theorem tw4551935671813565065:True:=⟨⟩
theorem tw4699082537285820683:True:=⟨⟩
theorem tw4741686263646171559:True:=⟨⟩
theorem tw4840887742746911258:True:=⟨⟩
theorem tw4992384919817983464:True:=⟨⟩
theorem tw4995515288773443323:True:=⟨⟩
theorem tw5006833432144065090:True:=⟨⟩
theorem tw5187566785592299620:True:=⟨⟩
theorem tw5230662585594433216:True:=⟨⟩
theorem tw5268907820190524748:True:=⟨⟩
theorem tw5317401852264362488:True:=⟨⟩
theorem tw5327676427043724576:True:=⟨⟩
theorem tw5445127137260261544:True:=⟨⟩
theorem tw554995816072431370:True:=⟨⟩
theorem tw5734426856042843091:True:=⟨⟩
theorem tw575151910778951384:True:=⟨⟩
theorem tw5894125966711882546:True:=⟨⟩
theorem tw6103005003441376087:True:=⟨⟩
theorem tw6116130270087496003:True:=⟨⟩
theorem tw6154646499199237835:True:=⟨⟩
theorem tw6283578978735553521:True:=⟨⟩
theorem tw6286039748781636943:True:=⟨⟩
theorem tw6399702223145395881:True:=⟨⟩
theorem tw6533538984722507600:True:=⟨⟩
theorem tw6543423986227673416:True:=⟨⟩
theorem tw6577829401906369260:True:=⟨⟩
theorem tw6641692986629696848:True:=⟨⟩
theorem tw6721141905044535934:True:=⟨⟩
theorem tw6754205482794760961:True:=⟨⟩
theorem tw6826814620462225654:True:=⟨⟩
theorem tw7074967536933621279:True:=⟨⟩
theorem tw708818842870060746:True:=⟨⟩
theorem tw710207141399160137:True:=⟨⟩
theorem tw7131107308429656581:True:=⟨⟩
theorem tw7278645737579339733:True:=⟨⟩
theorem tw7336564815788459089:True:=⟨⟩
theorem tw7342642880783922193:True:=⟨⟩
theorem tw7364174819133672715:True:=⟨⟩
theorem tw7401654306849237980:True:=⟨⟩
theorem tw7415766516759894651:True:=⟨⟩
theorem tw7477521765009034912:True:=⟨⟩
theorem tw7664018050855603125:True:=⟨⟩
theorem tw7712099073957962703:True:=⟨⟩
theorem tw7730887735832636716:True:=⟨⟩
theorem tw7825286002957654998:True:=⟨⟩
theorem tw7979339735984643774:True:=⟨⟩
theorem tw8026177024109458787:True:=⟨⟩
theorem tw8070541469277241834:True:=⟨⟩
theorem tw8071257890413312932:True:=⟨⟩
theorem tw8077582925544297771:True:=⟨⟩
theorem tw8102853123714319951:True:=⟨⟩
theorem tw8171567734025133012:True:=⟨⟩
theorem tw8193315029569644079:True:=⟨⟩
theorem tw8206421698475827758:True:=⟨⟩
theorem tw8239030468662235544:True:=⟨⟩
theorem tw8251104537888436616:True:=⟨⟩
theorem tw8265668204972907497:True:=⟨⟩
theorem tw8346479710793975351:True:=⟨⟩
theorem tw8373960000551906671:True:=⟨⟩
theorem tw8440338860413462703:True:=⟨⟩
theorem tw8531500865697382131:True:=⟨⟩
theorem tw8536461146064641647:True:=⟨⟩
theorem tw8555625973679271412:True:=⟨⟩
theorem tw8558797319156652983:True:=⟨⟩
theorem tw8637059862275565911:True:=⟨⟩
theorem tw8799156500915283275:True:=⟨⟩
theorem tw8806445454051116909:True:=⟨⟩
theorem tw8963564033873940291:True:=⟨⟩
theorem tw8970264710806908113:True:=⟨⟩
theorem tw9077855901929507832:True:=⟨⟩
theorem tw9134822492040788266:True:=⟨⟩
theorem tw9159826431756107004:True:=⟨⟩
theorem tw9189957849958972686:True:=⟨⟩
theorem tw9197978317396376854:True:=⟨⟩
theorem tw9212805463516455525:True:=⟨⟩
theorem tw9257969614555278558:True:=⟨⟩
theorem tw9335496715902831606:True:=⟨⟩
theorem tw9400892820063856745:True:=⟨⟩
theorem tw9592830433713205082:True:=⟨⟩
theorem tw9611287146318490098:True:=⟨⟩
theorem tw9689616641316810741:True:=⟨⟩
theorem tw977826930850380657:True:=⟨⟩
theorem tw9834219122417026420:True:=⟨⟩
theorem tw9883026213427297258:True:=⟨⟩
theorem tw9886292606214020585:True:=⟨⟩
theorem tw9889057171347057799:True:=⟨⟩
end PySem.W.Fast
set_option maxRecDepth 100000 in
set_option maxHeartbeats 0 in
theorem PySem.Challenge.cw_seamwright_k48_thin_seams_holds : PySem.Challenge.rw_seamwright_k48_thin_seams.Holds := by
 w_on; o_law; k_head; (case hw=>w_witness2)
 k_fill
 refine K48.walk (l:=PySem.Challenge.rw_seamwright_k48_thin_seams) rfl rfl (fun w h Y=>PySem.W.kIn_of Y) ?F
 case F=>
  intro w mg fa h KX G hmg;refine' K48.zmG KX G hmg ?a1 ?l1 ?c1 ?k1 ?a2 ?l2 ?c2 ?k2 ?a3 ?l3 ?c3 ?k3 ?a4 ?l4 ?c4 ?k4 ?a5 ?l5 ?c5 ?k5 ?a6 ?l6 ?c6 ?k6 ?a7 ?l7 ?c7 ?k7 ?a8 ?l8 ?c8 ?k8 ?a9 ?l9 ?c9 ?k9 ?a10 ?l10 ?c10 ?k10 ?a11 ?l11 ?c11 ?k11 ?a12 ?l12 ?c12 ?k12 ?a13 ?l13 ?c13 ?k13 ?a14 ?l14 ?c14 ?k14 ?a15 ?l15 ?c15 ?k15 ?a16 ?l16 ?c16 ?k16 ?a17 ?l17 ?c17 ?k17 ?a18 ?l18 ?c18 ?k18 ?a19 ?l19 ?c19 ?k19 ?a20 ?l20 ?c20 ?k20 ?a21 ?l21 ?c21 ?k21 ?a22 ?l22 ?c22 ?k22 ?a23 ?l23 ?c23 ?k23 ?a24 ?l24 ?c24 ?k24 ?a25 ?l25 ?c25 ?k25 ?a26 ?l26 ?c26 ?k26 ?a27 ?l27 ?c27 ?k27 ?a28 ?l28 ?c28 ?k28 ?a29 ?l29 ?c29 ?k29 ?a30 ?l30 ?c30 ?k30 ?a31 ?l31 ?c31 ?k31 ?a32 ?l32 ?c32 ?k32 ?a33 ?l33 ?c33 ?k33 ?a34 ?l34 ?c34 ?k34 ?a35 ?l35 ?c35 ?k35 ?a36 ?l36 ?c36 ?k36 ?a37 ?l37 ?c37 ?k37 ?gp ?gq ?gr ?gs ?z1 ?z2 ?z3 ?z4 ?z5 ?z6 ?z7 ?z8 ?z9 ?z10 ?z11 ?z12 ?z13 ?z14 ?z15
  (case a1=>k_is); (case l1=>k_is); (case c1=>k_is); (case k1=>k_is); (case a2=>k_is); (case l2=>k_is)
  (case c2=>k_is); (case k2=>k_is); (case a3=>k_is); (case l3=>k_is); (case c3=>k_is); (case k3=>k_is)
  (case a4=>k_is); (case l4=>k_is); (case c4=>k_is); (case k4=>k_is); (case a5=>k_is); (case l5=>k_is)
  (case c5=>k_is); (case k5=>k_is); (case a6=>k_is); (case l6=>k_is); (case c6=>k_is); (case k6=>k_is)
  (case a7=>k_is); (case l7=>k_is); (case c7=>k_is); (case k7=>k_is); (case a8=>k_is); (case l8=>k_is)
  (case c8=>k_is); (case k8=>k_is); (case a9=>k_is); (case l9=>k_is); (case c9=>k_is); (case k9=>k_is)
  (case a10=>k_is); (case l10=>k_is); (case c10=>k_is); (case k10=>k_is); (case a11=>k_is); (case l11=>k_is)
  (case c11=>k_is); (case k11=>k_is); (case a12=>k_is); (case l12=>k_is); (case c12=>k_is); (case k12=>k_is)
  (case a13=>k_is); (case l13=>k_is); (case c13=>k_is); (case k13=>k_is); (case a14=>k_is); (case l14=>k_is)
  (case c14=>k_is); (case k14=>k_is); (case a15=>k_is); (case l15=>k_is); (case c15=>k_is); (case k15=>k_is)
  (case a16=>k_is); (case l16=>k_is); (case c16=>k_is); (case k16=>k_is); (case a17=>k_is); (case l17=>k_is)
  (case c17=>k_is); (case k17=>k_is); (case a18=>k_is); (case l18=>k_is); (case c18=>k_is); (case k18=>k_is)
  (case a19=>k_is); (case l19=>k_is); (case c19=>k_is); (case k19=>k_is); (case a20=>k_is); (case l20=>k_is)
  (case c20=>k_is); (case k20=>k_is); (case a21=>k_is); (case l21=>k_is); (case c21=>k_is); (case k21=>k_is)
  (case a22=>k_is); (case l22=>k_is); (case c22=>k_is); (case k22=>k_is); (case a23=>k_is); (case l23=>k_is)
  (case c23=>k_is); (case k23=>k_is); (case a24=>k_is); (case l24=>k_is); (case c24=>k_is); (case k24=>k_is)
  (case a25=>k_is); (case l25=>k_is); (case c25=>k_is); (case k25=>k_is); (case a26=>k_is); (case l26=>k_is)
  (case c26=>k_is); (case k26=>k_is); (case a27=>k_is); (case l27=>k_is); (case c27=>k_is); (case k27=>k_is)
  (case a28=>k_is); (case l28=>k_is); (case c28=>k_is); (case k28=>k_is); (case a29=>k_is); (case l29=>k_is)
  (case c29=>k_is); (case k29=>k_is); (case a30=>k_is); (case l30=>k_is); (case c30=>k_is); (case k30=>k_is)
  (case a31=>k_is); (case l31=>k_is); (case c31=>k_is); (case k31=>k_is); (case a32=>k_is); (case l32=>k_is)
  (case c32=>k_is); (case k32=>k_is); (case a33=>k_is); (case l33=>k_is); (case c33=>k_is); (case k33=>k_is)
  (case a34=>k_is); (case l34=>k_is); (case c34=>k_is); (case k34=>k_is); (case a35=>k_is); (case l35=>k_is)
  (case c35=>k_is); (case k35=>k_is); (case a36=>k_is); (case l36=>k_is); (case c36=>k_is); (case k36=>k_is)
  (case a37=>k_is); (case l37=>k_is); (case c37=>k_is); (case k37=>k_is); (case gp=>k_is); (case gq=>k_is)
  (case gr=>k_is); (case gs=>k_is); (case z1=>k_is); (case z2=>k_is); (case z3=>k_is); (case z4=>k_is)
  (case z5=>k_is); (case z6=>k_is); (case z7=>k_is); (case z8=>k_is); (case z9=>k_is); (case z10=>k_is)
  (case z11=>k_is); (case z12=>k_is); (case z13=>k_is); (case z14=>k_is); (case z15=>k_is)
#print axioms PySem.Challenge.cw_seamwright_k48_thin_seams_holds
end
