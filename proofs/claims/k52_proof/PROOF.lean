import PyProof.Rows.All
import Wide.All
import OpenK.AllK
import Wide.FinOn
import Lean
import PyProof.EqAt
import PyProof.EqKinds
import PyProof.TupleCall
import PyProof.Rows.SortRuns
import KE.KSortKey
import KE.KListMore
import KE.KIntText
import KE.KEqDat
import PyProof.Rows.CallKwBuiltin
import PySem.SetTable
import PyProof.Rows.SetFrom
import PyProof.TupleKey
import PyProof.IsRules
import KE.KRevIter
import PyProof.ListRange
import PyProof.TupleOfGen
import PyProof.CollectIter
import PySem.Challenge.RW_seamwright_k52_maps_looked_at
import PyProof.MinMaxWalk
import PyProof.SumAny
import KE.KDictLaws
import PyProof.DictWalks
import PyProof.SetNew
import PyProof.DictCopy
import PyProof.FactsAll.dict_1
import PyProof.FactsAll.set_2
import PyProof.FactsAll.subtypes_5
import PyProof.DictFindH
import KE.KDictList
import KE.KDictSum
import KE.KEqDict
import PyProof.AttrMissHeap
import PyProof.StationsW
import PyProof.ExcClass3
import OpenK.KOwn
import PyProof.ExcArgsOwn
open PySem renaming wpAny_bind->Aa,wpAny_pure->Ac,tupleKeyHash->Av,wpAny_holding->AJ,wpAny_newObj_type->AO,wpAny_call_entry->AR,wpAny_field->AU,IsTupleKey->AW,wpAny_callSpecial?_slot->AX,mem_of_lookup->A3,bootBuiltins->A5,codeAny_builtin->A6,wpAny_mono->Ba,cellsFrom->Bg
open List renaming length_map->Ab,getElem?_eq_getElem->Ag,size_toArray->Ai,map_append->Ak,getElem?_map->Ap,mem_of_getElem?->Aq,length_cons->As,length_append->At,map_map->Aw,mem_cons_of_mem->Ax,take_of_length_le->Ay,mem_cons_self->AB,map_cons->AK,length_take->AS,mem_append_right->AT,filter_append->A9,range->Bc,lookup_cons->Be,pairwise_map->Bf
open PySem.Heap renaming get?_push_of_some->Ad,lt_size->Ah,get?_push_size->Al,SameBut->A2,size_update->Bb
open PySem.W renaming Frag->Ae,nsIn->Am,mg_of->Ar,keepIn->AA,codeIn->AC,fnOf->AE,kitOne->AM,mg_none_of->AY
open Nat renaming le_refl->Af,ne_of_lt->An,lt_of_lt_of_le->AD,le_trans->AF,lt_succ_of_lt->AL,zero_le->AV
open Bool renaming false_eq_true->Aj,false_ne_true->Au,and_eq_true->AN
open Option.some renaming inj->Ao
open Array renaming length_toList->Az,getElem?_toList->AH,size_map->A0
open PySem.Obj renaming mapSeq->AI,data_mapFields->A8
open PyProof.Rows renaming take_snoc->AQ
open PySem.Heap.SameBut renaming update->AZ
open PySem.Around renaming under_plainId->A1
open PySem.PyData renaming int->A4
open PySem.PassesOwn renaming never->A7
open PySem.NameKind renaming free->Bd
set_option linter.all false
set_option Elab.async false
set_option maxRecDepth 100000
set_option maxHeartbeats 4000000
section
namespace L2
open PySem PySem.Spec PyProof.Rows
abbrev Key:=Sum Int Str
def zgq:Key->Value->Bool
 | .inl k,v=>Value.isInt k v
 | .inr x,v=>Value.isStrOf x v
def keyH (w:World):Key->Int
 | .inl k=>hashInt k
 | .inr x=>hashStr w x
theorem keyIs_shape:∀{k:Key}{v:Value},zgq k v=true->(∃i t,k=Sum.inl i/\v=Value.int i t) \/ (∃x t,k=Sum.inr x/\v=Value.str x t)
 | .inl i,v,h=>by
  obtain⟨t,e⟩:=Value.isInt_shape (k:=i) (v:=v) h;exact .inl ⟨i,t,rfl,e⟩
 | .inr x,v,h=>by
  obtain⟨t,e⟩:=Value.isStrOf_shape (x:=x) (v:=v) h;exact .inr ⟨x,t,rfl,e⟩
theorem zhd (i:Int) (t:Tok):zgq (.inl i) (.int i t)=true:=by simp[zgq,Value.isInt]
theorem zh7 (x:Str) (t:Tok):zgq (.inr x) (.str x t)=true:=by simp[zgq,Value.isStrOf]
theorem zmE (a b:Int):decide ((Sum.inl a:Key)=Sum.inl b)=(a == b):=by
 by_cases e:a=b
 ·subst e; simp
 ·have h:¬ (Sum.inl a:Key)=Sum.inl b:=fun q=>e (Sum.inl.inj q)
  rw[decide_eq_false h];exact (beq_eq_false_iff_ne.mpr e).symm
theorem zmp (a b:Str):decide ((Sum.inr a:Key)=Sum.inr b)=decide (a=b):=by
 by_cases e:a=b
 ·subst e; simp
 ·have h:¬ (Sum.inr a:Key)=Sum.inr b:=fun q=>e (Sum.inr.inj q)
  rw[decide_eq_false h,decide_eq_false e]
theorem zmf (a:Int) (b:Str):decide ((Sum.inl a:Key)=Sum.inr b)=false:=decide_eq_false (fun q=>nomatch q)
theorem zml (a:Str) (b:Int):decide ((Sum.inr a:Key)=Sum.inl b)=false:=decide_eq_false (fun q=>nomatch q)
def zq (prog:Program) (w:World):PySem.KeyKind prog w Key where
 is:=zgq
 hash:=keyH w
 inj:=fun v a b ha hb=>by
  rcases keyIs_shape ha with ⟨i,t,rfl,rfl⟩ | ⟨x,t,rfl,rfl⟩
  ·rcases keyIs_shape hb with ⟨j,u,rfl,e⟩ | ⟨y,u,rfl,e⟩
   ·injection e with e1 _; rw[e1]
   ·exact nomatch e
  ·rcases keyIs_shape hb with ⟨j,u,rfl,e⟩ | ⟨y,u,rfl,e⟩
   ·exact nomatch e
   ·injection e with e1 _; rw[e1]
 byValue:=fun k v h=>by
  rcases keyIs_shape h with ⟨i,t,rfl,rfl⟩ | ⟨x,t,rfl,rfl⟩ <;> rfl
 pyHash:=fun hv h=>by
  rcases keyIs_shape hv with ⟨i,t,rfl,rfl⟩ | ⟨x,t,rfl,rfl⟩
  ·exact wpAny_pyHash_int h
  ·exact wpAny_pyHash_str h
 eqBool:=fun hu hv h=>by
  rcases keyIs_shape hu with ⟨i,t,rfl,rfl⟩ | ⟨x,t,rfl,rfl⟩
  ·rcases keyIs_shape hv with ⟨j,u,rfl,rfl⟩ | ⟨y,u,rfl,rfl⟩
   ·rw[zmE] at h; exact wpAny_eqBool_int h
   ·rw[zmf] at h; exact SeqAt.EqAt.int_str i t y u _ _ _ _ h
  ·rcases keyIs_shape hv with ⟨j,u,rfl,rfl⟩ | ⟨y,u,rfl,rfl⟩
   ·rw[zml] at h; exact SeqAt.EqAt.str_int x t j u _ _ _ _ h
   ·rw[zmp] at h; exact wpAny_eqBool_str h
 «strs»:=fun k x t v h=>by
  rcases keyIs_shape h with ⟨i,u,rfl,e⟩ | ⟨y,u,rfl,e⟩
  ·exact nomatch e
  ·injection e with e1 _
   subst e1;cases v <;> rfl
theorem zbA (prog:Program) (w:World) (i:Int) (t:Tok):(zq prog w).is (.inl i) (.int i t)=true:=zhd i t
theorem zfb (prog:Program) (w:World) (x:Str) (t:Tok):(zq prog w).is (.inr x) (.str x t)=true:=zh7 x t
end L2
namespace L2
open PySem PySem.Spec PyProof.Rows
inductive V where
 | non | bl (b:Bool) | int (i:Int) | str (x:Str) | byt (b:Array UInt8) | flt (b:UInt64) | ref (a:Addr) | ty (n:String)
 deriving DecidableEq
def RelV:V->Value->Prop
 | .non,u=>u=Value.none
 | .bl b,u=>u=Value.bool b
 | .int i,u=>∃t,u=Value.int i t
 | .str x,u=>∃t,u=Value.str x t
 | .byt b,u=>∃t,u=Value.bytes b t
 | .flt b,u=>∃t,u=Value.float b t
 | .ref a,u=>u=Value.ref a
 | .ty n,u=>u=Value.type n
abbrev Vals:List V->List Value->Prop:=Paired RelV
theorem Vals.length {xs:List V}{us:List Value} (r:Vals xs us):xs.length=us.length:=Paired.length r
theorem Vals.get:∀{xs:List V}{us:List Value}{i:Nat}{x:V},Vals xs us->xs[i]?=some x->∃u,us[i]?=some u/\RelV x u
 | _,_,_,_,.nil,e=>by simp at e
 | _,_,0,_,.cons r _,e=>by simp at e; subst e; exact⟨_,rfl,r⟩
 | _,_,i+1,x,.cons _ t,e=>by
  obtain⟨u,h1,h2⟩:=Vals.get (i:=i) (x:=x) t (by simpa using e);exact⟨u,by simpa using h1,h2⟩
theorem Vals.set {x:V}{u:Value} (r:RelV x u):∀{xs:List V}{us:List Value} (i:Nat),Vals xs us->Vals (xs.set i x) (us.set i u)
 | _,_,_,.nil=>.nil
 | _,_,0,.cons _ t=>.cons r t
 | _,_,i+1,.cons q t=>.cons q (Vals.set r i t)
theorem Vals.append {xs ys:List V}{us ws:List Value} (h:Vals xs us) (g:Vals ys ws):Vals (xs++ys) (us++ws):=by
 induction h with
 | nil=>exact g
 | cons r _ ih=>exact .cons r ih
theorem Vals.take:∀{xs:List V}{us:List Value} (n:Nat),Vals xs us->Vals (xs.take n) (us.take n)
 | _,_,0,_=>.nil
 | _,_,_+1,.nil=>.nil
 | _,_,n+1,.cons r t=>.cons r (Vals.take n t)
theorem Vals.drop:∀{xs:List V}{us:List Value} (n:Nat),Vals xs us->Vals (xs.drop n) (us.drop n)
 | _,_,0,r=>r
 | _,_,_+1,.nil=>.nil
 | _,_,n+1,.cons _ t=>Vals.drop n t
theorem Vals.none_of:∀{xs:List V}{us:List Value}{i:Nat},Vals xs us->xs[i]?=none->us[i]?=none:=fun {xs us i} r e=>by
 have h1:=r.length;have h2:xs.length<=i:=List.getElem?_eq_none_iff.mp e;exact List.getElem?_eq_none_iff.mpr (by omega)
def RelO:Option V->Option Value->Prop
 | some v,some u=>RelV v u
 | none,none=>True
 | _,_=>False
def KV {κ:Type}:List (κ×V)->List (κ×Value)->Prop:=Paired fun (p:κ×V) (q:κ×Value)=>p.1=q.1/\RelV p.2 q.2
def kV:Key->V
 | .inl i=>.int i
 | .inr x=>.str x
inductive HO where
 | lst (xs:List V)
 | tup (xs:List V)
 | dK (kvs:List (Key×V)) | dT (kvs:List (List Key×V))
 | set (S:Int->Bool) (n:Nat)
 | ins (C dx:Addr) (fs:List (Str×V))
 | own (x:Addr)
 | xd (fs:List (Str×V))
 | met (f x:Addr)
 | rng (lo hi:Int)
 | frz (o:Obj) (u:HO)
 | tbl (ps:Array Value)
 | ext (φ:Heap->Prop)
abbrev Hp:=Addr->Option HO
def upd (H:Hp) (a:Addr) (o:HO):Hp:=fun b=>if b=a then some o else H b
theorem upd_same {H:Hp}{a:Addr}{o:HO}:upd H a o a=some o:=by unfold upd; rw[if_pos rfl]
theorem zk {H:Hp}{a b:Addr}{o:HO} (h:b≠a):upd H a o b=H b:=by unfold upd; rw[if_neg h]
theorem za2 {H:Hp}{a b:Addr}{o u:HO} (h:H a=some o) (h':H b=some u) (d:o≠u):a≠b:=by
 intro e; subst e; rw[h] at h'; exact d (Ao h')
theorem zg {H:Hp}{a b:Addr}{o:HO} (h:H a=some o) (h':H b=none):a≠b:=by
 intro e; subst e; rw[h] at h'; cases h'
section
variable (P:Program) (w:World)
def zF (H:Hp) (h:Heap) (a:Addr):HO->Prop
 | .lst xs=>xs.length<=sizeLine/\∃(its:List Value) (n:Nat),Vals xs its/\h.get? a=some { cls:=.type "list",data:=.seq its.toArray n }
 | .tup xs=>xs.length<=sizeLine/\∃its:List Value,Vals xs its/\IsTup h a its.toArray
 | .dK kvs=>kvs.length<=sizeLine/\(a == sysModules)=false/\∃vs,KV kvs vs/\h.DictOf (zq P w) a vs
 | .dT kvs=>kvs.length<=sizeLine/\(a == sysModules)=false/\∃xs:List (List Key×Addr×Value),
   Paired (fun (p:List Key×V) (q:List Key×Addr×Value)=>p.1=q.1/\H q.2.1=some (.tup (p.1.map kV))/\RelV p.2 q.2.2) kvs xs/\
   ∃o es ep,h.get? a=some o/\o.ExactDict/\o.data=.dict es ep/\es.toList=xs.map (entryOfKey (tupleKind (zq P w)))/\(xs.map (·.1)).Nodup
 | .set S n=>h.SetOf (intKind P w) a S n
 | .ins C dx fs=>H dx=some (.own a)/\fs.length<=1000/\dx≠a/\h.get? a=some (PySem.W.instObj C dx)/\
   ∃mA,h.Ns1 dx mA/\(∀f,RelO (fs.lookup f) (mA f))/\PySem.Within mA (fs.map (·.1))
 | .own _=>∃o,h.get? a=some o
 | .xd fs=>∃mA,h.Ns1 a mA/\∀f,RelO (fs.lookup f) (mA f)
 | .rng lo hi=>∃t u v,h.get? a=some { cls:=.type "range",data:=.fields #[.int lo t,.int hi u,.int 1 v] }
 | .frz o u=>h.get? a=some o/\zF H h a u
 | .tbl ps=>h.get? a=some { cls:=.none,data:=.fields ps }
 | .met f x=>h.get? a=some (PySem.W.methodObj (.ref f) (.ref x))
 | .ext φ=>φ h/\(∃o,h.get? a=some o)/\∀h1 h2:Heap,φ h1->(∀o,h1.get? a=some o->h2.get? a=some o)->φ h2
def HOk (H:Hp) (h:Heap):Prop:=∀a o,H a=some o->zF P w H h a o
end
section
variable {P:Program}{w:World}{H H':Hp}{h h':Heap}{a:Addr}{o:HO}
theorem zF.lt (x:zF P w H h a o):a<h.objs.size:=by
 cases o with
 | lst xs=>obtain⟨_,_,_,_,e⟩:=x; exact Ah e
 | tup xs=>obtain⟨_,_,_,p⟩:=x; exact p.lt
 | dK kvs=>obtain⟨_,_,_,_,o,_,_,e,_⟩:=x; exact Ah e
 | dT kvs=>obtain⟨_,_,_,_,o,_,_,e,_⟩:=x; exact Ah e
 | set S n=>obtain⟨o,_,_,_,e,_⟩:=x; exact Ah e
 | ins C dx fs=>obtain⟨_,_,_,e,_⟩:=x; exact Ah e
 | own y=>obtain⟨_,e⟩:=x; exact Ah e
 | xd fs=>obtain⟨_,⟨_,_,_,e,_⟩,_⟩:=x; exact Ah e
 | rng lo hi=>obtain⟨_,_,_,e⟩:=x; exact Ah e
 | frz ob u=>obtain⟨e,_⟩:=x; exact Ah e
 | tbl ps=>exact Ah (show h.get? a=some _ from x)
 | met f y=>exact Ah (show h.get? a=some _ from x)
 | ext φ=>obtain⟨_,⟨_,e⟩,_⟩:=x; exact Ah e
theorem Paired.mapP {α β:Type}{F G:α->β->Prop}{l₁:List α}{l₂:List β} (h:Paired F l₁ l₂) (f:∀a b,F a b->G a b):Paired G l₁ l₂:=by
 induction h with
 | nil=>exact .nil
 | cons r _ ih=>exact .cons (f _ _ r) ih
theorem zF.stay (x:zF P w H h a o) (k:∀b u,(b=a \/ H b=some (.own a))->h.get? b=some u->h'.get? b=some u)
  (ho:∀b,H b=some (.own a)->H' b=some (.own a)) (ht:∀b xs,H b=some (.tup xs)->H' b=some (.tup xs)):zF P w H' h' a o:=by
 induction o with
 | lst xs=>obtain⟨z,its,n,r,e⟩:=x; exact⟨z,its,n,r,k _ _ (.inl rfl) e⟩
 | tup xs=>obtain⟨z,its,r,ob,e,c⟩:=x; exact⟨z,its,r,ob,k _ _ (.inl rfl) e,c⟩
 | dK kvs=>obtain⟨z,y,vs,r,ob,es,ep,e,c⟩:=x; exact⟨z,y,vs,r,ob,es,ep,k _ _ (.inl rfl) e,c⟩
 | dT kvs=>
  obtain⟨z,y,xs,r,ob,es,ep,e,c⟩:=x;exact⟨z,y,xs,Paired.mapP r fun p q z=>⟨z.1,ht _ _ z.2.1,z.2.2⟩,ob,es,ep,k _ _ (.inl rfl) e,c⟩
 | set S n=>obtain⟨ob,es,ep,t,e,c⟩:=x; exact⟨ob,es,ep,t,k _ _ (.inl rfl) e,c⟩
 | ins C dx fs=>
  obtain⟨d,z,ne,e,mA,⟨od,es,ep,e2,c⟩,r⟩:=x;exact⟨ho _ d,z,ne,k _ _ (.inl rfl) e,mA,⟨od,es,ep,k _ _ (.inr d) e2,c⟩,r⟩
 | own y=>obtain⟨ob,e⟩:=x; exact⟨ob,k _ _ (.inl rfl) e⟩
 | xd fs=>obtain⟨mA,⟨od,es,ep,e,c⟩,r⟩:=x; exact⟨mA,⟨od,es,ep,k _ _ (.inl rfl) e,c⟩,r⟩
 | rng lo hi=>obtain⟨t,u,v,e⟩:=x; exact⟨t,u,v,k _ _ (.inl rfl) e⟩
 | frz ob u ih=>obtain⟨e,q⟩:=x; exact⟨k _ _ (.inl rfl) e,ih q⟩
 | tbl ps=>
  have e:h.get? a=some { cls:=.none,data:=.fields ps }:=x;show h'.get? a=some { cls:=.none,data:=.fields ps };exact k a _ (.inl rfl) e
 | met f y=>
  have e:h.get? a=some (PySem.W.methodObj (.ref f) (.ref y)):=x;show h'.get? a=some (PySem.W.methodObj (.ref f) (.ref y));exact k a _ (.inl rfl) e
 | ext φ=>obtain⟨p,⟨o,e⟩,st⟩:=x; exact⟨st _ _ p fun o q=>k _ _ (.inl rfl) q,⟨o,k _ _ (.inl rfl) e⟩,st⟩
theorem HOk.lt (x:HOk P w H h) (e:H a=some o):a<h.objs.size:=(x a o e).lt
theorem HOk.fresh (x:HOk P w H h) (e:h.objs.size<=a):H a=none:=by
 cases q:H a with
 | none=>rfl
 | some u=>exact absurd (AD (x.lt q) e) (Nat.lt_irrefl _)
theorem HOk.kept (x:HOk P w H h) (k:∀b u,h.get? b=some u->h'.get? b=some u):HOk P w H h':=fun a o e=>
 (x a o e).stay (fun b u _ q=>k b u q) (fun _ q=>q) fun _ _ q=>q
theorem HOk.laid (x:HOk P w H h) (k:∀b u,h.get? b=some u->h'.get? b=some u) (hp:h.objs.size<=a) (new:zF P w (upd H a o) h' a o):HOk P w (upd H a o) h':=fun b u e=>by
 have hn:=x.fresh hp
 by_cases hb:b=a
 ·subst hb; rw[upd_same] at e; cases e; exact new
 ·rw[zk hb] at e
  exact (x b u e).stay (fun c v _ q=>k c v q) (fun c q=>by rw[zk (zg q hn)]; exact q) fun c xs q=>by rw[zk (zg q hn)]; exact q
end
def Rd (H:Hp) (a:Addr) (u:HO):Prop:=H a=some u \/ ∃o,H a=some (.frz o u)
theorem Rd.of {H:Hp}{a:Addr}{u:HO} (h:H a=some u):Rd H a u:=.inl h
theorem Rd.ok {P:Program}{w:World}{H:Hp}{h:Heap}{a:Addr}{u:HO} (r:Rd H a u) (x:HOk P w H h):zF P w H h a u:=by
 rcases r with r | ⟨o,r⟩
 ·exact x a u r
 ·obtain⟨_,q⟩:=x a _ r
  exact q
def Mut:Option HO->Prop
 | some (.lst _)=>True
 | some (.dK _)=>True
 | some (.dT _)=>True
 | some (.set _ _)=>True
 | some (.ins _ _ _)=>True
 | some (.ext _)=>True
 | _=>False
section
variable {P:Program}{w:World}{H:Hp}{h h':Heap}{x e:Addr}{o':HO}
theorem HOk.write (ok:HOk P w H h) (mu:Mut (H x)) (he:e=x \/ H e=some (.own x)) (k:∀b u,b≠e->h.get? b=some u->h'.get? b=some u) (heo:∃u,h'.get? e=some u)
  (new:zF P w (upd H x o') h' x o'):HOk P w (upd H x o') h':=fun b u q=>by
 have nown:∀c y,H c=some (.own y)->c≠x:=fun c y r z=>by subst z; rw[r] at mu; exact mu
 have ntup:∀c xs,H c=some (.tup xs)->c≠x:=fun c xs r z=>by subst z; rw[r] at mu; exact mu
 by_cases hb:b=x
 ·subst hb; rw[upd_same] at q; cases q; exact new
 ·rw[zk hb] at q
  by_cases hbe:b=e
  ·have q':H b=some (.own x):=by
    rcases he with z | z
    ·exact absurd (hbe.trans z) hb
    ·rw[hbe]; exact z
   rw[q] at q'; cases q';obtain⟨v,hv⟩:=heo;exact⟨v,by rw[hbe]; exact hv⟩
  ·refine (ok b u q).stay (fun c v hc r=>k c v ?_ r) (fun c r=>by rw[zk (nown c b r)]; exact r) fun c xs r=>by rw[zk (ntup c xs r)]; exact r
   rcases hc with rfl | hc
   ·exact hbe
   ·rintro rfl
    rcases he with z | z
    ·exact nown c b hc z
    ·rw[hc] at z; cases z; exact hb rfl
end
structure Un (fs ex:List Addr) (H H':Hp) (h h':Heap):Prop where
 keep:∀b o,h.get? b=some o->H b=none->b∉fs->b∉ex->h'.get? b=some o
 slot:∀b o,h.get? b=some o->H b=none->b∈fs->b∉ex->∃sl,h'.get? b=some { o with slots:=sl }
 free:∀b o,h.get? b=some o->H b=none->b∉ex->H' b=none
 there:∀b o,h.get? b=some o->b∉ex->∃o',h'.get? b=some o'
 tups:∀b xs,H b=some (.tup xs)->H' b=some (.tup xs)
 frzs:∀b o u,H b=some (.frz o u)->H' b=some (.frz o u)
 tbls:∀b ps,H b=some (.tbl ps)->∃more,H' b=some (.tbl (ps++more))
section
variable {fs fs' ex ex':List Addr}{H H1 H2:Hp}{h h1 h2 h':Heap}{a x e:Addr}{o:HO}
theorem Un.any (u:Un fs ex H H1 h h1) {b:Addr}{ob:Obj} (q:h.get? b=some ob) (n:H b=none) (hx:b∉ex):∃sl,h1.get? b=some { ob with slots:=sl }:=by
 by_cases hb:b∈fs
 ·exact u.slot b ob q n hb hx
 ·exact⟨ob.slots,u.keep b ob q n hb hx⟩
theorem Un.kept (k:∀b u,h.get? b=some u->h'.get? b=some u):Un fs ex H H h h':=
 ⟨fun b ob q _ _ _=>k b ob q,fun b ob q _ _ _=>⟨ob.slots,k b ob q⟩,fun _ _ _ n _=>n,fun b ob q _=>⟨ob,k b ob q⟩,fun _ _ q=>q,fun _ _ _ q=>q,fun _ ps q=>⟨#[],by rw[q]; simp⟩⟩
theorem Un.refl:Un fs ex H H h h:=Un.kept fun _ _ q=>q
theorem Un.laid (k:∀b u,h.get? b=some u->h'.get? b=some u) (hp:h.objs.size<=a) (hn:H a=none):Un fs ex H (upd H a o) h h' where
 keep:=fun b u q _ _ _=>k b u q
 slot:=fun b u q _ _ _=>⟨u.slots,k b u q⟩
 free:=fun b u q n _=>by rw[zk (An (AD (Ah q) hp))]; exact n
 there:=fun b u q _=>⟨u,k b u q⟩
 tups:=fun b xs q=>by rw[zk (zg q hn)]; exact q
 frzs:=fun b u xs q=>by rw[zk (zg q hn)]; exact q
 tbls:=fun b ps q=>⟨#[],by rw[zk (zg q hn),q]; simp⟩
theorem Un.write (mu:Mut (H x)) (he:e=x \/ H e=some (.own x)) (k:∀b u,b≠e->h.get? b=some u->h'.get? b=some u) (heo:∃u,h'.get? e=some u):Un fs ex H (upd H x o) h h':=by
 have hx:∀b,H b=none->b≠x:=fun b n z=>by subst z; rw[n] at mu; exact mu
 have hb:∀b,H b=none->b≠e:=fun b n z=>by
  subst z;rcases he with r | r
  ·exact hx b n r
  ·rw[n] at r; cases r
 have hm:∀b u,H b=some u->¬ Mut (some u)->b≠x:=fun b u q nm z=>by subst z; rw[q] at mu; exact nm mu
 refine⟨fun b u q n _ _=>k b u (hb b n) q,fun b u q n _ _=>⟨u.slots,k b u (hb b n) q⟩,fun b u q n _=>by rw[zk (hx b n)]; exact n,fun b u q _=>?_,
  fun b xs q=>by rw[zk (hm b _ q fun z=>z)]; exact q,fun b u xs q=>by rw[zk (hm b _ q fun z=>z)]; exact q,fun b ps q=>⟨#[],by rw[zk (hm b _ q fun z=>z),q]; simp⟩⟩
 by_cases hbe:b=e
 ·subst hbe; exact heo
 ·exact⟨u,k b u hbe q⟩
end
def trk (h:Heap) (H:Hp):List Addr:=(Bc h.objs.size).filter fun a=>(H a).isSome
def hidT (h:Heap) (H:Hp):Heap:=PySem.W.hideAll h (trk h H)
theorem zg4 (h:Heap) (H:Hp):(hidT h H).objs.size=h.objs.size:=PySem.W.hideAll_size _ _
theorem zi5 {h:Heap}{H:Hp}{b:Addr}{o:Obj} (e:h.get? b=some o) (n:H b=none):(hidT h H).get? b=some o:=
 PySem.W.hideAll_get _ e fun hm=>by
  have q:(H b).isSome=true:=(List.mem_filter.mp hm).2;rw[n] at q; simp at q
theorem zlc {h:Heap}{H:Hp}{b:Addr}{o:Obj} (e:(hidT h H).get? b=some o):h.get? b=some o/\H b=none:=by
 have e':h.get? b=some o:=PySem.W.of_hideAll (trk h H) e;refine⟨e',?_⟩;cases q:H b with
 | none=>rfl
 | some x=>
  have hm:b∈trk h H:=List.mem_filter.mpr ⟨List.mem_range.mpr (Ah e'),by simp[q]⟩;have z:(hidT h H).get? b=none:=PySem.W.hideAll_none (trk h H) hm;rw[z] at e; cases e
def zlm (g h:Heap) (L:Addr):List (Addr×Obj):=(Bc h.objs.size).filterMap fun a=>if a=L \/ (g.get? a).isSome=true then none else (h.get? a).map fun o=>(a,o)
def rest (g h:Heap) (L d:Addr):List (Addr×Obj):=(zlm g h L).filter fun p=>decide (p.1≠d)
end L2
namespace L2
open PySem PySem.Spec PyProof.Rows
structure Mod (K:Ae) (mg:Str->Option Value) (base:Heap):Prop where
 kin:K.In base
 glob:base.Ns mainGlobals mg
 blt:∃mb,base.Ns builtinsNs mb/\∀x:Str,x≠"__name__"->mb x=A5 x
 nolimit:base.NoLimit
structure Cx where
 prog:Program
 w:World
 K:Ae
 mg:Str->Option Value
 base:Heap
 A:Around
 N:List Str
 s₀:Shared
 H₀:Hp
 env:Env
 outer:List Env
 stack:List Env
 ex:List Addr
 fn:Str->Bool
 calm:Bool
 pn:List (Addr×Obj)
 xe:Value->Shared->Prop
def frs (l:List Env):List Addr:=l.filterMap (·.frame)
abbrev Cx.fs (X:Cx):List Addr:=frs X.outer
def Vis (sc:Scope) (x:Str):Prop:=sc.names.lookup x=some .local \/ sc.names.lookup x=some .cell \/ sc.names.lookup x=some .free
def Loc (sc:Scope) (x:Str):Prop:=sc.names.lookup x=some .local \/ sc.names.lookup x=some .cell
def Look (env:Env) (h:Heap) (m:Str->Option Value) (x:Str) (u:Value):Prop:=
 (env.kindOf x=some .local/\m x=some u) \/ ((env.kindOf x=some .cell \/ env.kindOf x=some .free)/\∃c,env.cells.lookup x=some c/\h.IsCell c (some u))
structure Cx.Ok (X:Cx):Prop where
 mod:Mod X.K X.mg X.base
 kind:X.env.scope.kind=.function
 glob:X.env.globals=mainGlobals
 blt:X.env.builtins=builtinsNs
 above:X.s₀.heap.objs.size<=X.env.locals
 inj:∀x y c,X.env.cells.lookup x=some c->X.env.cells.lookup y=some c->x=y
 has:∀x,(X.env.kindOf x=some .cell \/ X.env.kindOf x=some .free)->∃c,X.env.cells.lookup x=some c
 cab:∀x c,X.fn x=true->X.env.cells.lookup x=some c->X.s₀.heap.objs.size<=c
 hd:X.calm=true->X.A.handled=none
 frames:X.A.frames=some X.stack
 stk:X.stack=X.outer \/ (X.stack=X.env::X.outer/\X.env.frame=some X.env.locals)
 exf:∀b∈X.ex,b≠X.env.locals/\∀x c,X.env.cells.lookup x=some c->c≠b
 bs:∀b o,X.base.get? b=some o->X.s₀.heap.get? b=some o/\X.H₀ b=none
 bsz:X.base.objs.size<=X.s₀.heap.objs.size
 noex:∀b o,X.base.get? b=some o->b∉X.ex
 exfs:∀b∈X.ex,b∉X.fs
 funs:X.s₀.heap.FunFrames X.base X.outer
 frf:∀b∈X.fs,X.H₀ b=none
structure Inv (X:Cx) (pins:List (Addr×Obj)) (σ:List (Option V)) (H:Hp) (s:Shared):Prop where
 ok:X.Ok
 os:s.os=X.s₀.os
 bare:AllBare s.gens
 base:Un X.fs X.ex X.H₀ H X.s₀.heap s.heap
 loc:∃m,s.heap.Ns X.env.locals m/\∀(i:Nat) (x:Str) (v:V),X.N[i]?=some x->σ[i]?=some (some v)->Vis X.env.scope x->∃u,RelV v u/\Look X.env s.heap m x u
 cell:∀x c,X.env.cells.lookup x=some c->∃v,s.heap.IsCell c v
 free:H X.env.locals=none
 freeC:∀x c,X.env.cells.lookup x=some c->H c=none
 pin:∀p∈X.pn++pins,s.heap.get? p.1=some p.2/\H p.1=none/\p.1≠X.env.locals/\p.1∉X.fs/\∀v,p.2.data≠.cell v
 hok:HOk X.prog X.w H s.heap
 len:σ.length=X.N.length
section
variable {X:Cx}{pins:List (Addr×Obj)}{σ:List (Option V)}{H H':Hp}{s:Shared}{h':Heap}
theorem Cx.Ok.nofr (ok:X.Ok) {b:Addr}{o:Obj} (e:X.base.get? b=some o):b∉X.fs:=fun hb=>by
 have:=(ok.funs.mem hb).1;rw[e] at this; cases this
theorem Inv.bs (I:Inv X pins σ H s):∀b o,X.base.get? b=some o->s.heap.get? b=some o/\H b=none:=fun b o e=>
 ⟨I.base.keep b o (I.ok.bs b o e).1 (I.ok.bs b o e).2 (I.ok.nofr e) (I.ok.noex b o e),I.base.free b o (I.ok.bs b o e).1 (I.ok.bs b o e).2 (I.ok.noex b o e)⟩
theorem Inv.bk (I:Inv X pins σ H s):∀b o,X.base.get? b=some o->s.heap.get? b=some o:=fun b o e=>(I.bs b o e).1
theorem Inv.mod (I:Inv X pins σ H s):Mod X.K X.mg X.base:=I.ok.mod
theorem Inv.kIn (I:Inv X pins σ H s):X.K.In s.heap:=I.ok.mod.kin.keeps I.bk
theorem Inv.nolimit (I:Inv X pins σ H s):s.heap.NoLimit:=I.ok.mod.nolimit.keeps I.bk
theorem Inv.fr (I:Inv X pins σ H s):∃m,Fr X.base X.env.locals s.heap m:=
 let ⟨m,hn,_⟩:=I.loc
 ⟨m,hn,I.bk,AF I.ok.bsz I.ok.above⟩
theorem Inv.lt (I:Inv X pins σ H s):X.env.locals<s.heap.objs.size:=let ⟨_,hn,_⟩:=I.loc; hn.lt
theorem Inv.sz (I:Inv X pins σ H s):X.s₀.heap.objs.size<=s.heap.objs.size:=AF I.ok.above (Nat.le_of_lt I.lt)
theorem Inv.nofs (I:Inv X pins σ H s) {a:Addr} (h:s.heap.objs.size<=a):a∉X.fs:=fun hb=>by
 obtain⟨_,o,ho,_⟩:=I.ok.funs.mem hb;exact absurd (AD (Ah ho) (AF I.sz h)) (Nat.lt_irrefl _)
theorem Inv.cne (I:Inv X pins σ H s):∀x c,X.env.cells.lookup x=some c->c≠X.env.locals:=fun x c e z=>by
 obtain⟨v,o,ho,hd⟩:=I.cell x c e;obtain⟨m,⟨o',es,ep,ho',hd',_⟩,_⟩:=I.loc;rw[z,ho'] at ho; cases ho; rw[hd'] at hd; cases hd
theorem Inv.funs (I:Inv X pins σ H s):s.heap.FunFrames X.base X.outer:=by
 have all:∀(l:List Env),(∀b∈frs l,b∈X.fs)->X.s₀.heap.FunFrames X.base l->s.heap.FunFrames X.base l:=by
  intro l
  induction l with
  | nil=>intro _ _; trivial
  | cons env r ih=>
   intro hs hl;obtain⟨hk,⟨L,o,hf,hn,ho,hd⟩,hr⟩:=hl;have hL:L∈X.fs:=hs L (by unfold frs; rw[List.filterMap_cons,hf]; exact AB);obtain⟨sl,e⟩:=I.base.slot L o ho (I.ok.frf L hL) hL fun z=>I.ok.exfs L z hL;exact⟨hk,⟨L,_,hf,hn,e,hd⟩,ih (fun b hb=>hs b (by unfold frs; rw[List.filterMap_cons,hf]; exact Ax _ hb)) hr⟩
 exact all X.outer (fun _ hb=>hb) I.ok.funs
theorem Inv.stack (I:Inv X pins σ H s):s.heap.FunFrames X.base X.stack:=by
 rcases I.ok.stk with e | ⟨e,hf⟩
 ·rw[e]; exact I.funs
 ·rw[e]
  obtain⟨m,hn,_⟩:=I.loc;refine .cons (by rw[I.ok.kind]; decide) hf hn ?_ I.funs;exact Heap.get?_none_of_le (AF I.ok.bsz I.ok.above)
theorem Inv.stkSub (I:Inv X pins σ H s):∀b∈frs X.stack,b∈X.env.locals::X.fs:=fun b hb=>by
 rcases I.ok.stk with e | ⟨e,hf⟩
 ·rw[e] at hb; exact Ax _ hb
 ·rw[e] at hb
  unfold frs at hb;rw[List.filterMap_cons,hf] at hb;exact hb
theorem Inv.stkFree (I:Inv X pins σ H s):∀b∈frs X.stack,H b=none:=fun b hb=>by
 rcases List.mem_cons.mp (I.stkSub b hb) with e | hb
 ·rw[e]; exact I.free
 ·obtain⟨_,o,ho,_⟩:=I.ok.funs.mem hb
  exact I.base.free b o ho (I.ok.frf b hb) fun z=>I.ok.exfs b z hb
theorem Inv.step {g':Array GenState}{t':Nat}{d':Drawn}{ch:List Addr} (I:Inv X pins σ H s)
  (hch:∀b∈ch,(b∈X.ex \/ X.s₀.heap.objs.size<=b)/\b≠X.env.locals/\(∀x c,X.env.cells.lookup x=some c->c≠b)/\∀p∈X.pn++pins,p.1≠b)
  (keep:∀b o,b≠X.env.locals->b∉X.fs->b∉ch->s.heap.get? b=some o->H b=none->h'.get? b=some o)
  (slot:∀b o,b≠X.env.locals->b∈X.fs->b∉ch->s.heap.get? b=some o->H b=none->∃sl,h'.get? b=some { o with slots:=sl }) (free:∀b o,b∉ch->s.heap.get? b=some o->H b=none->H' b=none)
  (there:∀b o,b∉ch->s.heap.get? b=some o->∃o',h'.get? b=some o')
  (tups:∀b xs,H b=some (.tup xs)->H' b=some (.tup xs)) (frzs:∀b o u,H b=some (.frz o u)->H' b=some (.frz o u)) (tbls:∀b ps,H b=some (.tbl ps)->∃more,H' b=some (.tbl (ps++more)))
  (ns:∀m,s.heap.Ns X.env.locals m->h'.Ns X.env.locals m) (hok:HOk X.prog X.w H' h') (hg:AllBare g') :
  Inv X pins σ H' { s with heap:=h',gens:=g',drawn:=d',toks:=t' }:=by
 have neL:∀b o,X.s₀.heap.get? b=some o->b≠X.env.locals:=fun b o e=>An (AD (Ah e) I.ok.above);have neC:∀b o,X.s₀.heap.get? b=some o->b∉X.ex->b∉ch:=fun b o e hx hb=>by
  rcases (hch b hb).1 with z | z
  ·exact hx z
  ·exact absurd (AD (Ah e) z) (Nat.lt_irrefl _)
 have cellK:∀x c,X.env.cells.lookup x=some c->∀v,s.heap.IsCell c v->h'.IsCell c v:=fun x c e v ⟨o,ho,hd⟩=>by
  have nch:c∉ch:=fun z=>(hch c z).2.2.1 x c e rfl
  by_cases hc:c∈X.fs
  ·obtain⟨sl,q⟩:=slot c o (I.cne x c e) hc nch ho (I.freeC x c e)
   exact⟨_,q,hd⟩
  ·exact⟨o,keep c o (I.cne x c e) hc nch ho (I.freeC x c e),hd⟩
 refine⟨I.ok,I.os,hg,⟨fun b o e n hb hx=>?_,fun b o e n hb hx=>?_,fun b o e n hx=>?_,fun b o e hx=>?_,fun b xs e=>tups b xs (I.base.tups b xs e),fun b o xs e=>frzs b o xs (I.base.frzs b o xs e),fun b ps e=>?_⟩,?_,fun x c e=>?_,?_,fun x c e=>?_,fun p hp=>?_,hok,I.len⟩
 ·exact keep b o (neL b o e) hb (neC b o e hx) (I.base.keep b o e n hb hx) (I.base.free b o e n hx)
 ·obtain⟨sl,e1⟩:=I.base.slot b o e n hb hx
  obtain⟨sl',e2⟩:=slot b _ (neL b o e) hb (neC b o e hx) e1 (I.base.free b o e n hx);exact⟨sl',e2⟩
 ·obtain⟨o',e1⟩:=I.base.there b o e hx
  exact free b o' (neC b o e hx) e1 (I.base.free b o e n hx)
 ·obtain⟨o',e1⟩:=I.base.there b o e hx
  exact there b o' (neC b o e hx) e1
 ·obtain⟨m1,e1⟩:=I.base.tbls b ps e
  obtain⟨m2,e2⟩:=tbls b _ e1;exact⟨m1++m2,by rw[e2,Array.append_assoc]⟩
 ·obtain⟨m,hn,hl⟩:=I.loc
  refine⟨m,ns m hn,fun i x v e1 e2 e3=>?_⟩;obtain⟨u,r,l⟩:=hl i x v e1 e2 e3;refine⟨u,r,?_⟩;rcases l with l | ⟨k,c,e,z⟩
  ·exact .inl l
  ·exact .inr ⟨k,c,e,cellK x c e _ z⟩
 ·obtain⟨v,z⟩:=I.cell x c e
  exact⟨v,cellK x c e v z⟩
 ·obtain⟨m,⟨o,_,_,ho,_⟩,_⟩:=I.loc
  exact free _ o (fun z=>(hch _ z).2.1 rfl) ho I.free
 ·obtain⟨v,o,ho,hd⟩:=I.cell x c e
  exact free c o (fun z=>(hch c z).2.2.1 x c e rfl) ho (I.freeC x c e)
 ·obtain⟨e,n,ne,nf,d⟩:=I.pin p hp
  have nch:p.1∉ch:=fun z=>(hch p.1 z).2.2.2 p hp rfl;exact⟨keep p.1 p.2 ne nf nch e n,free p.1 p.2 nch e n,ne,nf,d⟩
theorem Inv.un {t':Nat} (I:Inv X pins σ H s) (u:Un X.fs [] H H' s.heap h') (hok:HOk X.prog X.w H' h'):Inv X pins σ H' { s with heap:=h',toks:=t' }:=by
 obtain⟨m,⟨o,es,ep,ho,r⟩,_⟩:=id I.loc;obtain⟨sl,hL⟩:=u.any ho I.free (by simp);exact I.step (g':=s.gens) (d':=s.drawn) (ch:=[]) (fun _ z=>nomatch z) (fun b o _ hb _ e n=>u.keep b o e n hb (by simp)) (fun b o _ hb _ e n=>u.slot b o e n hb (by simp)) (fun b o _ e n=>u.free b o e n (by simp)) (fun b o _ e=>u.there b o e (by simp)) u.tups u.frzs u.tbls (fun m' hm=>by
  obtain⟨o',es',ep',ho',r'⟩:=hm;rw[ho] at ho'; cases ho';exact⟨_,es',ep',hL,r'⟩) hok I.bare
theorem Inv.call {g':Array GenState}{t':Nat}{d':Drawn}{ch:List Addr} (I:Inv X pins σ H s) (u:Un (frs X.stack) ch H H' s.heap h') (hok:HOk X.prog X.w H' h') (hg:AllBare g')
  (hch:∀b∈ch,(b∈X.ex \/ X.s₀.heap.objs.size<=b)/\b≠X.env.locals/\(∀x c,X.env.cells.lookup x=some c->c≠b)/\∀p∈X.pn++pins,p.1≠b) :
  Inv X pins σ H' { s with heap:=h',gens:=g',drawn:=d',toks:=t' }:=by
 obtain⟨m,⟨o,es,ep,ho,r⟩,_⟩:=id I.loc;obtain⟨sl,hL⟩:=u.any ho I.free fun z=>(hch _ z).2.1 rfl;exact I.step (ch:=ch) hch (fun b o hL hb hc e n=>u.keep b o e n (fun z=>(List.mem_cons.mp (I.stkSub b z)).elim hL hb) hc) (fun b o _ _ hc e n=>u.any e n hc) (fun b o hc e n=>u.free b o e n hc) (fun b o hc e=>u.there b o e hc) u.tups u.frzs u.tbls (fun m' hm=>by
  obtain⟨o',es',ep',ho',r'⟩:=hm;rw[ho] at ho'; cases ho';exact⟨_,es',ep',hL,r'⟩) hok hg
theorem Inv.turned {t':Nat}{it:Addr} (I:Inv X pins σ H s) (k:∀b o,b≠it->s.heap.get? b=some o->h'.get? b=some o) (hn:H it=none) (hL:it≠X.env.locals)
  (h1:it∈X.ex \/ X.s₀.heap.objs.size<=it) (h2:∀x c,X.env.cells.lookup x=some c->c≠it) (h3:∀p∈X.pn++pins,p.1≠it):Inv X pins σ H { s with heap:=h',toks:=t' }:=by
 have nit:∀b u,H b=some u->b≠it:=fun b u e z=>by rw[z,hn] at e; cases e
 refine I.step (g':=s.gens) (d':=s.drawn) (ch:=[it]) (fun b hb=>?_) (fun b o _ _ hc e _=>k b o (fun z=>hc (by simp[z])) e) (fun b o _ _ hc e _=>⟨o.slots,k b o (fun z=>hc (by simp[z])) e⟩) (fun _ _ _ _ n=>n)
  (fun b o hc e=>⟨o,k b o (fun z=>hc (by simp[z])) e⟩) (fun _ _ e=>e) (fun _ _ _ e=>e) (fun b ps e=>⟨#[],by rw[e]; simp⟩) (fun m hm=>?_) (fun b u e=>?_) I.bare
 ·have e:b=it:=by simpa using hb
  subst e;exact⟨h1,hL,h2,h3⟩
 ·obtain⟨o,es,ep,ho,r⟩:=hm
  exact⟨o,es,ep,k _ o (Ne.symm hL) ho,r⟩
 ·refine (I.hok b u e).stay (fun c v hc q=>k c v ?_ q) (fun _ q=>q) fun _ _ q=>q
  rcases hc with z | z
  ·rw[z]; exact nit b u e
  ·exact nit c _ z
theorem Inv.tok (I:Inv X pins σ H s) (t:Nat):Inv X pins σ H { s with toks:=t }:=I.un (h':=s.heap) (t':=t) Un.refl I.hok
theorem Inv.kept {t':Nat} (I:Inv X pins σ H s) (k:∀b u,s.heap.get? b=some u->h'.get? b=some u):Inv X pins σ H { s with heap:=h',toks:=t' }:=I.un (Un.kept k) (I.hok.kept k)
theorem Inv.laid {a:Addr}{o:HO}{t':Nat} (I:Inv X pins σ H s) (k:∀b u,s.heap.get? b=some u->h'.get? b=some u) (hp:s.heap.objs.size<=a) (new:zF X.prog X.w (upd H a o) h' a o) :
  Inv X pins σ (upd H a o) { s with heap:=h',toks:=t' }:=I.un (Un.laid k hp (I.hok.fresh hp)) (I.hok.laid k hp new)
theorem Inv.write {x e:Addr}{o:HO}{t':Nat} (I:Inv X pins σ H s) (mu:Mut (H x)) (he:e=x \/ H e=some (.own x)) (k:∀b u,b≠e->s.heap.get? b=some u->h'.get? b=some u) (heo:∃u,h'.get? e=some u)
  (new:zF X.prog X.w (upd H x o) h' x o):Inv X pins σ (upd H x o) { s with heap:=h',toks:=t' }:=I.un (Un.write mu he k heo) (I.hok.write mu he k heo new)
theorem Inv.pins_of {pins':List (Addr×Obj)} (I:Inv X pins σ H s) (h:∀p∈pins',s.heap.get? p.1=some p.2/\H p.1=none/\p.1≠X.env.locals/\p.1∉X.fs/\∀v,p.2.data≠.cell v):Inv X pins' σ H s:=
 ⟨I.ok,I.os,I.bare,I.base,I.loc,I.cell,I.free,I.freeC,fun p hp=>(List.mem_append.mp hp).elim (fun z=>I.pin p (List.mem_append_left _ z)) (h p),I.hok,I.len⟩
theorem zdh {N:List Str} (hN:N.Nodup) {i j:Nat}{x:Str} (a:N[i]?=some x) (b:N[j]?=some x):i=j:=by
 obtain⟨h1,e1⟩:=List.getElem?_eq_some_iff.mp a;obtain⟨h2,e2⟩:=List.getElem?_eq_some_iff.mp b;exact (List.getElem_inj hN).mp (e1.trans e2.symm)
theorem zdO {M:Model}{A:Around}{E:Value->Shared->Prop}{i:Nat}{x:Str}{v:V}{u:Value}{Q:Unit->Shared->Prop} (I:Inv X pins σ H s) (hN:X.N.Nodup) (hi:X.N[i]?=some x) (hx:Loc X.env.scope x) (r:RelV v u)
  (h:∀s',Inv X pins (σ.set i (some v)) H s'->(∃a,A2 a s.heap s'.heap/\(a=X.env.locals \/ X.env.cells.lookup x=some a))->Q () s') (hf:X.fn x=true \/ X.env.scope.names.lookup x=some .local:=by first | exact .inl rfl | exact .inr rfl | assumption):wpAny M A (storeName X.env x u) Q E s:=by
 obtain⟨m,hn,hl⟩:=id I.loc;have hcls:(X.env.scope.kind == .class || (X.env.scope.kind == .module && X.env.locals != X.env.globals))=false:=by rw[I.ok.kind]; rfl
 have hiσ:i<σ.length:=by rw[I.len]; exact (List.getElem?_eq_some_iff.mp hi).1
 have cne:=I.cne;have tracked:∀{a:Addr} {h':Heap},(∃o,s.heap.get? a=some o/\H a=none)->A2 a s.heap h'->HOk X.prog X.w H h':=fun {a h'} ha hs b ob e=>by
  obtain⟨_,_,hfree⟩:=ha;refine (I.hok b ob e).stay (fun c w' hc q=>(hs.2 c ?_).trans q) (fun _ q=>q) fun _ _ q=>q;rintro rfl;rcases hc with rfl | hc
  ·rw[hfree] at e; cases e
  ·rw[hfree] at hc; cases hc
 rcases hx with hk | hk
 ·refine wpAny_storeName_local hk hn (fun h' hn' hs=>?_) hcls
  obtain⟨oL,_,_,hoL,_⟩:=id hn;refine h _ ⟨I.ok,I.os,I.bare,⟨fun b o e n hb hx=>?_,fun b o e n hb hx=>?_,I.base.free,fun b o e hx=>?_,I.base.tups,I.base.frzs,I.base.tbls⟩,⟨_,hn',fun j y v' e1 e2 e3=>?_⟩,fun y c e=>?_,I.free,I.freeC,fun p hp=>?_,tracked ⟨oL,hoL,I.free⟩ hs,by simpa using I.len⟩ ⟨_,hs,.inl rfl⟩
  ·exact (hs.2 b (An (AD (Ah e) I.ok.above))).trans (I.base.keep b o e n hb hx)
  ·obtain⟨sl,e1⟩:=I.base.slot b o e n hb hx
   exact⟨sl,(hs.2 b (An (AD (Ah e) I.ok.above))).trans e1⟩
  ·obtain⟨o',e1⟩:=I.base.there b o e hx
   exact⟨o',(hs.2 b (An (AD (Ah e) I.ok.above))).trans e1⟩
  ·by_cases hj:j=i
   ·subst hj
    rw[hi] at e1; cases e1;rw[List.getElem?_set_self hiσ] at e2;cases e2;exact⟨u,r,.inl ⟨hk,by simp⟩⟩
   ·rw[List.getElem?_set_ne (Ne.symm hj)] at e2
    obtain⟨u',r',q⟩:=hl j y v' e1 e2 e3;refine⟨u',r',?_⟩;rcases q with ⟨k,e⟩ | ⟨k,c,e,z⟩
    ·refine .inl ⟨k,?_⟩
     have:y≠x:=fun e=>hj (zdh hN e1 (e ▸ hi));simp[this,e]
    ·exact .inr ⟨k,c,e,z.sameBut hs (cne y c e)⟩
  ·obtain⟨w',z⟩:=I.cell y c e
   exact⟨w',z.sameBut hs (cne y c e)⟩
  ·obtain⟨e,n,ne,nf,d⟩:=I.pin p hp
   exact⟨(hs.2 p.1 ne).trans e,n,ne,nf,d⟩
 ·have hfn:X.fn x=true:=by
   rcases hf with z | z
   ·exact z
   ·rw[z] at hk; cases hk
  obtain⟨c,hc⟩:=I.ok.has x (.inl hk);obtain⟨w',z⟩:=I.cell x c hc;refine wpAny_storeName_cell I.ok.kind hk hc z (fun h' hc' hs=>?_);obtain⟨oc,hoc,hocd⟩:=id z;refine h { s with heap:=h' } ⟨I.ok,I.os,I.bare,⟨fun b o e n hb hx=>?_,fun b o e n hb hx=>?_,I.base.free,fun b o e hx=>?_,I.base.tups,I.base.frzs,I.base.tbls⟩,⟨m,hn.sameBut hs (Ne.symm (cne x c hc)),fun j y v' e1 e2 e3=>?_⟩,fun y c' e=>?_,I.free,I.freeC,fun p hp=>?_,tracked ⟨oc,hoc,I.freeC x c hc⟩ hs,by simpa using I.len⟩ ⟨c,hs,.inr hc⟩
  ·exact (hs.2 b (An (AD (Ah e) (I.ok.cab x c hfn hc)))).trans (I.base.keep b o e n hb hx)
  ·obtain⟨sl,e1⟩:=I.base.slot b o e n hb hx
   exact⟨sl,(hs.2 b (An (AD (Ah e) (I.ok.cab x c hfn hc)))).trans e1⟩
  ·obtain⟨o',e1⟩:=I.base.there b o e hx
   exact⟨o',(hs.2 b (An (AD (Ah e) (I.ok.cab x c hfn hc)))).trans e1⟩
  ·by_cases hj:j=i
   ·subst hj
    rw[hi] at e1; cases e1;rw[List.getElem?_set_self hiσ] at e2;cases e2;exact⟨u,r,.inr ⟨.inl hk,c,hc,hc'⟩⟩
   ·rw[List.getElem?_set_ne (Ne.symm hj)] at e2
    obtain⟨u',r',q⟩:=hl j y v' e1 e2 e3;refine⟨u',r',?_⟩;rcases q with q | ⟨k,c',e,z'⟩
    ·exact .inl q
    ·refine .inr ⟨k,c',e,z'.sameBut hs ?_⟩
     rintro rfl;exact hj (zdh hN e1 (I.ok.inj _ _ _ e hc ▸ hi))
  ·by_cases hcc:c'=c
   ·subst hcc; exact⟨_,hc'⟩
   ·obtain⟨w2,z2⟩:=I.cell y c' e
    exact⟨w2,z2.sameBut hs hcc⟩
  ·obtain⟨e,n,ne,nf,d⟩:=I.pin p hp
   refine⟨(hs.2 p.1 ?_).trans e,n,ne,nf,d⟩;intro q;rw[q,hoc] at e;have q':oc=p.2:=Ao e;exact d w' (by rw[<- q']; exact hocd)
theorem zcm {M:Model}{A:Around}{E:Value->Shared->Prop}{i:Nat}{x:Str}{v:V}{u:Value}{Q:Unit->Shared->Prop} (I:Inv X pins σ H s) (hN:X.N.Nodup) (hi:X.N[i]?=some x) (hx:Loc X.env.scope x) (r:RelV v u)
  (h:∀s',Inv X pins (σ.set i (some v)) H s'->Q () s') (hf:X.fn x=true \/ X.env.scope.names.lookup x=some .local:=by first | exact .inl rfl | exact .inr rfl | assumption):wpAny M A (storeName X.env x u) Q E s:=
 zdO I hN hi hx r (fun s' I' _=>h s' I') hf
theorem Inv.call' {s':Shared}{ch:List Addr} (I:Inv X pins σ H s) (ho:s'.os=s.os) (u:Un (frs X.stack) ch H H' s.heap s'.heap) (hok:HOk X.prog X.w H' s'.heap) (hg:AllBare s'.gens)
  (hch:∀b∈ch,(b∈X.ex \/ X.s₀.heap.objs.size<=b)/\b≠X.env.locals/\(∀x c,X.env.cells.lookup x=some c->c≠b)/\∀p∈X.pn++pins,p.1≠b):Inv X pins σ H' s':=by
 obtain⟨h',g',d',t',o'⟩:=s';have e:o'=s.os:=ho;subst e;exact I.call (g':=g') (t':=t') (d':=d') u hok hg hch
end
abbrev XK:=Value->Option Addr->Hp->Prop
abbrev St:=List (Option V)
abbrev VK:=V->Hp->Prop
abbrev TE:=St->Hp->VK->Prop
abbrev TT:=St->Hp->(Bool->Hp->Prop)->Prop
abbrev TA:=St->Hp->(List V->Hp->Prop)->Prop
structure Ends where
 nx:St->Hp->Prop
 rt:VK
 bk:St->Hp->Prop:=fun _ _=>False
 ct:St->Hp->Prop:=fun _ _=>False
abbrev TS:=Ends->St->Hp->Prop
def EP (X:Cx) (pins:List (Addr×Obj)) (σ:St) (Q:VK) (u:Value) (s':Shared):Prop:=∃v H',Inv X pins σ H' s'/\RelV v u/\Q v H'
def TP (X:Cx) (pins:List (Addr×Obj)) (σ:St) (Q:Bool->Hp->Prop) (b:Bool) (s':Shared):Prop:=∃H',Inv X pins σ H' s'/\Q b H'
def AP (X:Cx) (pins:List (Addr×Obj)) (σ:St) (Q:List V->Hp->Prop) (us:List Value) (s':Shared):Prop:=∃vs H',Inv X pins σ H' s'/\Vals vs us/\Q vs H'
def SP (X:Cx) (pins:List (Addr×Obj)) (D:Ends) (f:Flow) (s':Shared):Prop:=
 match f with
 | .next=>∃σ' H',Inv X pins σ' H' s'/\D.nx σ' H'
 | .brk=>∃σ' H',Inv X pins σ' H' s'/\D.bk σ' H'
 | .cont=>∃σ' H',Inv X pins σ' H' s'/\D.ct σ' H'
 | .ret u=>∃v σ' H',Inv X pins σ' H' s'/\RelV v u/\D.rt v H'
def PE (X:Cx) (e:Expr) (t:TE):Prop:=
 ∀(pins:List (Addr×Obj)) (s:Shared) (σ:St) (H:Hp) (Q:VK),Inv X pins σ H s->t σ H Q->wpAny (model X.prog X.w) X.A (eval e X.env) (EP X pins σ Q) X.xe s
def PT (X:Cx) (e:Expr) (t:TT):Prop:=
 ∀(pins:List (Addr×Obj)) (s:Shared) (σ:St) (H:Hp) (Q:Bool->Hp->Prop),Inv X pins σ H s->t σ H Q->wpAny (model X.prog X.w) X.A (isTrue e X.env (eval e X.env)) (TP X pins σ Q) X.xe s
def PW (X:Cx) (e:Expr) (t:TT):Prop:=
 ∀(whole:Sem Value) (pins:List (Addr×Obj)) (s:Shared) (σ:St) (H:Hp) (Q:Bool->Hp->Prop),Inv X pins σ H s->t σ H Q->wpAny (model X.prog X.w) X.A (isTrue e X.env whole) (TP X pins σ Q) X.xe s
theorem PW.pt {X:Cx}{e:Expr}{t:TT} (h:PW X e t):PT X e t:=h _
def PA (X:Cx) (es:List Expr) (t:TA):Prop:=
 ∀(pos:Pos) (pins:List (Addr×Obj)) (s:Shared) (σ:St) (H:Hp) (Q:List V->Hp->Prop),Inv X pins σ H s->t σ H Q->wpAny (model X.prog X.w) X.A (spliced (backTo pos (starEach es X.env))) (AP X pins σ Q) X.xe s
def PS (X:Cx) (st:Stmt) (t:TS):Prop:=
 ∀(pins:List (Addr×Obj)) (s:Shared) (σ:St) (H:Hp) (D:Ends),Inv X pins σ H s->t D σ H->wpAny (model X.prog X.w) X.A (exec st X.env) (SP X pins D) X.xe s
def PSs (X:Cx) (st:List Stmt) (t:TS):Prop:=
 ∀(pins:List (Addr×Obj)) (s:Shared) (σ:St) (H:Hp) (D:Ends),Inv X pins σ H s->t D σ H->wpAny (model X.prog X.w) X.A (execs st X.env) (SP X pins D) X.xe s
theorem thn {α:Type}{t:Sem α}{Q Q':α->Shared->Prop}{M:Model}{A:Around}{E:Value->Shared->Prop}{s:Shared} (h:wpAny M A t Q E s) (hQ:∀a s,Q a s->Q' a s):wpAny M A t Q' E s:=Ba h hQ fun _ _ x=>x
end L2
namespace L2
open PySem PySem.Spec PyProof.Rows
section
variable {X:Cx}
def tVar (i:Nat):TE:=fun σ H Q=>∃v,σ[i]?=some (some v)/\Q v H
def tC (v:V):TE:=fun _ H Q=>Q v H
theorem zlL {i:Nat}{x:Str}{pos:Pos} (hN:X.N[i]?=some x) (hv:Vis X.env.scope x) (hd:(x == ("__debug__":Str))=false:=by decide) (hcd:(x == ("__classdict__":Str))=false:=by decide):PE X (.Name x pos) (tVar i):=by
 intro pins s σ H Q I h;obtain⟨v,e,h⟩:=h;obtain⟨m,hn,hl⟩:=I.loc;obtain⟨u,r,l⟩:=hl i x v hN e hv;have fin:EP X pins σ Q u s:=⟨v,H,I,r,h⟩;rcases l with ⟨hk,hm⟩ | ⟨hk,c,hc,hcell⟩
 ·exact wpAny_Name (wpAny_loadName_local I.ok.kind hk hn hm fin) hd
 ·rcases hk with hk | hk
  ·exact wpAny_Name (wpAny_loadName_cell I.ok.kind hk hc hcell fin) hd
  ·exact wpAny_Name (wpAny_loadName_free I.ok.kind hk hc hcell fin hcd) hd
theorem zf {i j pos}:PE X (.Constant (.int i) j pos) (tC (.int i)):=fun _ _ _ H _ I h=>wpAny_Constant_int ⟨.int i,H,I.tok _,⟨_,rfl⟩,h⟩
theorem zba {b j pos}:PE X (.Constant (.bool b) j pos) (tC (.bl b)):=fun _ _ _ H _ I h=>Constant_bool ⟨.bl b,H,I,rfl,h⟩
theorem zj7 {j pos}:PE X (.Constant .none j pos) (tC .non):=fun _ _ _ H _ I h=>Constant_none ⟨.non,H,I,rfl,h⟩
theorem pe_str {x j pos}:PE X (.Constant (.str x) j pos) (tC (.str x)):=fun _ _ _ H _ I h=>Calls.Constant_str ⟨.str x,H,I.tok _,⟨_,rfl⟩,h⟩
def Gl (X:Cx) (x:Str):Prop:=X.env.kindOf x=some .globalImplicit
theorem zcv {E:Value->Shared->Prop}{pins:List (Addr×Obj)}{s:Shared}{σ:St}{H:Hp}{x:Str}{u:Value}{pos:Pos}{Q:Value->Shared->Prop} (I:Inv X pins σ H s) (hg:Gl X x) (hm:X.mg x=some u) (h:Q u s)
  (hd:(x == ("__debug__":Str))=false:=by decide):wpAny (model X.prog X.w) X.A (eval (.Name x pos) X.env) Q E s:=
 Calls.Name_function_global I.ok.kind hg (Calls.loadGlobal_global (by rw[I.ok.glob]; exact I.mod.glob.keeps I.bk) hm h) hd
theorem zcr {E:Value->Shared->Prop}{pins:List (Addr×Obj)}{s:Shared}{σ:St}{H:Hp}{x:Str}{u:Value}{pos:Pos}{Q:Value->Shared->Prop} (I:Inv X pins σ H s) (hg:Gl X x) (hm:X.mg x=none) (hv:A5 x=some u) (h:Q u s)
  (hn:x≠"__name__":=by decide) (hd:(x == ("__debug__":Str))=false:=by decide):wpAny (model X.prog X.w) X.A (eval (.Name x pos) X.env) Q E s:=by
 obtain⟨mb,h1,h2⟩:=I.mod.blt;exact Calls.Name_function_global I.ok.kind hg (Calls.loadGlobal_builtin (by rw[I.ok.glob]; exact I.mod.glob.keeps I.bk) hm (by rw[I.ok.blt]; exact h1.keeps I.bk) ((h2 x hn).trans hv) h) hd
theorem zb0 {x:Str}{v:V}{u:Value}{pos:Pos} (hg:Gl X x) (hm:X.mg x=some u) (r:RelV v u) (hd:(x == ("__debug__":Str))=false:=by decide):PE X (.Name x pos) (tC v):=
 fun _ _ _ H _ I h=>zcv I hg hm ⟨v,H,I,r,h⟩ hd
theorem zb3 {x:Str}{v:V}{u:Value}{pos:Pos} (hg:Gl X x) (hm:X.mg x=none) (hv:A5 x=some u) (r:RelV v u) (hn:x≠"__name__":=by decide) (hd:(x == ("__debug__":Str))=false:=by decide):PE X (.Name x pos) (tC v):=
 fun _ _ _ H _ I h=>zcr I hg hm hv ⟨v,H,I,r,h⟩ hn hd
variable {a b:Expr}{ta tb:TE}{pos:Pos}
def PC (X:Cx) (op:CmpOp) (a b:Expr) (t:TE):Prop:=
 ∀(pins:List (Addr×Obj)) (s:Shared) (σ:St) (H:Hp) (Q:VK),Inv X pins σ H s->t σ H Q->
  wpAny (model X.prog X.w) X.A (eval a X.env) (fun v s₁=>wpAny (model X.prog X.w) X.A (eval b X.env) (fun u s₂=>wpAny (model X.prog X.w) X.A (compareOp op v u) (EP X pins σ Q) X.xe s₂) X.xe s₁) X.xe s
theorem nobehind (b:Expr) {op:CmpOp} (h:op≠.In) (h2:op≠.NotIn):behindInMarks op b=false:=by
 have e1:(op == CmpOp.In)=false:=by cases op <;> first | rfl | exact absurd rfl h
 have e2:(op == CmpOp.NotIn)=false:=by cases op <;> first | rfl | exact absurd rfl h2
 cases b <;> simp[behindInMarks,e1,e2]
def tB (t:TE):TT:=fun σ H Q=>t σ H fun x H1=>∃c,x=.bl c/\Q c H1
theorem zka {op:CmpOp}{t:TE} (h:PC X op a b t) (h1:behindInMarks op b=false:=by first | exact nobehind _ (by decide) (by decide) | rfl):PT X (.Compare a [op] [b] pos) (tB t):=by
 intro pins s σ H Q I hw;refine wpAny_isTrue_Compare1 (thn (h pins s σ H _ I hw) fun v s1 h1=>thn h1 fun u s2 h2=>thn h2 fun c s3 ⟨x,H1,I1,r1,q1⟩=>?_) h1;obtain⟨d,rfl,q⟩:=q1;cases r1;exact wpAny_truthy_bool ⟨H1,I1,q⟩
theorem zaY {e:Expr}{t:TE} (h:PE X e t) (he:∀whole,isTrue e X.env whole=(do let v <- whole; standAt e.pos; holding [v] (truthy v)):=by intro _; rfl):PT X e (tB t):=by
 intro pins s σ H Q I hw;refine isTrue_plain (thn (h pins s σ H _ I hw) fun v s1 ⟨x,H1,I1,r1,q1⟩=>?_) (he _);obtain⟨d,rfl,q⟩:=q1;cases r1;exact wpAny_truthy_bool ⟨H1,I1,q⟩
variable {tA tB':TT}{rest:List Expr}
def tAnd (t u:TT):TT:=fun σ H Q=>t σ H fun c H1=>if c=true then u σ H1 Q else Q false H1
def tOr (t u:TT):TT:=fun σ H Q=>t σ H fun c H1=>if c=true then Q true H1 else u σ H1 Q
def tNot (t:TT):TT:=fun σ H Q=>t σ H fun c H1=>Q (!c) H1
theorem zdq (ha:PT X a tA):PW X (.BoolOp .And [a] pos) tA:=by
 intro wh pins s σ H Q I h;refine isTrue_and (thn (ha pins s σ H Q I h) fun c s1 e=>?_);cases c with
 | true=>exact isTrue_and_nil e
 | false=>exact e
theorem zd6 (ha:PT X a tA):PW X (.BoolOp .Or [a] pos) tA:=by
 intro wh pins s σ H Q I h;refine isTrue_or (thn (ha pins s σ H Q I h) fun c s1 e=>?_);cases c with
 | false=>exact isTrue_or_nil e
 | true=>exact e
theorem zfY (ha:PT X a tA) (hb:PW X (.BoolOp .And (b::rest) pos) tB'):PW X (.BoolOp .And (a::b::rest) pos) (tAnd tA tB'):=by
 intro wh pins s σ H Q I h;refine isTrue_and (thn (ha pins s σ H _ I h) fun c s1 ⟨H1,I1,q1⟩=>?_);cases c with
 | true=>exact hb wh pins s1 σ H1 Q I1 q1
 | false=>exact⟨H1,I1,q1⟩
theorem zgy (ha:PT X a tA) (hb:PW X (.BoolOp .Or (b::rest) pos) tB'):PW X (.BoolOp .Or (a::b::rest) pos) (tOr tA tB'):=by
 intro wh pins s σ H Q I h;refine isTrue_or (thn (ha pins s σ H _ I h) fun c s1 ⟨H1,I1,q1⟩=>?_);cases c with
 | true=>exact⟨H1,I1,q1⟩
 | false=>exact hb wh pins s1 σ H1 Q I1 q1
theorem za1 (ha:PT X a tA):PT X (.UnaryOp .Not a pos) (tNot tA):=by
 intro pins s σ H Q I h;exact isTrue_not (ha pins s σ H (fun c H1=>Q (!c) H1) I h)
def zm3 (ta tb:TE):TE:=fun σ H Q=>ta σ H fun x H1=>∃c,x=.bl c/\if c=true then tb σ H1 Q else Q (.bl false) H1
def zmH (ta:TE):TE:=fun σ H Q=>ta σ H fun x H1=>∃c,x=.bl c/\Q (.bl (!c)) H1
theorem zj1 {op}{t:TE} (h:PE X a t):PE X (.BoolOp op [a] pos) t:=fun pins s σ H Q I hw=>BoolOp_one (h pins s σ H Q I hw)
theorem zjM (ha:PE X a ta) (hb:PE X (.BoolOp .And (b::rest) pos) tb):PE X (.BoolOp .And (a::b::rest) pos) (zm3 ta tb):=by
 intro pins s σ H Q I h;refine BoolOp_and (thn (ha pins s σ H _ I h) fun v s1 ⟨x,H1,I1,r1,q1⟩=>?_);obtain⟨c,rfl,q1⟩:=q1;cases r1;refine wpAny_truthy_bool ?_;cases c with
 | true=>exact hb pins s1 σ H1 Q I1 q1
 | false=>exact⟨.bl false,H1,I1,rfl,q1⟩
theorem zma (ha:PE X a ta):PE X (.UnaryOp .Not a pos) (zmH ta):=by
 intro pins s σ H Q I h;refine UnaryOp_ (thn (ha pins s σ H _ I h) fun v s1 ⟨x,H1,I1,r1,q1⟩=>?_);obtain⟨c,rfl,q1⟩:=q1;cases r1;exact not_of (wpAny_truthy_bool ⟨.bl (!c),H1,I1,rfl,q1⟩)
def tIf (t:TT) (ta tb:TE):TE:=fun σ H Q=>t σ H fun c H1=>if c=true then ta σ H1 Q else tb σ H1 Q
theorem zfD {c:Expr} (hc:PT X c tA) (ha:PE X a ta) (hb:PE X b tb):PE X (.IfExp c a b pos) (tIf tA ta tb):=by
 intro pins s σ H Q I h;refine wpAny_IfExp (thn (hc pins s σ H _ I h) fun d s1 ⟨H1,I1,q1⟩=>?_);cases d with
 | true=>exact ha pins s1 σ H1 Q I1 q1
 | false=>exact hb pins s1 σ H1 Q I1 q1
end
end L2
namespace L2
open PySem PySem.Spec PyProof.Rows
def SqL (K:Ae) (H:Hp) (a:Addr) (xs:List V):Prop:=
 Rd H a (.lst xs) \/
  ∃(o:Obj) (its:Array Value) (n:Nat),K.lookup a=some o/\o.cls=.type "list"/\o.dict=none/\o.data=.seq its n/\its.size<=sizeLine/\Vals xs its.toList
def SqT (K:Ae) (H:Hp) (a:Addr) (xs:List V):Prop:=
 Rd H a (.tup xs) \/
  ∃(o:Obj) (its:Array Value) (n:Nat),K.lookup a=some o/\o.cls=.type "tuple"/\o.data=.seq its n/\its.size<=sizeLine/\Vals xs its.toList
def absV:Value->Option V
 | .none=>some .non
 | .bool b=>some (.bl b)
 | .int i _=>some (.int i)
 | .str x _=>some (.str x)
 | .bytes b _=>some (.byt b)
 | .float b _=>some (.flt b)
 | .ref a=>some (.ref a)
 | .type n=>some (.ty n)
 | _=>none
theorem RelV.abs {x:V}{u:Value} (r:RelV x u):absV u=some x:=by
 cases x with
 | non=>cases r; rfl
 | bl _=>cases r; rfl
 | int _=>obtain⟨t,rfl⟩:=r; rfl
 | str _=>obtain⟨t,rfl⟩:=r; rfl
 | byt _=>obtain⟨t,rfl⟩:=r; rfl
 | flt _=>obtain⟨t,rfl⟩:=r; rfl
 | ref _=>cases r; rfl
 | ty _=>cases r; rfl
theorem RelV.inj {x y:V}{u:Value} (r:RelV x u) (q:RelV y u):x=y:=Ao (r.abs.symm.trans q.abs)
theorem Vals.inj {xs ys:List V}{us:List Value} (h:Vals xs us) (g:Vals ys us):xs=ys:=by
 induction h generalizing ys with
 | nil=>cases g; rfl
 | cons r t ih=>cases g with | cons r' t'=>rw[r.inj r',ih t']
section
variable {X:Cx}{pins:List (Addr×Obj)}{σ:St}{H:Hp}{s:Shared}{a:Addr}{xs ys:List V}
theorem SqL.of {K:Ae} (h:H a=some (.lst xs)):SqL K H a xs:=.inl (.inl h)
theorem SqT.of {K:Ae} (h:H a=some (.tup xs)):SqT K H a xs:=.inl (.inl h)
theorem Inv.list (I:Inv X pins σ H s) (h:SqL X.K H a xs):∃its:List Value,Vals xs its/\PlainL s.heap a its.toArray/\xs.length<=sizeLine:=by
 rcases h with h | ⟨o,its,n,hk,hc,hd,hs,hz,r⟩
 ·obtain⟨z,its,n,r,e⟩:=h.ok I.hok
  exact⟨its,r,⟨_,n,e,rfl,rfl,rfl⟩,z⟩
 ·refine⟨its.toList,r,⟨o,n,I.kIn a o hk,hc,hd,by simpa using hs⟩,?_⟩
  have e:=r.length;simp only[Az] at e;omega
theorem Inv.tuple (I:Inv X pins σ H s) (h:SqT X.K H a xs):∃its:List Value,Vals xs its/\IsTup s.heap a its.toArray/\xs.length<=sizeLine:=by
 rcases h with h | ⟨o,its,n,hk,hc,hs,hz,r⟩
 ·obtain⟨z,its,r,p⟩:=h.ok I.hok
  exact⟨its,r,p,z⟩
 ·refine⟨its.toList,r,⟨o,I.kIn a o hk,hc,n,by simpa using hs⟩,?_⟩
  have e:=r.length;simp only[Az] at e;omega
theorem Inv.list_inj (I:Inv X pins σ H s) (h:SqL X.K H a xs) (h':SqL X.K H a ys):xs=ys:=by
 obtain⟨its,r,⟨o,n,e,_,_,d⟩,_⟩:=I.list h;obtain⟨its',r',⟨o',n',e',_,_,d'⟩,_⟩:=I.list h';rw[e] at e'; cases e';rw[d] at d';injection d' with d1 _
 have:its=its':=by simpa using congrArg Array.toList d1
 subst this;exact r.inj r'
theorem Inv.tuple_inj (I:Inv X pins σ H s) (h:SqT X.K H a xs) (h':SqT X.K H a ys):xs=ys:=by
 obtain⟨its,r,⟨o,e,_,n,d⟩,_⟩:=I.tuple h;obtain⟨its',r',⟨o',e',_,n',d'⟩,_⟩:=I.tuple h';rw[e] at e'; cases e';rw[d] at d';injection d' with d1 _
 have:its=its':=by simpa using congrArg Array.toList d1
 subst this;exact r.inj r'
end
abbrev Cx.wish (X:Cx) (E:Value->Shared->Prop):Cx:={ X with xe:=E }
abbrev Cx.nox (X:Cx):Cx:=X.wish fun _ _=>False
theorem Cx.Ok.wish {X:Cx} (ok:X.Ok) (E:Value->Shared->Prop):(X.wish E).Ok:=
 ⟨ok.mod,ok.kind,ok.glob,ok.blt,ok.above,ok.inj,ok.has,ok.cab,ok.hd,ok.frames,ok.stk,ok.exf,ok.bs,ok.bsz,ok.noex,ok.exfs,ok.funs,ok.frf⟩
theorem Cx.Ok.unwish {X:Cx}{E:Value->Shared->Prop} (ok:(X.wish E).Ok):X.Ok:=
 ⟨ok.mod,ok.kind,ok.glob,ok.blt,ok.above,ok.inj,ok.has,ok.cab,ok.hd,ok.frames,ok.stk,ok.exf,ok.bs,ok.bsz,ok.noex,ok.exfs,ok.funs,ok.frf⟩
section
variable {X:Cx}{pins:List (Addr×Obj)}{σ:St}{H:Hp}{s:Shared}{E:Value->Shared->Prop}
theorem Inv.wish (I:Inv X pins σ H s) (E:Value->Shared->Prop):Inv (X.wish E) pins σ H s:=⟨I.ok.wish E,I.os,I.bare,I.base,I.loc,I.cell,I.free,I.freeC,I.pin,I.hok,I.len⟩
theorem Inv.unwish (I:Inv (X.wish E) pins σ H s):Inv X pins σ H s:=⟨I.ok.unwish,I.os,I.bare,I.base,I.loc,I.cell,I.free,I.freeC,I.pin,I.hok,I.len⟩
theorem SP.unwish {D:Ends}{f:Flow}{s':Shared} (h:SP (X.wish E) pins D f s'):SP X pins D f s':=by
 cases f with
 | next=>obtain⟨σ',H',I,q⟩:=h; exact⟨σ',H',I.unwish,q⟩
 | brk=>obtain⟨σ',H',I,q⟩:=h; exact⟨σ',H',I.unwish,q⟩
 | cont=>obtain⟨σ',H',I,q⟩:=h; exact⟨σ',H',I.unwish,q⟩
 | ret u=>obtain⟨v,σ',H',I,r,q⟩:=h; exact⟨v,σ',H',I.unwish,r,q⟩
theorem PSs.nox {st:List Stmt}{t:TS} (h:PSs X.nox st t):PSs X st t:=fun pins s σ H D I hw=>
 Ba (h pins s σ H D (I.wish _) hw) (fun _ _ q=>q.unwish) fun _ _ z=>False.elim z
end
section
variable {X:Cx}{st:Stmt}{rest:List Stmt}{t u:TS}{e:Expr}{te:TE}{pos:Pos}
def zmY:TS:=fun D σ H=>D.nx σ H
def tSeq (t u:TS):TS:=fun D σ H=>t { D with nx:=u D } σ H
theorem zv:PSs X [] zmY:=fun _ _ σ H _ I h=>wpAny_execs_nil ⟨σ,H,I,h⟩
theorem zb (h1:PS X st t) (h2:PSs X rest u):PSs X (st::rest) (tSeq t u):=by
 intro pins s σ H D I h;refine wpAny_execs_cons (thn (h1 pins s σ H { D with nx:=u D } I h) fun f s1 q=>?_);cases f with
 | next=>
  obtain⟨σ',H',I',q⟩:=q;exact h2 pins s1 σ' H' D I' q
 | ret v=>exact q
 | brk=>exact q
 | cont=>exact q
theorem ze (h1:PS X st t):PSs X [st] t:=by
 intro pins s σ H D I h;refine wpAny_execs_cons (thn (h1 pins s σ H D I h) fun f s1 q=>?_);cases f with
 | next=>exact wpAny_execs_nil q
 | ret v=>exact q
 | brk=>exact q
 | cont=>exact q
theorem Inv.quiet {pins:List (Addr×Obj)}{σ:St}{H:Hp}{s:Shared} (I:Inv X pins σ H s):interactive X.env=false:=by simp[interactive,I.ok.kind]
def zmV (te:TE):TS:=fun D σ H=>te σ H fun _ H1=>D.nx σ H1
theorem zaB (he:PE X e te) (hs:swapsWith e none pos.line X.env=pure false:=by rfl):PS X (.Expr e pos) (zmV te):=by
 intro pins s σ H D I h;exact wpAny_Expr_any (thn (he pins s σ H _ I h) fun v s1 ⟨x,H1,I1,r1,q1⟩=>⟨σ,H1,I1,q1⟩) I.quiet hs
def tRet (te:TE):TS:=fun D σ H=>te σ H D.rt
theorem zt (he:PE X e te):PS X (.Return (some e) pos) (tRet te):=by
 intro pins s σ H D I h;exact wpAny_Return_some (thn (he pins s σ H _ I h) fun v s1 ⟨x,H1,I1,r1,q1⟩=>⟨x,σ,H1,I1,r1,q1⟩)
def tIfS (c:TT) (t u:TS):TS:=fun D σ H=>c σ H fun b H1=>if b=true then t D σ H1 else u D σ H1
theorem zU {c:Expr}{a b:List Stmt}{tc:TT} (hc:PT X c tc) (ha:PSs X a t) (hb:PSs X b u):PS X (.If c a b pos) (tIfS tc t u):=by
 intro pins s σ H D I h;refine wpAny_If (thn (hc pins s σ H _ I h) fun d s1 ⟨H1,I1,q1⟩=>?_);cases d with
 | true=>exact ha pins s1 σ H1 D I1 q1
 | false=>exact hb pins s1 σ H1 D I1 q1
def zmD:TS:=fun _ _ _=>False
theorem zbN {sts:List Stmt}:PSs X sts zmD:=fun _ _ _ _ _ _ h=>h.elim
end
abbrev TG:=V->St->Hp->(St->Hp->Prop)->Prop
abbrev TGs:=List V->St->Hp->(St->Hp->Prop)->Prop
def PG (X:Cx) (target:Expr) (t:TG):Prop:=
 ∀(pins:List (Addr×Obj)) (s:Shared) (σ:St) (H:Hp) (v:V) (u:Value) (Q:St->Hp->Prop),Inv X pins σ H s->RelV v u->t v σ H Q->
  wpAny (model X.prog X.w) X.A (assign target X.env u) (fun _ s'=>∃σ' H',Inv X pins σ' H' s'/\Q σ' H') X.xe s
def PGs (X:Cx) (ts:List Expr) (t:TGs):Prop:=
 ∀(pins:List (Addr×Obj)) (s:Shared) (σ:St) (H:Hp) (vs:List V) (us:List Value) (Q:St->Hp->Prop),Inv X pins σ H s->Vals vs us->t vs σ H Q->
  wpAny (model X.prog X.w) X.A (assignInOrder ((assignEach ts X.env).map (·.2)) us) (fun _ s'=>∃σ' H',Inv X pins σ' H' s'/\Q σ' H') X.xe s
abbrev TSet:=V->V->V->Hp->(Hp->Prop)->Prop
def PSet (X:Cx) (t:TSet):Prop:=
 ∀(pins:List (Addr×Obj)) (s:Shared) (σ:St) (H:Hp) (o i v:V) (ov iv u:Value) (Q:Hp->Prop),Inv X pins σ H s->RelV o ov->RelV i iv->RelV v u->t o i v H Q->
  wpAny (model X.prog X.w) X.A (setItem ov iv u) (fun _ s'=>∃H',Inv X pins σ H' s'/\Q H') X.xe s
section
variable {X:Cx}{pos:Pos}
def zai (i:Nat):TG:=fun v σ H Q=>Q (σ.set i (some v)) H
theorem zm {i:Nat}{x:Str} (hN:X.N.Nodup) (hi:X.N[i]?=some x) (hx:Loc X.env.scope x) (hf:X.fn x=true \/ X.env.scope.names.lookup x=some .local:=by first | exact .inl rfl | exact .inr rfl | assumption):PG X (.Name x pos) (zai i):=by
 intro pins s σ H v u Q I r h;exact wpAny_assign_Name (zcm I hN hi hx r (fun s' I'=>⟨_,H,I',h⟩) hf)
def gNil:TGs:=fun vs σ H Q=>vs=[]/\Q σ H
def zky (t:TG) (u:TGs):TGs:=fun vs σ H Q=>∃v r,vs=v::r/\t v σ H fun σ' H'=>u r σ' H' Q
theorem zeC:PGs X [] gNil:=by
 intro pins s σ H vs us Q I r h;obtain⟨e,h⟩:=h;subst e;cases r;exact assignInOrder_nil ⟨σ,H,I,h⟩
theorem zaO {e:Expr}{es:List Expr}{t:TG}{u:TGs} (h1:PG X e t) (h2:PGs X es u)
  (hs:(assignEach (e::es) X.env).map (·.2)=assign e X.env::(assignEach es X.env).map (·.2):=by rfl):PGs X (e::es) (zky t u):=by
 intro pins s σ H vs us Q I r h;obtain⟨v,vr,e1,h⟩:=h;subst e1;cases r with
 | cons r rr=>
  rw[hs];refine assignInOrder_cons (thn (h1 pins s σ H _ _ _ I r h) fun _ s1 ⟨σ1,H1,I1,q1⟩=>?_);exact h2 pins s1 σ1 H1 _ _ Q I1 rr q1
def gTup (K:Ae) (n:Nat) (t:TGs):TG:=fun v σ H Q=>∃a xs,v=.ref a/\SqT K H a xs/\xs.length=n/\t xs σ H Q
theorem zhM {es:List Expr}{k:Nat}{t:TGs}{n:Nat} (hc:X.calm=true) (h:PGs X es t)
  (hn:(assignEach es X.env).length=n:=by rfl) (hst:(assignEach es X.env).findIdx? (·.1)=none:=by rfl):PG X (.Tuple es k pos) (gTup X.K n t):=by
 intro pins s σ H v u Q I r hw;obtain⟨a,xs,e1,hq,hl,hw⟩:=hw;subst e1;cases r;obtain⟨its,rv,ht,hz⟩:=I.tuple hq;refine assign_Tuple_tuple (I.ok.hd hc) ht (by simp[hn,<- hl,rv.length]) hst fun h' hx=>?_;have I1:Inv X pins σ H { s with heap:=h' }:=I.kept (t':=s.toks) fun b o e=>hx b o (An (Ah e)) e;exact h pins _ σ H xs _ Q I1 (by simpa using rv) hw
def gSub (to ti:TE) (t:TSet):TG:=fun v σ H Q=>to σ H fun o H1=>ti σ H1 fun i H2=>t o i v H2 fun H3=>Q σ H3
theorem zjI {o i:Expr}{to ti:TE}{t:TSet} (ho:PE X o to) (hi:PE X i ti) (hs:PSet X t)
  (ha:∀v,assign (.Subscript o i pos) X.env v=(do
   let ov <- holding [v] (eval o X.env)
   let iv <- holding [v,ov] (eval i X.env)
   standAt pos
   holding [v,ov,iv] (setItem ov iv v)
   release [v,ov,iv] []):=by intro _; rfl):PG X (.Subscript o i pos) (gSub to ti t):=by
 intro pins s σ H v u Q I r h;rw[ha];refine Aa (AJ (thn (ho pins s σ H _ I h) fun ov s1 ⟨x,H1,I1,r1,q1⟩=>?_));refine Aa (AJ (thn (hi pins s1 σ H1 _ I1 q1) fun iv s2 ⟨y,H2,I2,r2,q2⟩=>?_));refine Aa (wpAny_standAt (Aa (AJ (thn (hs pins s2 σ H2 x y v ov iv u _ I2 r1 r2 r q2) fun _ s3 ⟨H3,I3,q3⟩=>?_))));exact wpAny_release ⟨σ,H3,I3,q3⟩
def tAsg (te:TE) (g:TG):TS:=fun D σ H=>te σ H fun x H1=>g x σ H1 D.nx
theorem zfW {tg e:Expr}{te:TE}{g:TG} (he:PE X e te) (hg:PG X tg g) (hs:swapsWithSole [tg] e pos.line X.env=pure false:=by rfl) (hw:swappedStores [tg] e X.env=pure none:=by rfl)
  (h1:(assignEach [tg] X.env).map (·.2)=[assign tg X.env]:=by rfl):PS X (.Assign [tg] e pos) (tAsg te g):=by
 intro pins s σ H D I h;refine wpAny_Assign_stores (thn (he pins s σ H _ I h) fun v s1 ⟨x,H1,I1,r1,q1⟩=>?_) hs hw;rw[h1];exact thn (hg pins s1 σ H1 x v _ I1 r1 q1) fun _ s2 q=>q
theorem zn {i:Nat}{x:Str}{e:Expr}{te:TE}{pos':Pos} (hN:X.N.Nodup) (hi:X.N[i]?=some x) (hx:Loc X.env.scope x) (he:PE X e te) (hs:swapsWith e (some (.Name x pos')) pos.line X.env=pure false:=by rfl) (hf:X.fn x=true \/ X.env.scope.names.lookup x=some .local:=by first | exact .inl rfl | exact .inr rfl | assumption) :
  PS X (.Assign [.Name x pos'] e pos) (tAsg te (zai i)):=by
 intro pins s σ H D I h;refine wpAny_Assign_Name (thn (he pins s σ H _ I h) fun v s1 ⟨y,H1,I1,r1,q1⟩=>?_) hs;exact zcm I1 hN hi hx r1 (fun s2 I2=>⟨_,H1,I2,q1⟩) hf
end
section
variable {X:Cx}{pos:Pos}
end
structure It where
 go:Nat->Hp->Prop
 yld:Nat->Hp->V->Hp->Prop
 stop:Nat->Hp->Prop
def FpOk (X:Cx) (pins:List (Addr×Obj)) (H:Hp) (b:Addr):Prop:=
 H b=none/\b≠X.env.locals/\b∉X.fs/\(b∈X.ex \/ X.s₀.heap.objs.size<=b)/\(∀x c,X.env.cells.lookup x=some c->c≠b)/\∀p∈X.pn++pins,p.1≠b
theorem Inv.fpOk {X:Cx}{pins:List (Addr×Obj)}{σ:St}{H H':Hp}{s:Shared}{b:Addr} (I:Inv X pins σ H s) (hb:s.heap.objs.size<=b) (hn:H' b=none):FpOk X pins H' b:=by
 refine⟨hn,Nat.ne_of_gt (AD I.lt hb),I.nofs hb,.inr (AF I.sz hb),fun x c e z=>?_,fun p hp z=>?_⟩
 ·obtain⟨v,q⟩:=I.cell x c e
  exact absurd (AD q.lt (by rw[z]; exact hb)) (Nat.lt_irrefl _)
 ·exact absurd (AD (Ah (I.pin p hp).1) (by rw[z]; exact hb)) (Nat.lt_irrefl _)
structure Turn (P:Program) (w:World) (K:Ae) (tg:Expr) (J:It) (fp:List Addr) (it:Addr) (tn:Nat->Heap->Prop):Prop where
 mem:it∈fp
 obj:∀i h,tn i h->∀b∈fp,∃o,h.get? b=some o/\∀v,o.data≠.cell v
 keep:∀i h h',tn i h->(∀b∈fp,∀o,h.get? b=some o->h'.get? b=some o)->tn i h'
 item:∀(X:Cx),X.prog=P->X.w=w->X.K=K->X.calm=true->∀(i:Nat) (pins:List (Addr×Obj)) (s:Shared) (σ:St) (H:Hp) (E:Value->Shared->Prop),Inv X pins σ H s->(∀b∈fp,FpOk X pins H b)->tn i s.heap->J.go i H->
  wpAny (model P w) X.A (pyNext (.ref it)) (fun r s1=>∃u,r=some u/\
   wpAny (model P w) X.A (letOwnedTupleGo tg (.ref it) u) (fun _ s2=>∃x H',Inv X pins σ H' s2/\RelV x u/\J.yld i H x H'/\tn (i+1) s2.heap/\∀b∈fp,H' b=none) E s1) E s
 done:∀(X:Cx),X.prog=P->X.w=w->X.K=K->X.calm=true->∀(i:Nat) (pins:List (Addr×Obj)) (s:Shared) (σ:St) (H:Hp) (E:Value->Shared->Prop),Inv X pins σ H s->(∀b∈fp,FpOk X pins H b)->tn i s.heap->J.stop i H->
  wpAny (model P w) X.A (pyNext (.ref it)) (fun r s1=>r=none/\Inv X pins σ H s1) E s
 self:∀(A:Around) (i:Nat) (s:Shared) (Q:Value->Shared->Prop) (E:Value->Shared->Prop),tn i s.heap->Q (.ref it) s->wpAny (model P w) A (pyIter (.ref it)) Q E s
abbrev TI:=St->Hp->(It->Hp->Prop)->Prop
def PIE (X:Cx) (pins:List (Addr×Obj)) (σ:St) (tg:Expr) (R:It->Hp->Prop) (itv:Value) (s2:Shared):Prop:=
 ∃(it:Addr) (fp:List Addr) (tn:Nat->Heap->Prop) (J:It) (H':Hp),itv=.ref it/\Inv X pins σ H' s2/\Turn X.prog X.w X.K tg J fp it tn/\tn 0 s2.heap/\(∀b∈fp,FpOk X pins H' b)/\R J H'
def PI (X:Cx) (tg iter:Expr) (wi:TI):Prop:=
 ∀(pins:List (Addr×Obj)) (s:Shared) (σ:St) (H:Hp) (R:It->Hp->Prop),Inv X pins σ H s->wi σ H R->
  wpAny (model X.prog X.w) X.A (eval iter X.env) (fun v s1=>wpAny (model X.prog X.w) X.A (pyIter v) (PIE X pins σ tg R) X.xe s1) X.xe s
theorem zho {M:Model}{A:Around}{E:Value->Shared->Prop}{s:Shared}{tg:Expr}{it:Addr}{u:Value}{o:Obj}{n:String}{vs:Array Value}{Q:Unit->Shared->Prop} (ho:s.heap.get? it=some o) (hc:o.cls=.type n) (hd:o.data=.fields vs)
  (hn:["enumerate","zip","dict_itemiterator","dict_reverseitemiterator","odict_iterator","itertools.zip_longest","itertools.pairwise"].contains n=false) (hQ:Q () s):wpAny M A (letOwnedTupleGo tg (.ref it) u) Q E s:=by
 unfold letOwnedTupleGo;cases tg <;> first
  | exact Ac hQ
  | (cases u <;> first
    | exact Ac hQ
    | (refine Aa (wpAny_load ho ?_); rw[hc,hd]; show wpAny M A (if (["enumerate","zip","dict_itemiterator","dict_reverseitemiterator","odict_iterator","itertools.zip_longest","itertools.pairwise"].contains n && vs[0]? == some (rawInt _))=true then _ else _) Q E s; rw[if_neg (by intro h; rw[hn,Bool.false_and] at h; cases h)]; exact Ac hQ))
def Itl (K:Ae) (a:Addr):It:=
 ⟨fun i H=>∃xs x,SqL K H a xs/\xs[i]?=some x,fun i H x H'=>H'=H/\∀xs,SqL K H a xs->xs[i]?=some x,fun i H=>∃xs,SqL K H a xs/\xs.length<=i⟩
def Itt (K:Ae) (a:Addr):It:=
 ⟨fun i H=>∃xs x,SqT K H a xs/\xs[i]?=some x,fun i H x H'=>H'=H/\∀xs,SqT K H a xs->xs[i]?=some x,fun i H=>∃xs,SqT K H a xs/\xs.length<=i⟩
def Itr (lo:Int) (n:Nat):It:=⟨fun i _=>i<n,fun i H x H'=>H'=H/\x=.int (lo+i),fun i _=>n<=i⟩
theorem zgN {P:Program}{w:World}{K:Ae}{tg:Expr} (a it:Addr):Turn P w K tg (Itl K a) [it] it (fun i h=>h.IsListIter it a i) where
 mem:=by simp
 obj:=fun i h st b hb=>by
  have e:b=it:=by simpa using hb
  subst e;obtain⟨o,e,c,d⟩:=st;exact⟨o,e,fun v z=>by rw[d] at z; cases z⟩
 keep:=fun i h h' st k=>st.at fun o e=>k it (by simp) o e
 item:=by
  intro X hP hw hK hc i pins s σ H E I hf st hg;subst hP hw hK;obtain⟨xs,x,hq,hx⟩:=hg;obtain⟨its,rv,p,hz⟩:=I.list hq;obtain⟨u,hu,ru⟩:=rv.get hx;obtain⟨f0,f1,f2,f3,f4,f5⟩:=hf it (by simp);refine wpAny_pyNext_list_item st p.isList (x:=u) (by simpa using hu) fun h' st' sb=>?_;have I1:Inv X pins σ H { s with heap:=h' }:=I.turned (t':=s.toks) (fun b o hb e=>(sb.2 b hb).trans e) f0 f1 f3 f4 f5;obtain⟨o,e,c,d⟩:=id st';exact⟨u,rfl,zho (s:={ s with heap:=h' }) e c d (by decide) ⟨x,H,I1,ru,⟨rfl,fun ys hy=>by rw[I.list_inj hy hq]; exact hx⟩,st',fun b hb=>(hf b hb).1⟩⟩
 done:=by
  intro X hP hw hK hc i pins s σ H E I hf st hg;subst hP hw hK;obtain⟨xs,hq,hx⟩:=hg;obtain⟨its,rv,p,hz⟩:=I.list hq;obtain⟨f0,f1,f2,f3,f4,f5⟩:=hf it (by simp);have hl:=rv.length;exact wpAny_pyNext_list_end (I.ok.hd hc) st p.isList (by simp; omega) fun h' eb=>⟨rfl,I.turned (t':=s.toks) (fun b o hb e=>eb b o hb e) f0 f1 f3 f4 f5⟩
 self:=fun _ _ _ _ _ st h=>wpAny_pyIter_listiter st h
theorem zf3 {P:Program}{w:World}{K:Ae}{tg:Expr} (a it:Addr):Turn P w K tg (Itt K a) [it] it (fun i h=>h.IsTupleIter it a i) where
 mem:=by simp
 obj:=fun i h st b hb=>by
  have e:b=it:=by simpa using hb
  subst e;obtain⟨o,e,c,d⟩:=st;exact⟨o,e,fun v z=>by rw[d] at z; cases z⟩
 keep:=fun i h h' st k=>st.at fun o e=>k it (by simp) o e
 item:=by
  intro X hP hw hK hc i pins s σ H E I hf st hg;subst hP hw hK;obtain⟨xs,x,hq,hx⟩:=hg;obtain⟨its,rv,p,hz⟩:=I.tuple hq;obtain⟨u,hu,ru⟩:=rv.get hx;obtain⟨f0,f1,f2,f3,f4,f5⟩:=hf it (by simp);refine wpAny_pyNext_tuple_item st (show s.heap.IsTuple a its.toArray from p) (x:=u) (by simpa using hu) fun h' st' sb=>?_;have I1:Inv X pins σ H { s with heap:=h' }:=I.turned (t':=s.toks) (fun b o hb e=>(sb.2 b hb).trans e) f0 f1 f3 f4 f5;obtain⟨o,e,c,d⟩:=id st';exact⟨u,rfl,zho (s:={ s with heap:=h' }) e c d (by decide) ⟨x,H,I1,ru,⟨rfl,fun ys hy=>by rw[I.tuple_inj hy hq]; exact hx⟩,st',fun b hb=>(hf b hb).1⟩⟩
 done:=by
  intro X hP hw hK hc i pins s σ H E I hf st hg;subst hP hw hK;obtain⟨xs,hq,hx⟩:=hg;obtain⟨its,rv,p,hz⟩:=I.tuple hq;obtain⟨f0,f1,f2,f3,f4,f5⟩:=hf it (by simp);have hl:=rv.length;exact wpAny_pyNext_tuple_end (I.ok.hd hc) st (show s.heap.IsTuple a its.toArray from p) (by simp; omega) fun h' eb=>⟨rfl,I.turned (t':=s.toks) (fun b o hb e=>eb b o hb e) f0 f1 f3 f4 f5⟩
 self:=fun _ _ _ _ _ st h=>wpAny_pyIter_tupleiter st h
theorem zgl {P:Program}{w:World}{K:Ae}{tg:Expr} (it:Addr) (lo:Int) (n:Nat):Turn P w K tg (Itr lo n) [it] it (fun i h=>IsRangeIter h it (lo+(i:Nat)*1) ((n:Int) - (i:Nat)) 1) where
 mem:=by simp
 obj:=fun i h st b hb=>by
  have e:b=it:=by simpa using hb
  subst e;exact⟨_,st,fun v z=>by
   have z':Data.fields _=Data.cell v:=z;cases z'⟩
 keep:=fun i h h' st k=>k it (by simp) _ st
 item:=by
  intro X hP hw hK hc i pins s σ H E I hf st hg;subst hP hw hK;obtain⟨f0,f1,f2,f3,f4,f5⟩:=hf it (by simp);have W:=Walks.range (prog:=X.prog) (w:=X.w) (I.ok.hd hc) it lo 1 n;refine W.item i s _ _ hg st fun v h' tk hv st' kk=>?_;obtain⟨t,rfl⟩:=hv;have I1:Inv X pins σ H { s with heap:=h',toks:=tk }:=I.turned (fun b o hb e=>kk b o (by simpa using hb) e) f0 f1 f3 f4 f5;refine⟨_,rfl,zho (s:={ s with heap:=h',toks:=tk }) (n:="range_iterator") st' rfl rfl (by decide) ⟨.int (lo+i),H,I1,⟨t,?_⟩,⟨rfl,rfl⟩,st',fun b hb=>(hf b hb).1⟩⟩;rw[Int.mul_one]
 done:=by
  intro X hP hw hK hc i pins s σ H E I hf st hg;subst hP hw hK;obtain⟨f0,f1,f2,f3,f4,f5⟩:=hf it (by simp);exact wpAny_pyNext_range_end (I.ok.hd hc) st (by have:n<=i:=hg; omega) fun h' eb=>⟨rfl,I.turned (t':=s.toks) (fun b o hb e=>eb b o hb e) f0 f1 f3 f4 f5⟩
 self:=fun _ _ _ _ _ st h=>wpAny_pyIter_rangeiter st h
end L2
namespace L2
open PySem PySem.Spec PyProof.Rows
section
variable {X:Cx}{tg:Expr}
def zmW (K:Ae) (tl:TE):TI:=fun σ H R=>tl σ H fun x H1=>∃a,x=.ref a/\(∃xs,SqL K H1 a xs)/\R (Itl K a) H1
def iTup (K:Ae) (tl:TE):TI:=fun σ H R=>tl σ H fun x H1=>∃a,x=.ref a/\(∃xs,SqT K H1 a xs)/\R (Itt K a) H1
theorem zw {l:Expr}{tl:TE} (hl:PE X l tl):PI X tg l (zmW X.K tl):=by
 intro pins s σ H R I h;refine thn (hl pins s σ H _ I h) fun v s1 ⟨x,H1,I1,r1,q1⟩=>?_;obtain⟨a,e,⟨xs,hq⟩,q⟩:=q1;subst e;cases r1;obtain⟨its,rv,p,hz⟩:=I1.list hq;refine wpAny_pyIter_list p.isList ?_;refine⟨s1.heap.objs.size,[s1.heap.objs.size],_,_,H1,rfl,I1.kept (t':=s1.toks) fun b o e=>Ad _ e,zgN a _,⟨_,Al _ rfl,rfl,rfl⟩,fun b hb=>?_,q⟩;have e:b=s1.heap.objs.size:=by simpa using hb
 subst e;exact I1.fpOk (Af _) (I1.hok.fresh (Af _))
theorem zcM {l:Expr}{tl:TE} (hl:PE X l tl):PI X tg l (iTup X.K tl):=by
 intro pins s σ H R I h;refine thn (hl pins s σ H _ I h) fun v s1 ⟨x,H1,I1,r1,q1⟩=>?_;obtain⟨a,e,⟨xs,hq⟩,q⟩:=q1;subst e;cases r1;obtain⟨its,rv,p,hz⟩:=I1.tuple hq;refine wpAny_pyIter_tuple (show s1.heap.IsTuple a its.toArray from p) ?_;refine⟨s1.heap.objs.size,[s1.heap.objs.size],_,_,H1,rfl,I1.kept (t':=s1.toks) fun b o e=>Ad _ e,zf3 a _,⟨_,Al _ rfl,rfl,rfl⟩,fun b hb=>?_,q⟩;have e:b=s1.heap.objs.size:=by simpa using hb
 subst e;exact I1.fpOk (Af _) (I1.hok.fresh (Af _))
theorem zi4 {pins:List (Addr×Obj)}{σ:St}{H:Hp}{s:Shared}{R:It->Hp->Prop}{E:Value->Shared->Prop}{lo hi:Int}{t u v:Tok}{tk:Nat} (I:Inv X pins σ H s) (h1:-(2 ^ 62)<=lo) (h2:lo<2 ^ 62) (h3:-(2 ^ 62)<=hi) (h4:hi<2 ^ 62)
  (q:R (Itr lo (hi - lo).toNat) H):wpAny (model X.prog X.w) X.A (pyIter (.ref s.heap.objs.size)) (PIE X pins σ tg R) E { s with heap:=s.heap.push { cls:=.type "range",data:=.fields #[.int lo t,.int hi u,.int 1 v] },toks:=tk }:=by
 refine wpAny_pyIter_range (IsRange.new ..) (small_one h1 h2 h3 h4) ?_;have I1:Inv X pins σ H { s with heap:=s.heap.push { cls:=.type "range",data:=.fields #[.int lo t,.int hi u,.int 1 v] },toks:=tk }:=I.kept fun b o e=>Ad _ e;refine⟨(s.heap.push { cls:=.type "range",data:=.fields #[.int lo t,.int hi u,.int 1 v] }).objs.size,[(s.heap.push { cls:=.type "range",data:=.fields #[.int lo t,.int hi u,.int 1 v] }).objs.size],_,_,H,rfl,
  I1.kept (t':=tk) fun b o e=>Ad _ e,zgl _ lo (hi - lo).toNat,?_,fun b hb=>?_,q⟩
 ·have e1:lo+((0:Nat):Int)*1=lo:=by simp
  have e2:(((hi - lo).toNat:Nat):Int) - ((0:Nat):Int)=Builtin.Range.rangeSize lo hi 1:=by rw[rangeSize_one]; split <;> omega
  show IsRangeIter _ _ (lo+((0:Nat):Int)*1) ((((hi - lo).toNat:Nat):Int) - ((0:Nat):Int)) 1;rw[e1,e2];exact Al _ rfl
 ·have e:b=(s.heap.push { cls:=.type "range",data:=.fields #[.int lo t,.int hi u,.int 1 v] }).objs.size:=by simpa using hb
  subst e;exact I1.fpOk (Af _) (I1.hok.fresh (Af _))
def zmF (ta:TA):TI:=fun σ H R=>ta σ H fun vs H1=>∃j:Int,vs=[.int j]/\-(2 ^ 62)<=j/\j<2 ^ 62/\R (Itr 0 j.toNat) H1
theorem zcD {a:Expr}{ta:TA}{p pos:Pos} (hg:Gl X "range") (hm:X.mg "range"=none) (ha:PA X [a] ta) (hs:starEach [a] X.env=[(false,eval a X.env)]:=by rfl):PI X tg (.Call (.Name "range" p) [a] [] pos) (zmF ta):=by
 intro pins s σ H R I h;refine Call_ (zcr I hg hm boot_range (PyProof.Rows.callWith_type1 (thn (ha pos pins s σ H _ I h) fun us s1 ⟨vs,H1,I1,r1,q1⟩=>?_) hs rfl));obtain⟨j,e,q1,q2,q⟩:=q1;subst e;cases r1 with
 | cons r rr=>
  cases rr;obtain⟨t,rfl⟩:=r;exact call_range_1 (zi4 I1 (by omega) (by omega) q1 q2 (by simpa using q))
def tFor (wi:TI) (g:TG) (tb:TS):TS:=fun D σ H=>wi σ H fun J H1=>∃W:Nat->Nat->St->Hp->Prop,(∃m,W 0 m σ H1)/\∀i m σ H,W i m σ H->
 (J.stop i H/\D.nx σ H) \/ (J.go i H/\∃N:St->Hp->Prop,(∀σ' H',N σ' H'->∃m',m'<m/\W (i+1) m' σ' H')/\∀x H',J.yld i H x H'->g x σ H' fun σ2 H2=>tb { D with nx:=N,ct:=N,bk:=D.nx } σ2 H2)
def zc5 (fp:List Addr) (h:Heap):List (Addr×Obj):=fp.filterMap fun b=>(h.get? b).map fun o=>(b,o)
theorem zav {fp:List Addr}{h:Heap}{b:Addr}{o:Obj} (hb:b∈fp) (e:h.get? b=some o):(b,o)∈zc5 fp h:=List.mem_filterMap.mpr ⟨b,hb,by rw[e]; rfl⟩
theorem zgU {fp:List Addr}{h:Heap}{p:Addr×Obj} (hp:p∈zc5 fp h):p.1∈fp/\h.get? p.1=some p.2:=by
 obtain⟨b,hb,e⟩:=List.mem_filterMap.mp hp;cases q:h.get? b with
 | none=>rw[q] at e; cases e
 | some o=>
  rw[q] at e;have e':(b,o)=p:=Ao e;subst e';exact⟨hb,q⟩
theorem Inv.pinned {pins:List (Addr×Obj)}{σ:St}{H:Hp}{s:Shared}{fp:List Addr} (I:Inv X pins σ H s) (hf:∀b∈fp,FpOk X pins H b) (ho:∀b∈fp,∃o,s.heap.get? b=some o/\∀v,o.data≠.cell v):Inv X (pins++zc5 fp s.heap) σ H s:=
 I.pins_of fun p hp=>(List.mem_append.mp hp).elim (fun z=>I.pin p (AT _ z)) fun z=>by
  obtain⟨hb,e⟩:=zgU z;obtain⟨f0,f1,f2,_⟩:=hf p.1 hb;obtain⟨o,e',d⟩:=ho p.1 hb;rw[e] at e'; cases e';exact⟨e,f0,f1,f2,d⟩
theorem Inv.unpinned {pins pl:List (Addr×Obj)}{σ:St}{H:Hp}{s:Shared} (I:Inv X (pins++pl) σ H s):Inv X pins σ H s:=I.pins_of fun p hp=>I.pin p (AT _ (List.mem_append_left _ hp))
theorem zaq {iter:Expr}{body:List Stmt}{wi:TI}{g:TG}{tb:TS}{pos:Pos} (hp:PassesOwn (model X.prog X.w) X.A X.env X.xe) (hc:X.calm=true) (hi:PI X tg iter wi) (hg:PG X tg g) (hb:PSs X body tb)
  (hs:∀x,foldedSetIterable iter X.env x=pure x:=by intro _; rfl):PS X (.For tg iter body [] pos) (tFor wi g tb):=by
 intro pins s σ H D I h;refine wpAny_For (thn (hi pins s σ H _ I h) fun v s1 h1=>thn h1 fun itv s2 h2=>?_) hs;obtain⟨it,fp,tn,J,H2,e,I2,T,st2,f2,W,⟨m0,w0⟩,turn⟩:=h2;subst e;have stat:∀{H':Hp},(∀b∈fp,H' b=none)->∀b∈fp,FpOk X pins H' b:=fun hn b hb=>⟨hn b hb,(f2 b hb).2⟩;refine codeAny_forLoop_any (fun n s'=>∃i σ' H',Inv X pins σ' H' s'/\tn i s'.heap/\(∀b∈fp,H' b=none)/\W i n σ' H') ?_ m0 ⟨0,σ,H2,I2,st2,fun b hb=>(f2 b hb).1,w0⟩;rintro n s3 ⟨i,σ3,H3,I3,st3,fr3,w3⟩;rcases turn i n σ3 H3 w3 with ⟨stop,qn⟩ | ⟨go,N,hN,step⟩
 ·refine wpAny_passesOwn hp (thn (T.done X rfl rfl rfl hc i pins s3 σ3 H3 X.xe I3 (stat fr3) st3 stop) fun r s4 ⟨hr,I4⟩=>?_)
  subst hr;exact wpAny_execs_nil ⟨σ3,H3,I4,qn⟩
 ·refine wpAny_passesOwn hp (thn (T.item X rfl rfl rfl hc i pins s3 σ3 H3 X.xe I3 (stat fr3) st3 go) fun r s4 ⟨u,hr,h4⟩=>?_)
  subst hr;refine wpAny_passesOwn hp (thn h4 fun _ s5 ⟨x,H5,I5,r5,y5,st5,fr5⟩=>?_);have I5':=I5.pinned (stat fr5) (T.obj _ _ st5);refine wpAny_passesOwn hp (thn (hg _ s5 σ3 H5 x u _ I5' r5 (step x H5 y5)) fun _ s6 ⟨σ6,H6,I6,q6⟩=>?_);refine wpAny_passesOwn hp (thn (hb _ s6 σ6 H6 _ I6 q6) fun f s7 q7=>?_);have again:∀{σ7:St} {H7:Hp},Inv X (pins++zc5 fp s5.heap) σ7 H7 s7->N σ7 H7->∃m,m<n/\∃i σ' H',Inv X pins σ' H' s7/\tn i s7.heap/\(∀b∈fp,H' b=none)/\W i m σ' H':=fun {σ7 H7} I7 n7=>by
   obtain⟨m',hm,w7⟩:=hN σ7 H7 n7;refine⟨m',hm,i+1,σ7,H7,I7.unpinned,T.keep _ _ _ st5 fun b hb o e=>(I7.pin (b,o) (AT _ (AT _ (zav hb e)))).1,fun b hb=>?_,w7⟩;obtain⟨o,e,d⟩:=T.obj _ _ st5 b hb;exact (I7.pin (b,o) (AT _ (AT _ (zav hb e)))).2.1
  cases f with
  | next=>obtain⟨σ7,H7,I7,n7⟩:=q7; exact again I7 n7
  | cont=>obtain⟨σ7,H7,I7,n7⟩:=q7; exact again I7 n7
  | brk=>obtain⟨σ7,H7,I7,q7⟩:=q7; exact⟨σ7,H7,I7.unpinned,q7⟩
  | ret v=>obtain⟨x7,σ7,H7,I7,r7,q7⟩:=q7; exact⟨x7,σ7,H7,I7.unpinned,r7,q7⟩
end
theorem zaa {K:Ae}{a:Addr}{xs:List V}{g:TG}{tb:TS}{D:Ends}{σ:St}{H:Hp} (Pv:Nat->St->Hp->Prop) (h0:Pv 0 σ H) (hl:∀i σ H,i<=xs.length->Pv i σ H->SqL K H a xs)
  (hs:∀i x σ H,xs[i]?=some x->Pv i σ H->g x σ H fun σ2 H2=>tb { D with nx:=Pv (i+1),ct:=Pv (i+1),bk:=D.nx } σ2 H2) (hd:∀σ H,Pv xs.length σ H->D.nx σ H) :
  ∃W:Nat->Nat->St->Hp->Prop,(∃m,W 0 m σ H)/\∀i m σ H,W i m σ H->
   ((Itl K a).stop i H/\D.nx σ H) \/ ((Itl K a).go i H/\∃N:St->Hp->Prop,(∀σ' H',N σ' H'->∃m',m'<m/\W (i+1) m' σ' H')/\∀x H',(Itl K a).yld i H x H'->g x σ H' fun σ2 H2=>tb { D with nx:=N,ct:=N,bk:=D.nx } σ2 H2):=by
 refine⟨fun i m σ H=>m=xs.length - i/\i<=xs.length/\Pv i σ H,⟨xs.length,by simp,AV _,h0⟩,?_⟩;rintro i m σ H ⟨rfl,hi,p⟩;have q:=hl i σ H hi p
 by_cases hlt:i<xs.length
 ·refine .inr ⟨⟨xs,xs[i],q,by simp[hlt]⟩,Pv (i+1),fun σ' H' p'=>⟨xs.length - (i+1),by omega,rfl,hlt,p'⟩,fun x H' y=>?_⟩
  obtain⟨e,y⟩:=y;subst e;exact hs i x σ _ (y xs q) p
 ·have e:i=xs.length:=by omega
  subst e;exact .inl ⟨⟨xs,q,Af _⟩,hd σ H p⟩
theorem zhV {K:Ae}{a:Addr}{xs:List V}{g:TG}{tb:TS}{D:Ends}{σ:St}{H:Hp} (Pv:Nat->St->Hp->Prop) (h0:Pv 0 σ H) (hl:∀i σ H,i<=xs.length->Pv i σ H->SqT K H a xs)
  (hs:∀i x σ H,xs[i]?=some x->Pv i σ H->g x σ H fun σ2 H2=>tb { D with nx:=Pv (i+1),ct:=Pv (i+1),bk:=D.nx } σ2 H2) (hd:∀σ H,Pv xs.length σ H->D.nx σ H) :
  ∃W:Nat->Nat->St->Hp->Prop,(∃m,W 0 m σ H)/\∀i m σ H,W i m σ H->
   ((Itt K a).stop i H/\D.nx σ H) \/ ((Itt K a).go i H/\∃N:St->Hp->Prop,(∀σ' H',N σ' H'->∃m',m'<m/\W (i+1) m' σ' H')/\∀x H',(Itt K a).yld i H x H'->g x σ H' fun σ2 H2=>tb { D with nx:=N,ct:=N,bk:=D.nx } σ2 H2):=by
 refine⟨fun i m σ H=>m=xs.length - i/\i<=xs.length/\Pv i σ H,⟨xs.length,by simp,AV _,h0⟩,?_⟩;rintro i m σ H ⟨rfl,hi,p⟩;have q:=hl i σ H hi p
 by_cases hlt:i<xs.length
 ·refine .inr ⟨⟨xs,xs[i],q,by simp[hlt]⟩,Pv (i+1),fun σ' H' p'=>⟨xs.length - (i+1),by omega,rfl,hlt,p'⟩,fun x H' y=>?_⟩
  obtain⟨e,y⟩:=y;subst e;exact hs i x σ _ (y xs q) p
 ·have e:i=xs.length:=by omega
  subst e;exact .inl ⟨⟨xs,q,Af _⟩,hd σ H p⟩
theorem zdT {lo:Int}{n:Nat}{g:TG}{tb:TS}{D:Ends}{σ:St}{H:Hp} (Pv:Nat->St->Hp->Prop) (h0:Pv 0 σ H)
  (hs:∀i σ H,i<n->Pv i σ H->g (.int (lo+i)) σ H fun σ2 H2=>tb { D with nx:=Pv (i+1),ct:=Pv (i+1),bk:=D.nx } σ2 H2) (hd:∀σ H,Pv n σ H->D.nx σ H) :
  ∃W:Nat->Nat->St->Hp->Prop,(∃m,W 0 m σ H)/\∀i m σ H,W i m σ H->
   ((Itr lo n).stop i H/\D.nx σ H) \/ ((Itr lo n).go i H/\∃N:St->Hp->Prop,(∀σ' H',N σ' H'->∃m',m'<m/\W (i+1) m' σ' H')/\∀x H',(Itr lo n).yld i H x H'->g x σ H' fun σ2 H2=>tb { D with nx:=N,ct:=N,bk:=D.nx } σ2 H2):=by
 refine⟨fun i m σ H=>m=n - i/\i<=n/\Pv i σ H,⟨n,by simp,AV _,h0⟩,?_⟩;rintro i m σ H ⟨rfl,hi,p⟩
 by_cases hlt:i<n
 ·refine .inr ⟨hlt,Pv (i+1),fun σ' H' p'=>⟨n - (i+1),by omega,rfl,hlt,p'⟩,fun x H' y=>?_⟩
  obtain⟨e,y⟩:=y;subst e y;exact hs i σ _ hlt p
 ·have e:i=n:=by omega
  subst e;exact .inl ⟨Af _,hd σ H p⟩
end L2
namespace L2
open PySem PySem.Spec PyProof.Rows
abbrev R2:=V->V->Hp->VK->Prop
def OpR (X:Cx) (f:Value->Value->Sem Value) (r:R2):Prop:=
 ∀(pins:List (Addr×Obj)) (s:Shared) (σ:St) (H:Hp) (x y:V) (v u:Value) (Q:VK),Inv X pins σ H s->RelV x v->RelV y u->r x y H Q->
  wpAny (model X.prog X.w) X.A (f v u) (EP X pins σ Q) X.xe s
def UnR (X:Cx) (f:Value->Sem Value) (r:V->Hp->VK->Prop):Prop:=
 ∀(pins:List (Addr×Obj)) (s:Shared) (σ:St) (H:Hp) (x:V) (v:Value) (Q:VK),Inv X pins σ H s->RelV x v->r x H Q->
  wpAny (model X.prog X.w) X.A (f v) (EP X pins σ Q) X.xe s
def zat (X:Cx) (f:Value) (r:List V->Hp->VK->Prop):Prop:=
 ∀(pins:List (Addr×Obj)) (s:Shared) (σ:St) (H:Hp) (xs:List V) (us:List Value) (Q:VK),Inv X pins σ H s->Vals xs us->r xs H Q->
  wpAny (model X.prog X.w) X.A (call f us) (EP X pins σ Q) X.xe s
def tOp (r:R2) (ta tb:TE):TE:=fun σ H Q=>ta σ H fun x H1=>tb σ H1 fun y H2=>r x y H2 Q
def tUn (r:V->Hp->VK->Prop) (ta:TE):TE:=fun σ H Q=>ta σ H fun x H1=>r x H1 Q
def rI (C:Int->Int->Prop) (g:Int->Int->V):R2:=fun x y H Q=>∃i j,x=.int i/\y=.int j/\C i j/\Q (g i j) H
def rI0 (g:Int->Int->V):R2:=fun x y H Q=>∃i j,x=.int i/\y=.int j/\Q (g i j) H
def rU (g:Int->V):V->Hp->VK->Prop:=fun x H Q=>∃i,x=.int i/\Q (g i) H
section
variable {X:Cx}{a b c:Expr}{ta tb tc:TE}{pos:Pos}
theorem binT (ha:PE X a ta) (hb:PE X b tb) {pins:List (Addr×Obj)}{s:Shared}{σ:St}{H:Hp}{R:V->V->Hp->Prop} (I:Inv X pins σ H s)
  (h:ta σ H fun x H1=>tb σ H1 fun y H2=>R x y H2) {Q:Value->Shared->Prop} {f:Value->Value->Sem Value}
  (hf:∀v u s2 x y H2,Inv X pins σ H2 s2->RelV x v->RelV y u->R x y H2->wpAny (model X.prog X.w) X.A (f v u) Q X.xe s2) :
  wpAny (model X.prog X.w) X.A (eval a X.env) (fun v s₁=>wpAny (model X.prog X.w) X.A (eval b X.env) (fun u s₂=>wpAny (model X.prog X.w) X.A (f v u) Q X.xe s₂) X.xe s₁) X.xe s:=by
 refine thn (ha pins s σ H _ I h) fun v s1 ⟨x,H1,I1,r1,q1⟩=>?_;refine thn (hb pins s1 σ H1 _ I1 q1) fun u s2 ⟨y,H2,I2,r2,q2⟩=>?_;exact hf v u s2 x y H2 I2 r1 r2 q2
theorem zG {op:Operator}{r:R2} (ho:OpR X (binaryOp op) r) (ha:PE X a ta) (hb:PE X b tb):PE X (.BinOp a op b pos) (tOp r ta tb):=by
 intro pins s σ H Q I h;exact wpAny_BinOp (binT ha hb I h fun v u s2 x y H2 I2 rx ry q=>ho pins s2 σ H2 x y v u Q I2 rx ry q)
theorem zkz {op:UnaryOp}{r:V->Hp->VK->Prop} (ho:UnR X (unaryOp op) r) (ha:PE X a ta):PE X (.UnaryOp op a pos) (tUn r ta):=by
 intro pins s σ H Q I h;exact UnaryOp_ (thn (ha pins s σ H _ I h) fun v s1 ⟨x,H1,I1,r1,q1⟩=>ho pins s1 σ H1 x v Q I1 r1 q1)
theorem opI {f:Value->Value->Sem Value}{C:Int->Int->Prop}{g:Int->Int->Int}
  (rule:∀(i j:Int) (t u:Tok) (s:Shared) (Q:Value->Shared->Prop) (E:Value->Shared->Prop),C i j->Q (.int (g i j) s.toks) { s with toks:=s.toks+1 }->wpAny (model X.prog X.w) X.A (f (.int i t) (.int j u)) Q E s) :
  OpR X f (rI C fun i j=>.int (g i j)):=by
 intro pins s σ H x y v u Q I rx ry h;obtain⟨i,j,rfl,rfl,hc,q⟩:=h;obtain⟨t,rfl⟩:=rx;obtain⟨t',rfl⟩:=ry;exact rule i j t t' s _ _ hc ⟨.int (g i j),H,I.tok _,⟨_,rfl⟩,q⟩
theorem opI0 {f:Value->Value->Sem Value}{g:Int->Int->Int}
  (rule:∀(i j:Int) (t u:Tok) (s:Shared) (Q:Value->Shared->Prop) (E:Value->Shared->Prop),Q (.int (g i j) s.toks) { s with toks:=s.toks+1 }->wpAny (model X.prog X.w) X.A (f (.int i t) (.int j u)) Q E s) :
  OpR X f (rI0 fun i j=>.int (g i j)):=by
 intro pins s σ H x y v u Q I rx ry h;obtain⟨i,j,rfl,rfl,q⟩:=h;obtain⟨t,rfl⟩:=rx;obtain⟨t',rfl⟩:=ry;exact rule i j t t' s _ _ ⟨.int (g i j),H,I.tok _,⟨_,rfl⟩,q⟩
theorem opB0 {f:Value->Value->Sem Value}{g:Int->Int->Bool}
  (rule:∀(i j:Int) (t u:Tok) (s:Shared) (Q:Value->Shared->Prop) (E:Value->Shared->Prop),Q (.bool (g i j)) s->wpAny (model X.prog X.w) X.A (f (.int i t) (.int j u)) Q E s) :
  OpR X f (rI0 fun i j=>.bl (g i j)):=by
 intro pins s σ H x y v u Q I rx ry h;obtain⟨i,j,rfl,rfl,q⟩:=h;obtain⟨t,rfl⟩:=rx;obtain⟨t',rfl⟩:=ry;exact rule i j t t' s _ _ ⟨.bl (g i j),H,I,rfl,q⟩
def CDiv (i j:Int):Prop:=0<j/\j<1073741824
def CPow (i j:Int):Prop:=0<=j/\j<=1000000/\i.natAbs<2 ^ 64
def CMul (i j:Int):Prop:=(-(2 ^ 64)<i/\i<2 ^ 64) \/ (-(2 ^ 64)<j/\j<2 ^ 64)
theorem CMul.ok {i j:Int} (h:CMul i j):IntMulOk i j:=by
 rcases h with ⟨h1,h2⟩ | ⟨h1,h2⟩
 ·exact .of_left (intBits_le_64 h1 h2)
 ·exact .of_right (intBits_le_64 h1 h2)
theorem zbd:OpR X (binaryOp .Add) (rI0 fun i j=>.int (i+j)):=opI0 fun _ _ _ _ _ _ _ q=>add_int q
theorem zhq:OpR X (binaryOp .Sub) (rI0 fun i j=>.int (i - j)):=opI0 fun _ _ _ _ _ _ _ q=>sub_int q
theorem zc1:OpR X (binaryOp .Mult) (rI CMul fun i j=>.int (i*j)):=opI fun _ _ _ _ _ _ _ hc q=>mul_int q hc.ok
theorem zgT:OpR X (binaryOp .FloorDiv) (rI CDiv fun i j=>.int (i / j)):=opI fun i j _ _ _ _ _ hc q=>by
 have h1:(0:Int)<j:=hc.1;have h2:j<1073741824:=hc.2;exact floordiv_int (by omega) (by rw[Int.fdiv_eq_ediv_of_nonneg i (by omega)]; exact q) (.inl (PyProof.noPylong_small (by omega)))
theorem zcw:OpR X (binaryOp .Mod) (rI (fun _ j=>0<j) fun i j=>.int (i % j)):=opI fun i j _ _ _ _ _ hc q=>by
 have h1:(0:Int)<j:=hc;exact mod_int' (by omega) (by rw[Int.fmod_eq_emod_of_nonneg i (by omega)]; exact q)
theorem zg1:OpR X (binaryOp .Pow) (rI CPow fun i j=>.int (i ^ j.toNat)):=opI fun _ _ _ _ _ _ _ hc q=>pow_int_small hc.1 hc.2.1 hc.2.2 q
theorem unI {f:Value->Sem Value}{g:Int->Int}
  (rule:∀(i:Int) (t:Tok) (s:Shared) (Q:Value->Shared->Prop) (E:Value->Shared->Prop),Q (.int (g i) s.toks) { s with toks:=s.toks+1 }->wpAny (model X.prog X.w) X.A (f (.int i t)) Q E s) :
  UnR X f (rU fun i=>.int (g i)):=by
 intro pins s σ H x v Q I rx h;obtain⟨i,rfl,q⟩:=h;obtain⟨t,rfl⟩:=rx;exact rule i t s _ _ ⟨.int (g i),H,I.tok _,⟨_,rfl⟩,q⟩
theorem zhg:UnR X (unaryOp .USub) (rU fun i=>.int (-i)):=unI fun _ _ _ _ _ q=>neg_int q
end
def scal:V->V->Bool
 | .non,.non=>true | .non,.int _=>true | .int _,.non=>true | .non,.bl _=>true | .bl _,.non=>true | .non,.str _=>true | .str _,.non=>true
 | .int _,.int _=>true | .bl _,.bl _=>true | .str _,.str _=>true | .byt _,.byt _=>true
 | .int _,.str _=>true | .str _,.int _=>true | .bl _,.str _=>true | .str _,.bl _=>true
 | _,_=>false
def rEq:R2:=fun x y H Q=>scal x y=true/\Q (.bl (decide (x=y))) H
def rNe:R2:=fun x y H Q=>scal x y=true/\Q (.bl (!decide (x=y))) H
theorem zgK {i j:Int}:decide (V.int i=V.int j)=(i == j):=by
 rw[Bool.eq_iff_iff];simp
theorem dec_bl {i j:Bool}:decide (V.bl i=V.bl j)=(i == j):=by
 rw[Bool.eq_iff_iff];simp
theorem zia {i j:Str}:decide (V.str i=V.str j)=(i == j):=by
 rw[Bool.eq_iff_iff];simp
theorem zgV {i j:Array UInt8}:decide (V.byt i=V.byt j)=(i.toList == j.toList):=by
 rw[Bool.eq_iff_iff];cases i;cases j;simp
section
variable {X:Cx}{a b c:Expr}{ta tb tc:TE}{pos:Pos}
theorem fin_bl {pins:List (Addr×Obj)}{σ:St}{H:Hp}{s:Shared}{Q:VK}{k k':Bool} (I:Inv X pins σ H s) (q:Q (.bl k) H) (e:k=k'):EP X pins σ Q (.bool k') s:=by
 subst e;exact⟨.bl k,H,I,rfl,q⟩
theorem zaC:OpR X (compareOp .Eq) rEq:=by
 intro pins s σ H x y v u Q I rx ry h;obtain⟨hs,q⟩:=h;cases x with
 | non=>
  cases rx;cases y with
  | non=>cases ry; exact PySem.EqNone.eq_none_none (fin_bl I q (by simp))
  | bl j=>cases ry; exact PySem.EqNone.eq_none_bool (fin_bl I q (by simp))
  | int j=>obtain⟨t',rfl⟩:=ry; exact PySem.EqNone.eq_none_int (fin_bl I q (by simp))
  | str j=>obtain⟨t',rfl⟩:=ry; exact PySem.EqNone.eq_none_str (fin_bl I q (by simp))
  | _=>exact absurd (show false=true from hs) Au
 | bl i=>
  cases rx;cases y with
  | non=>cases ry; exact PySem.EqNone.eq_bool_none (fin_bl I q (by simp))
  | bl j=>cases ry; exact eq_bool (fin_bl I q dec_bl)
  | str j=>obtain⟨t',rfl⟩:=ry; exact PySem.EqMixed.eq_bool_str (fin_bl I q (by simp))
  | _=>exact absurd (show false=true from hs) Au
 | int i=>
  obtain⟨t,rfl⟩:=rx;cases y with
  | non=>cases ry; exact PySem.EqNone.eq_int_none (fin_bl I q (by simp))
  | int j=>obtain⟨t',rfl⟩:=ry; exact eq_int (fin_bl I q zgK)
  | str j=>obtain⟨t',rfl⟩:=ry; exact PySem.EqMixed.eq_int_str (fin_bl I q (by simp))
  | _=>exact absurd (show false=true from hs) Au
 | str i=>
  obtain⟨t,rfl⟩:=rx;cases y with
  | non=>cases ry; exact PySem.EqNone.eq_str_none (fin_bl I q (by simp))
  | bl j=>cases ry; exact PySem.EqMixed.eq_str_bool (fin_bl I q (by simp))
  | int j=>obtain⟨t',rfl⟩:=ry; exact PySem.EqMixed.eq_str_int (fin_bl I q (by simp))
  | str j=>obtain⟨t',rfl⟩:=ry; exact eq_str (fin_bl I q zia)
  | _=>exact absurd (show false=true from hs) Au
 | byt i=>
  obtain⟨t,rfl⟩:=rx;cases y with
  | byt j=>obtain⟨t',rfl⟩:=ry; exact PySem.W.eq_bytes (fin_bl I q zgV)
  | _=>exact absurd (show false=true from hs) Au
 | _=>cases y <;> exact absurd (show false=true from hs) Au
theorem zjp:OpR X (compareOp .NotEq) rNe:=by
 intro pins s σ H x y v u Q I rx ry h;obtain⟨hs,q⟩:=h;cases x with
 | non=>
  cases rx;cases y with
  | non=>cases ry; exact PySem.EqNone.ne_none_none (fin_bl I q (by simp))
  | bl j=>cases ry; exact PySem.EqNone.ne_none_bool (fin_bl I q (by simp))
  | int j=>obtain⟨t',rfl⟩:=ry; exact PySem.EqNone.ne_none_int (fin_bl I q (by simp))
  | str j=>obtain⟨t',rfl⟩:=ry; exact PySem.EqNone.ne_none_str (fin_bl I q (by simp))
  | _=>exact absurd (show false=true from hs) Au
 | bl i=>
  cases rx;cases y with
  | non=>cases ry; exact PySem.EqNone.ne_bool_none (fin_bl I q (by simp))
  | bl j=>cases ry; exact ne_bool (fin_bl I q (congrArg not dec_bl))
  | str j=>obtain⟨t',rfl⟩:=ry; exact PySem.EqMixed.ne_bool_str (fin_bl I q (by simp))
  | _=>exact absurd (show false=true from hs) Au
 | int i=>
  obtain⟨t,rfl⟩:=rx;cases y with
  | non=>cases ry; exact PySem.EqNone.ne_int_none (fin_bl I q (by simp))
  | int j=>obtain⟨t',rfl⟩:=ry; exact ne_int (fin_bl I q (congrArg not zgK))
  | str j=>obtain⟨t',rfl⟩:=ry; exact PySem.EqMixed.ne_int_str (fin_bl I q (by simp))
  | _=>exact absurd (show false=true from hs) Au
 | str i=>
  obtain⟨t,rfl⟩:=rx;cases y with
  | non=>cases ry; exact PySem.EqNone.ne_str_none (fin_bl I q (by simp))
  | bl j=>cases ry; exact PySem.EqMixed.ne_str_bool (fin_bl I q (by simp))
  | int j=>obtain⟨t',rfl⟩:=ry; exact PySem.EqMixed.ne_str_int (fin_bl I q (by simp))
  | str j=>obtain⟨t',rfl⟩:=ry; exact ne_str (fin_bl I q (congrArg not zia))
  | _=>exact absurd (show false=true from hs) Au
 | byt i=>
  obtain⟨t,rfl⟩:=rx;cases y with
  | byt j=>obtain⟨t',rfl⟩:=ry; exact PySem.W.ne_bytes (fin_bl I q (congrArg not zgV))
  | _=>exact absurd (show false=true from hs) Au
 | _=>cases y <;> exact absurd (show false=true from hs) Au
theorem ziB:OpR X (compareOp .Lt) (rI0 fun i j=>.bl (decide (i<j))):=opB0 fun _ _ _ _ _ _ _ q=>lt_int q
theorem zkA:OpR X (compareOp .LtE) (rI0 fun i j=>.bl (decide (i<=j))):=opB0 fun _ _ _ _ _ _ _ q=>le_int q
theorem zeF:OpR X (compareOp .Gt) (rI0 fun i j=>.bl (decide (j<i))):=opB0 fun _ _ _ _ _ _ _ q=>gt_int q
theorem zmK:OpR X (compareOp .GtE) (rI0 fun i j=>.bl (decide (j<=i))):=opB0 fun _ _ _ _ _ _ _ q=>ge_int q
theorem nomark (b:Expr) {op:CmpOp} (h:op≠.In:=by decide) (h2:op≠.NotIn:=by decide):behindInMarks op b=false:=by
 have e1:(op == CmpOp.In)=false:=by cases op <;> first | rfl | exact absurd rfl h
 have e2:(op == CmpOp.NotIn)=false:=by cases op <;> first | rfl | exact absurd rfl h2
 cases b <;> simp[behindInMarks,e1,e2]
theorem zaS {op:CmpOp}{r:R2} (ho:OpR X (compareOp op) r) (ha:PE X a ta) (hb:PE X b tb) (hm:behindInMarks op b=false):PE X (.Compare a [op] [b] pos) (tOp r ta tb):=by
 intro pins s σ H Q I h;exact wpAny_Compare1 (binT ha hb I h fun v u s2 x y H2 I2 rx ry q=>ho pins s2 σ H2 x y v u Q I2 rx ry q) hm
def zfh (t:TE):TT:=fun σ H Q=>t σ H fun x H'=>∃k,x=.bl k/\Q k H'
theorem zo {op:CmpOp}{r:R2} (ho:OpR X (compareOp op) r) (ha:PE X a ta) (hb:PE X b tb) (hm:behindInMarks op b=false):PT X (.Compare a [op] [b] pos) (zfh (tOp r ta tb)):=by
 intro pins s σ H Q I h;refine wpAny_isTrue_Compare1 (thn (ha pins s σ H _ I h) fun v s1 ⟨x,H1,I1,r1,q1⟩=>thn (hb pins s1 σ H1 _ I1 q1) fun u s2 ⟨y,H2,I2,r2,q2⟩=>
  thn (ho pins s2 σ H2 x y v u _ I2 r1 r2 q2) fun c s3 ⟨z,H3,I3,r3,k,e,q3⟩=>?_) hm
 subst e;cases r3;exact wpAny_truthy_bool ⟨H3,I3,q3⟩
def zlW (r r':R2) (ta tb tc:TE):TE:=fun σ H Q=>ta σ H fun x H1=>tb σ H1 fun y H2=>r x y H2 fun z H3=>∃k,z=.bl k/\
 (if k=true then tc σ H3 fun w' H4=>r' y w' H4 Q else Q (.bl false) H3)
theorem zis {op op':CmpOp}{r r':R2} (ho:OpR X (compareOp op) r) (ho':OpR X (compareOp op') r') (ha:PE X a ta) (hb:PE X b tb) (hc:PE X c tc)
  (hm:lastMarks [op,op'] [b,c]=false:=by with_unfolding_all rfl):PT X (.Compare a [op,op'] [b,c] pos) (zfh (zlW r r' ta tb tc)):=by
 intro pins s σ H Q I h;refine isTrue_chain (thn (ha pins s σ H _ I h) fun v s1 ⟨x,H1,I1,r1,q1⟩=>test_link (thn (hb pins s1 σ H1 _ I1 q1) fun u s2 ⟨y,H2,I2,r2,q2⟩=>
  thn (ho pins s2 σ H2 x y v u _ I2 r1 r2 q2) fun d s3 ⟨z,H3,I3,r3,k,e,q3⟩=>?_)) hm
 subst e;cases r3;refine wpAny_truthy_bool ?_;cases k with
 | false=>
  obtain⟨k',e',q'⟩:=q3;cases e';exact ite_ff ⟨H3,I3,q'⟩
 | true=>
  refine ite_tt (test_last (thn (hc pins s3 σ H3 _ I3 q3) fun w' s4 ⟨z',H4,I4,r4,q4⟩=>thn (ho' pins s4 σ H4 y z' u w' _ I4 r2 r4 q4) fun d' s5 ⟨z2,H5,I5,r5,k2,e2,q5⟩=>?_));subst e2;cases r5;exact wpAny_truthy_bool ⟨H5,I5,q5⟩
theorem line63:(sizeLine:Nat)<2 ^ 63:=by rw[sizeLine_eq]; decide
theorem vals1 {x:V}{us:List Value} (r:Vals [x] us):∃u,us=[u]/\RelV x u:=by
 cases r with
 | cons r1 r2=>cases r2; exact⟨_,rfl,r1⟩
theorem vals2 {x y:V}{us:List Value} (r:Vals [x,y] us):∃u w',us=[u,w']/\RelV x u/\RelV y w':=by
 cases r with
 | cons r1 r2=>
  cases r2 with
  | cons r3 r4=>cases r4; exact⟨_,_,rfl,r1,r3⟩
end
end L2
namespace L2
open PySem PySem.Spec PyProof.Rows
structure ObjM (h:Heap) (x dx C:Addr) (mA:Str->Option Value):Prop where
 obj:h.get? x=some (PySem.W.instObj C dx)
 ns:h.Ns1 dx mA
 ne:dx≠x
theorem zgM {h:Heap}{dx:Addr}{mA:Str->Option Value} (n:h.Ns1 dx mA):∃od,h.get? dx=some od/\∀name,PySem.W.lookIn name od=some (mA name):=by
 obtain⟨o,es,ep,ho,hd,hk,_,hm⟩:=n;refine⟨o,ho,fun name=>?_⟩;have e:=hm name;unfold nsFind findBy at e;rw[<- Array.find?_toList] at e;unfold PySem.W.lookIn;rw[hd];dsimp only;split
 ·rename_i y q
  rw[q] at e;exact congrArg some e
 ·rename_i q
  rw[q] at e;have a:es.toList.any (·.refKey)=false:=by
   rw[List.any_eq_false];intro y hy;obtain⟨z,t,hkey⟩:=hk y (Array.mem_toList_iff.mp hy);simp[DictEntry.refKey,hkey]
  have a':¬ es.toList.any (·.refKey)=true:=by rw[a]; exact Au
  rw[if_neg a'];exact congrArg some e
theorem ObjM.look {h:Heap}{x dx C:Addr}{mA:Str->Option Value} (I:ObjM h x dx C mA):∃od,PySem.W.InstAt h x (PySem.W.instObj C dx) C (some od)/\∀name,PySem.W.lookIn name od=some (mA name):=
 let ⟨od,ho,hl⟩:=zgM I.ns
 ⟨od,⟨I.obj,rfl,rfl,ho⟩,hl⟩
section
variable {prog:Program}{w:World}{A:Around}{E:Value->Shared->Prop}{s:Shared}{K:Ae}{x dx C f:Addr}{mA:Str->Option Value}{name:Str}{v:Value}
end
theorem RelO.some_of {v:V}{o:Option Value} (r:RelO (some v) o):∃u,o=some u/\RelV v u:=by
 cases o with
 | none=>exact (show False from r).elim
 | some u=>exact⟨u,rfl,r⟩
theorem RelO.none_of {o:Option Value} (r:RelO none o):o=none:=by
 cases o with
 | none=>rfl
 | some u=>exact (show False from r).elim
section
variable {P:Program}{w:World}{H H':Hp}{h h':Heap}{a C dx:Addr}{fs fs':List (Str×V)}
theorem zag (hok:HOk P w H h) (e:H a=some (.ins C dx fs)):∃mA,ObjM h a dx C mA/\(∀f,RelO (fs.lookup f) (mA f))/\PySem.Within mA (fs.map (·.1))/\fs.length<=1000/\H dx=some (.own a):=by
 obtain⟨d,z,ne,ob,mA,n,r,q⟩:=(show zF P w H h a (.ins C dx fs) from hok a _ e);exact⟨mA,⟨ob,n,ne⟩,r,q,z,d⟩
end
structure Cls (K:Ae) (C:Addr):Prop where
 pg:PySem.W.plainGet K C Str.empty=true
 hd:PySem.W.hasDictIn K C=true
 po:PySem.W.plainOver K C=true
 sa:PySem.W.findIn K (.ref C) "__setattr__"=some (some (.builtin "object.__setattr__"))
theorem Cls.get {K:Ae}{C:Addr} (c:Cls K C) (f:Str):PySem.W.plainGet K C f=true:=c.pg
section
variable {X:Cx}{pins:List (Addr×Obj)}{σ:St}{H:Hp}{s:Shared}{a C dx:Addr}{fs:List (Str×V)}{f:Str}{v:V}{A:Around}{E:Value->Shared->Prop}
end
section
variable {X:Cx}{o e value:Expr}{f:Str}{pos pos' tpos:Pos}{ta tv:TE}
end
section
variable {X:Cx}{pins:List (Addr×Obj)}{σ:St}{H:Hp}{s:Shared}{A:Around}{E:Value->Shared->Prop}{Q:Value->Shared->Prop}{c:Value}{b:Bool}
inductive TyOf (K:Ae) (H:Hp):V->Value->Prop where
 | non:TyOf K H .non (.type "NoneType")
 | bl (x:Bool):TyOf K H (.bl x) (.type "bool")
 | int (i:Int):TyOf K H (.int i) (.type "int")
 | str (x:Str):TyOf K H (.str x) (.type "str")
 | flt (x:UInt64):TyOf K H (.flt x) (.type "float")
 | lst {a:Addr} {xs:List V} (e:H a=some (.lst xs)):TyOf K H (.ref a) (.type "list")
 | frz {a:Addr} {o:Obj} {xs:List V} (e:H a=some (.frz o (.lst xs))):TyOf K H (.ref a) (.type "list")
 | tup {a:Addr} {xs:List V} (e:H a=some (.tup xs)):TyOf K H (.ref a) (.type "tuple")
 | dK {a:Addr} {kvs:List (Key×V)} (e:H a=some (.dK kvs)):TyOf K H (.ref a) (.type "dict")
 | dT {a:Addr} {kvs:List (List Key×V)} (e:H a=some (.dT kvs)):TyOf K H (.ref a) (.type "dict")
 | ins {a C dx:Addr} {fs:List (Str×V)} (e:H a=some (.ins C dx fs)) (cl:Cls K C) (ha:PySem.W.findIn K (.ref C) "__class__"=some (some (.builtin "object.__class__")))
   (hn:PySem.W.specialIn K (.builtin "object.__class__") "__get__"=some (some (.builtin "getset_descriptor.__get__"))) (htk:PySem.W.takesIn K (.builtin "object.__class__")=some true)
   (hm:PySem.W.mroIn K C (.type "object")=some true):TyOf K H (.ref a) (.ref C)
theorem zbW {x:V}{u t:Value} (I:Inv X pins σ H s) (rx:RelV x u) (ty:TyOf X.K H x t) (e:AM X.K t c=some b) (h:∀tk,Q (.bool b) { s with toks:=tk }) :
  wpAny (model X.prog X.w) A (call (.builtin "isinstance") [u,c]) Q E s:=by
 cases ty with
 | non=>cases (show u=Value.none from rx); exact PySem.W.kia_one PySem.W.kitx_none I.kIn True.intro e (fun z=>nomatch z) h
 | bl y=>cases (show u=Value.bool y from rx); exact PySem.W.kia_one PySem.W.kitx_bool I.kIn True.intro e (fun z=>nomatch z) h
 | int i=>obtain⟨t,q⟩:=(show ∃t,u=Value.int i t from rx); cases q; exact PySem.W.kia_one PySem.W.kitx_int I.kIn True.intro e (fun z=>nomatch z) h
 | str y=>obtain⟨t,q⟩:=(show ∃t,u=Value.str y t from rx); cases q; exact PySem.W.kia_one PySem.W.kitx_str I.kIn True.intro e (fun z=>nomatch z) h
 | flt y=>obtain⟨t,q⟩:=(show ∃t,u=Value.float y t from rx); cases q; exact PySem.W.kia_one PySem.W.kitx_float I.kIn True.intro e (fun z=>nomatch z) h
 | @lst a xs ea=>
  cases (show u=Value.ref a from rx);obtain⟨_,_,n,_,h1⟩:=(show zF X.prog X.w H s.heap a (.lst xs) from I.hok a _ ea);exact PySem.W.kia_one PySem.W.kitx_list I.kIn ⟨_,h1,rfl⟩ e (fun z=>nomatch z) h
 | @frz a ob xs ea=>
  cases (show u=Value.ref a from rx);obtain⟨_,_,_,n,_,h1⟩:=(show zF X.prog X.w H s.heap a (.frz ob (.lst xs)) from I.hok a _ ea);exact PySem.W.kia_one PySem.W.kitx_list I.kIn ⟨_,h1,rfl⟩ e (fun z=>nomatch z) h
 | @tup a xs ea=>
  cases (show u=Value.ref a from rx);obtain⟨_,_,_,p⟩:=(show zF X.prog X.w H s.heap a (.tup xs) from I.hok a _ ea);obtain⟨o,h1,h2,_⟩:=p;exact PySem.W.kia_one PySem.W.kitx_tuple I.kIn ⟨o,h1,h2⟩ e (fun z=>nomatch z) h
 | @dK a kvs ea=>
  cases (show u=Value.ref a from rx);obtain⟨_,_,vs,_,p⟩:=(show zF X.prog X.w H s.heap a (.dK kvs) from I.hok a _ ea);obtain⟨o,es,ep,h1,h2,_⟩:=p;exact PySem.W.kia_one PySem.W.kitx_dict I.kIn ⟨o,h1,h2.1⟩ e (fun z=>nomatch z) h
 | @dT a kvs ea=>
  cases (show u=Value.ref a from rx);obtain⟨_,_,xs,_,o,es,ep,h1,h2,_⟩:=(show zF X.prog X.w H s.heap a (.dT kvs) from I.hok a _ ea);exact PySem.W.kia_one PySem.W.kitx_dict I.kIn ⟨o,h1,h2.1⟩ e (fun z=>nomatch z) h
 | @ins a C dx fs ea cl ha hn htk hm=>
  cases (show u=Value.ref a from rx);obtain⟨mA,O,_⟩:=zag I.hok ea;obtain⟨od,J,_⟩:=O.look;exact PySem.W.kia_one (PySem.W.kitx_own (cl.get _) cl.hd ha hn htk hm) I.kIn J e (fun z=>nomatch z) h
end
end L2
namespace L2
open PySem PySem.Spec PyProof.Rows
structure Room (k:Nat) (A:Around):Prop where
 hd:A.handled=none
 dp:A.depth+3*k+5<recursionLimit
 un:A.units+16*k+200<cLine
theorem Room.mono {j k:Nat}{A:Around} (r:Room k A) (h:j<=k):Room j A:=⟨r.hd,by have:=r.dp; omega,by have:=r.un; omega⟩
theorem Room.deeper {k:Nat}{A:Around} (r:Room (k+1) A) (env:Env):Room k (A.deeper env):=
 ⟨r.hd,by have:=r.dp; show A.depth+1+3*k+5<_; omega,by have:=r.un; show A.units+3+16*k+200<_; omega⟩
theorem Room.in1 {k:Nat}{A:Around} (r:Room (k+1) A):Room k A.in1:=
 ⟨r.hd,by have:=r.dp; show A.depth+3*k+5<_; omega,by have:=r.un; show A.units+1+16*k+200<_; omega⟩
theorem Room.depth {k:Nat}{A:Around} (r:Room k A):A.depth<recursionLimit:=by have:=r.dp; omega
theorem Room.units {k:Nat}{A:Around} (r:Room k A):A.units+64<cLine:=by have:=r.un; omega
def tNil:TA:=fun _ H Q=>Q [] H
def zQ (ta:TE) (tr:TA):TA:=fun σ H Q=>ta σ H fun x H1=>tr σ H1 fun xs H2=>Q (x::xs) H2
section
variable {X:Cx}{e:Expr}{es:List Expr}{te:TE}{t:TA}{pos:Pos}
theorem pa_nil:PA X [] tNil:=fun _ _ _ _ H Q I h=>Calls.spliced_nil ⟨[],H,I,.nil,h⟩
theorem pa_cons (ha:PE X e te) (hr:PA X es t) (hs:starEach (e::es) X.env=(false,eval e X.env)::starEach es X.env:=by rfl):PA X (e::es) (zQ te t):=by
 intro pos pins s σ H Q I h;rw[hs];show wpAny _ _ (spliced ((false,eval e X.env)::backTo pos (starEach es X.env))) _ _ s;refine Calls.spliced_cons (thn (ha pins s σ H _ I h) fun u s1 ⟨x,H1,I1,r1,q1⟩=>?_);exact thn (hr pos pins s1 σ H1 _ I1 q1) fun us s2 ⟨xs,H2,I2,r2,q2⟩=>⟨x::xs,H2,I2,.cons r1 r2,q2⟩
def tTup (t:TA):TE:=fun σ H Q=>t σ H fun xs H1=>xs.length<=sizeLine/\∀p,H1 p=none->Q (.ref p) (upd H1 p (.tup xs))
def tLst (t:TA):TE:=fun σ H Q=>t σ H fun xs H1=>xs.length<=sizeLine/\∀p,H1 p=none->Q (.ref p) (upd H1 p (.lst xs))
theorem zaX {x1} (h:PA X es t):PE X (.Tuple es x1 pos) (tTup t):=by
 intro pins s σ H Q I hq;refine wpAny_Tuple_spliced (thn (h pos pins s σ H _ I hq) fun us s1 ⟨xs,H1,I1,r,z,q⟩=>⟨by rw[<- r.length]; exact z,?_⟩);have hf:H1 s1.heap.objs.size=none:=I1.hok.fresh (Af _);refine⟨.ref s1.heap.objs.size,upd H1 s1.heap.objs.size (.tup xs),I1.laid (t':=s1.toks) (fun b u e=>Ad _ e) (Af _) ?_,rfl,q _ hf⟩;exact⟨z,us,r,⟨_,Al _ rfl,rfl,_,rfl⟩⟩
theorem zO (h:PA X es t):PE X (.List es pos) (tLst t):=by
 intro pins s σ H Q I hq;refine wpAny_List_spliced (thn (h pos pins s σ H _ I hq) fun us s1 ⟨xs,H1,I1,r,z,q⟩=>⟨by rw[<- r.length]; exact z,?_⟩);have hf:H1 s1.heap.objs.size=none:=I1.hok.fresh (Af _);refine⟨.ref s1.heap.objs.size,upd H1 s1.heap.objs.size (.lst xs),I1.laid (t':=s1.toks) (fun b u e=>Ad _ e) (Af _) ?_,rfl,q _ hf⟩;exact⟨z,us,0,r,Al _ rfl⟩
end
abbrev Sp:=List V->Hp->VK->XK->Prop
abbrev CXT:=List Env->Hp->Shared->XK->Value->Shared->Prop
structure Env0 (P:Program) (w:World) (K:Ae) (mg:Str->Option Value) (base:Heap) (A:Around) (outer:List Env) (s:Shared) (H:Hp):Prop where
 frames:A.frames=some outer
 mod:Mod K mg base
 bs:∀b o,base.get? b=some o->s.heap.get? b=some o/\H b=none
 bsz:base.objs.size<=s.heap.objs.size
 funs:s.heap.FunFrames base outer
 frf:∀b∈frs outer,H b=none
 hok:HOk P w H s.heap
 bare:AllBare s.gens
def CE (outer:List Env) (P:Program) (w:World) (H:Hp) (s:Shared) (Q:VK) (u:Value) (s':Shared):Prop:=
 ∃v H',s'.os=s.os/\AllBare s'.gens/\Un (frs outer) [] H H' s.heap s'.heap/\HOk P w H' s'.heap/\RelV v u/\Q v H'
def CR (CX:CXT) (outer:List Env) (P:Program) (w:World) (H:Hp) (s:Shared) (Q:VK) (E:XK) (r:Result) (s':Shared):Prop:=
 match r with
 | .ok (.ret u)=>CE outer P w H s Q u s'
 | .ok _=>False
 | .error e=>CX outer H s E e s'
structure FnOk (P:Program) (w:World) (K:Ae) (mg:Str->Option Value) (base:Heap) (CX:CXT) (k:Nat) (f:Addr) (fd:FuncData) (ps:List Str) (sp:Sp):Prop where
 len:∀vs H Q E,sp vs H Q E->vs.length=ps.length
 run:∀(A:Around) (outer:List Env) (s:Shared) (H:Hp) (args:Args) (us:List Value) (vs:List V) (Q:VK) (E:XK),Room k A->Env0 P w K mg base A outer s H->BindsTo s fd args (ps.zip us)->Vals vs us->sp vs H Q E->
  codeAny (model P w) A (.call (.ref f) args) (CR CX outer P w H s Q E) s
theorem Env0.in1 {P:Program}{w:World}{K:Ae}{mg:Str->Option Value}{base:Heap}{A:Around}{outer:List Env}{s:Shared}{H:Hp} (e:Env0 P w K mg base A outer s H) :
  Env0 P w K mg base A.in1 outer s H:=⟨e.frames,e.mod,e.bs,e.bsz,e.funs,e.frf,e.hok,e.bare⟩
section
variable {X:Cx}{pins:List (Addr×Obj)}{σ:St}{H:Hp}{s s':Shared}
theorem Inv.env0 (I:Inv X pins σ H s):Env0 X.prog X.w X.K X.mg X.base X.A X.stack s H:=
 ⟨I.ok.frames,I.ok.mod,I.bs,AF I.ok.bsz I.sz,I.stack,I.stkFree,I.hok,I.bare⟩
theorem Inv.after {Q:VK}{u:Value} (I:Inv X pins σ H s) (h:CE X.stack X.prog X.w H s Q u s'):EP X pins σ Q u s':=by
 obtain⟨v,H',os,bare,un,hok,r,q⟩:=h;obtain⟨hh,g,d,t,os'⟩:=s';obtain rfl:os'=s.os:=os;exact⟨v,H',I.call (h':=hh) (g':=g) (d':=d) (t':=t) (ch:=[]) un hok bare (fun b z=>absurd z (by simp)),r,q⟩
end
def zlw (sp:Sp) (dvs:List V) (E:XK) (t:TA):TE:=fun σ H Q=>t σ H fun vs H1=>sp (vs++dvs) H1 Q E
def Binds (K:Ae) (fd:FuncData) (ps:List Str) (ds:List Value):Prop:=
 ∀(s:Shared) (us:List Value),K.In s.heap->(us++ds).length=ps.length->BindsTo s fd ⟨us,[]⟩ (ps.zip (us++ds))
theorem Binds.all {K:Ae}{fd:FuncData}{ps:List Str} (h:∀us:List Value,us.length=ps.length->bindArgs fd ⟨us,[]⟩=pure (ps.zip us)):Binds K fd ps []:=fun s us _ hl=>by
 rw[List.append_nil] at hl ⊢;exact .of_eq (h us hl)
def Passes (CX:CXT) (X:Cx) (E:XK):Prop:=∀(pins:List (Addr×Obj)) (σ:St) (H:Hp) (s:Shared) (e:Value) (s':Shared),Inv X pins σ H s->CX X.stack H s E e s'->X.xe e s'
section
variable {X:Cx}{CX:CXT}{k:Nat}{f C:Addr}{fd:FuncData}{ps:List Str}{sp:Sp}{dvs:List V}{ds:List Value}{E:XK}{x m:Str}{p pos apos:Pos}{e o:Expr}{es:List Expr}{ta:TE}{t:TA}
theorem zmw {pins:List (Addr×Obj)}{σ:St}{H:Hp}{s:Shared}{Q:VK}{us:List Value}{vs:List V} (F:FnOk X.prog X.w X.K X.mg X.base CX k f fd ps sp) (hr:Room k X.A) (hb:Binds X.K fd ps ds) (hd:Vals dvs ds) (hx:Passes CX X E)
  (I:Inv X pins σ H s) (r:Vals vs us) (h:sp (vs++dvs) H Q E):wpAny (model X.prog X.w) X.A (call (.ref f) us) (EP X pins σ Q) X.xe s:=by
 have r2:Vals (vs++dvs) (us++ds):=r.append hd;have hl:(us++ds).length=ps.length:=by rw[<- r2.length]; exact F.len _ _ _ _ h
 refine wpAny_call (codeAny_mono (F.run X.A X.stack s H ⟨us,[]⟩ (us++ds) (vs++dvs) Q E hr I.env0 (hb s us I.kIn hl) r2 h) fun r s' hq=>?_);cases r with
 | error e=>exact hx pins σ H s e s' I hq
 | ok fl=>
  cases fl with
  | ret u=>exact I.after hq
  | next=>exact False.elim hq
  | brk=>exact False.elim hq
  | cont=>exact False.elim hq
theorem zi (F:FnOk X.prog X.w X.K X.mg X.base CX k f fd ps sp) (hr:Room k X.A) (hg:Gl X x) (hm:X.mg x=some (.ref f)) (hk:AA X.K (.ref f)=true) (hb:Binds X.K fd ps ds) (hd:Vals dvs ds) (hx:Passes CX X E)
  (ha:PA X (e::es) t) (hdb:(x == ("__debug__":Str))=false:=by decide) (he:starEach (e::es) X.env=(false,eval e X.env)::starEach es X.env:=by rfl) (hpl:(backTo pos (starEach es X.env)).any (·.1)=false:=by rfl) :
  PE X (.Call (.Name x p) (e::es) [] pos) (zlw sp dvs E t):=by
 intro pins s σ H Q I h;refine wpAny_Call_Name_kw (zcv I hg hm ?_ hdb);refine PySem.W.callWith_K (h₀:=X.base) I.ok.mod.kin hk (thn (ha pos pins s σ H _ I h) fun us s1 ⟨vs,H1,I1,r,q⟩=>⟨I1.kIn,?_⟩) he hpl;exact zmw F hr hb hd hx I1 r q
structure Mk (K:Ae) (C f:Addr):Prop where
 makes:PySem.W.makesIn K C=true
 init:PySem.W.findIn K (.ref C) "__init__"=some (some (.ref f))
 fn:PySem.W.isFn K (.ref f)=true
 kp:AA K (.ref C)=true
end
section
variable {X:Cx}{CX:CXT}{k:Nat}{f C:Addr}{fd:FuncData}{ps ks:List Str}{sp:Sp}{E:XK}{x m:Str}{p pos apos kpos:Pos}{e o:Expr}{es:List Expr}{kws:List Keyword}{te ta:TE}{t tk:TA}{nm:Option Str}
variable {g:List Value->List Value->List Value}{gV:List V->List V->List V}
end
structure zp (N P:List Str) (sc:Scope):Prop where
 kind:sc.kind=.function
 co:sc.isCoroutine=false
 gen:sc.isGenerator=false
 nd:N.Nodup
 pre:N.take P.length=P
 par:∀x∈P,sc.names.lookup x=some .local \/ sc.names.lookup x=some .cell
 nofree:∀y∈sc.names,y.2≠.free
theorem zdQ {kindOf:Str->Option NameKind}{x:Str}:∀{binds:List (Str×Value)}{m:Str->Option Value},(∀v,(x,v)∉binds)->bindL kindOf binds m x=m x
 | [],_,_=>rfl
 | (n,v)::r,m,h=>by
  unfold bindL;rw[zdQ fun w hw=>h w (Ax _ hw)];split
  ·have:x≠n:=by rintro rfl; exact h v AB
   simp[this]
  ·rfl
theorem zef {kindOf:Str->Option NameKind}{x:Str}:∀{binds:List (Str×Value)}{m:Str->Option Value},(∀v,(x,v)∉binds)->bindC kindOf binds m x=m x
 | [],_,_=>rfl
 | (n,v)::r,m,h=>by
  unfold bindC;rw[zef fun w hw=>h w (Ax _ hw)];split
  ·rfl
  ·have:x≠n:=by rintro rfl; exact h v AB
   simp[this]
theorem zeq {kindOf:Str->Option NameKind}{x:Str}{v:Value}:∀{P:List Str}{vs:List Value}{i:Nat}{m:Str->Option Value},P.Nodup->P[i]?=some x->vs[i]?=some v->kindOf x=some .local->
  bindL kindOf (P.zip vs) m x=some v
 | [],_,_,_,_,h,_,_=>by simp at h
 | _::_,[],_,_,_,_,h,_=>by simp at h
 | p::P,w::vs,0,m,nd,h1,h2,hk=>by
  simp at h1 h2; subst h1; subst h2;show bindL kindOf ((p,w)::P.zip vs) m p=_;unfold bindL;rw[zdQ fun v hv=>(List.nodup_cons.mp nd).1 (List.of_mem_zip hv).1,if_pos hk];simp
 | p::P,w::vs,i+1,m,nd,h1,h2,hk=>by
  show bindL kindOf ((p,w)::P.zip vs) m x=_;unfold bindL;exact zeq (i:=i) (List.nodup_cons.mp nd).2 (by simpa using h1) (by simpa using h2) hk
theorem zej {kindOf:Str->Option NameKind}{x:Str}{v:Value}:∀{P:List Str}{vs:List Value}{i:Nat}{m:Str->Option Value},P.Nodup->P[i]?=some x->vs[i]?=some v->kindOf x≠some .local->
  bindC kindOf (P.zip vs) m x=some v
 | [],_,_,_,_,h,_,_=>by simp at h
 | _::_,[],_,_,_,_,h,_=>by simp at h
 | p::P,w::vs,0,m,nd,h1,h2,hk=>by
  simp at h1 h2; subst h1; subst h2;show bindC kindOf ((p,w)::P.zip vs) m p=_;unfold bindC;rw[zef fun v hv=>(List.nodup_cons.mp nd).1 (List.of_mem_zip hv).1,if_neg hk];simp
 | p::P,w::vs,i+1,m,nd,h1,h2,hk=>by
  show bindC kindOf ((p,w)::P.zip vs) m x=_;unfold bindC;exact zej (i:=i) (List.nodup_cons.mp nd).2 (by simpa using h1) (by simpa using h2) hk
def start (N:List Str) (vs:List V):St:=vs.map some++List.replicate (N.length - vs.length) none
def cxOf (CX:CXT) (P:Program) (w:World) (K:Ae) (mg:Str->Option Value) (base:Heap) (N:List Str) (qual:Str) (scope:Scope) (f:Addr) (cd:Value) (A:Around) (outer:List Env) (s:Shared) (H:Hp) (E:XK):Cx where
 prog:=P
 w:=w
 K:=K
 mg:=mg
 base:=base
 A:=A.deeper (envOfC qual scope s.heap.objs.size f cd)
 N:=N
 s₀:=s
 H₀:=H
 env:=envOfC qual scope s.heap.objs.size f cd
 outer:=outer
 stack:=envOfC qual scope s.heap.objs.size f cd::outer
 ex:=[]
 calm:=true
 fn:=fun _=>true
 pn:=[]
 xe:=fun e s'=>wpAny (model P w) (A.deeper (envOfC qual scope s.heap.objs.size f cd)) (leaving (envOfC qual scope s.heap.objs.size f cd) e) (fun _ s''=>CX outer H s E e s'') (fun e' s''=>CX outer H s E e' s'') s'
theorem zfn {sc:Scope}{n:Nat}{x:Str} (h:sc.names.lookup x=some .cell):∃c,(Bg n sc.names []).lookup x=some c:=by
 have q:=PySem.W.cellsFrom_some sc.names n [] (.inl h);exact Option.isSome_iff_exists.mp q
theorem zeh {CX:CXT}{P:Program}{w:World}{K:Ae}{mg:Str->Option Value}{base:Heap}{N ps:List Str}{qual:Str}{scope:Scope}{f:Addr}{cd:Value}{A:Around}{outer:List Env}{s s1:Shared}{H:Hp}{E:XK}{us:List Value}{vs:List V}
  (S:zp N ps scope) (hd:A.handled=none) (e0:Env0 P w K mg base A outer s H) (hl:vs.length=ps.length) (r:Vals vs us)
  (x:InCallC s s.heap.objs.size (bindL (envOfC qual scope s.heap.objs.size f cd).kindOf (ps.zip us) fun _=>none) (Bg (s.heap.objs.size+1) scope.names []) (bindC (envOfC qual scope s.heap.objs.size f cd).kindOf (ps.zip us) fun _=>none) s1) :
  Inv (cxOf CX P w K mg base N qual scope f cd A outer s H E) [] (start N vs) H s1:=by
 have hpl:ps.length<=N.length:=by have:=congrArg List.length S.pre; rw[AS] at this; omega
 obtain⟨h1,tk,rfl,hk⟩:=x.done;have noA:∀b:Addr,b∉(cxOf CX P w K mg base N qual scope f cd A outer s H E).ex:=fun b z=>absurd (show b∈([]:List Addr) from z) (by simp);refine⟨⟨e0.mod,S.kind,rfl,rfl,Af _,fun y z c h1 h2=>?_,fun y hy=>?_,fun y c _ h=>?_,fun _=>hd,Around.frames_deeper e0.frames,.inr ⟨rfl,rfl⟩,fun b z=>absurd z (noA b),e0.bs,e0.bsz,fun b _ _=>noA b,fun b z=>absurd z (noA b),e0.funs,e0.frf⟩,
  rfl,e0.bare,Un.kept hk,⟨_,x.toInCall.ns,fun i y v h1 h2 h3=>?_⟩,fun y c h=>⟨_,x.cell y c h⟩,e0.hok.fresh (Af _),fun y c h=>?_,fun p hp=>absurd (show p∈([]:List (Addr×Obj)) from hp) (by simp),e0.hok.kept hk,?_⟩
 ·exact name_of_addr x.apart (A3 h1) (A3 h2)
 ·have hy:scope.names.lookup y=some .cell \/ scope.names.lookup y=some .free:=hy
  rcases hy with hy | hy
  ·exact zfn hy
  ·exact absurd rfl (S.nofree _ (A3 hy))
 ·exact Nat.le_of_lt (x.above y c (A3 h))
 ·have hi:i<vs.length:=by
   unfold start at h2
   by_cases hi:i<vs.length
   ·exact hi
   ·rw[List.getElem?_append_right (by simpa using hi)] at h2
    rw[List.getElem?_replicate] at h2;split at h2 <;> cases h2
  have ha:vs[i]?=some v:=by
   unfold start at h2;rw[List.getElem?_append_left (by simpa using hi),Ap] at h2;cases e:vs[i]? with
   | none=>rw[e] at h2; cases h2
   | some a=>rw[e] at h2; cases h2; rfl
  obtain⟨u,hu,rv⟩:=r.get ha;have hp:ps[i]?=some y:=by
   rw[<- S.pre,List.getElem?_take_of_lt (by omega)]; exact h1
  have ndP:ps.Nodup:=by rw[<- S.pre]; exact S.nd.sublist (List.take_sublist _ _)
  refine⟨u,rv,?_⟩;rcases S.par y (Aq hp) with k | k
  ·exact .inl ⟨k,zeq ndP hp hu k⟩
  ·obtain⟨c,e⟩:=zfn (n:=s.heap.objs.size+1) k
   refine .inr ⟨.inl k,c,e,?_⟩;have q:=x.cell y c e;rw[zej ndP hp hu (by show scope.names.lookup y≠_; rw[k]; decide)] at q;exact q
 ·exact e0.hok.fresh (Nat.le_of_lt (x.above y c (A3 h)))
 ·unfold start
  show _=N.length;rw[At,Ab,List.length_replicate];omega
theorem zlR {CX:CXT}{P:Program}{w:World}{K:Ae}{mg:Str->Option Value}{base:Heap}{k:Nat}{f:Addr}{name qual:Str}{params:Arguments}{body:List Stmt}{scope:Scope}{dV kV doc pm cdv ct oc:Value}{an od:Option Addr}
  {osl:Array (Option Value)} {N ps:List Str} {sp:Sp} (lk:K.lookup f=some ⟨oc,od,.func (AE name qual params body scope dV kV doc pm an cdv ct),osl⟩) (hcd:AC K cdv qual=true) (S:zp N ps scope)
  (len:∀vs H Q E,sp vs H Q E->vs.length=ps.length)
  (hbody:∀(A:Around) (outer:List Env) (s:Shared) (H:Hp) (vs:List V) (Q:VK) (E:XK),Room k (A.deeper (envOfC qual scope s.heap.objs.size f cdv))->sp vs H Q E->
   ∃t,PSs (cxOf CX P w K mg base N qual scope f cdv A outer s H E) body t/\t { nx:=fun _ H'=>Q .non H',rt:=Q } (start N vs) H) :
  FnOk P w K mg base CX (k+1) f (AE name qual params body scope dV kV doc pm an cdv ct) ps sp:=by
 refine⟨len,fun A outer s H args us vs Q E hr e0 hb r hsp=>?_⟩;have hl:=len _ _ _ _ hsp;have KX:K.In s.heap:=e0.mod.kin.keeps fun b o e=>(e0.bs b o e).1;have lim:s.heap.NoLimit:=e0.mod.nolimit.keeps fun b o e=>(e0.bs b o e).1;have hkind:∀y∈ps.zip us,scope.names.lookup y.1=some .local \/ (scope.names.lookup y.1=some .cell/\((Bg (s.heap.objs.size+1) scope.names []).lookup y.1).isSome=true):=fun ⟨n,v⟩ hy=>by
  rcases S.par n (List.of_mem_zip hy).1 with q | q
  ·exact .inl q
  ·exact .inr ⟨q,PySem.W.cellsFrom_some _ _ _ (.inl q)⟩
 refine codeAny_call_function hr.depth (KX _ _ lk) rfl S.co S.gen rfl (PySem.W.codeRec_of KX hcd) (hb _ _ _ _ ?_);refine wpAny_newFunctionEnv_cells S.kind hkind fun env he s1 x=>?_;subst he;refine⟨lim.keeps x.toInCall.keep,codeAny_func ?_⟩;obtain⟨t,ht,hq⟩:=hbody A outer s H vs Q E (hr.deeper _) hsp;have I:Inv (cxOf CX P w K mg base N qual scope f cdv A outer s H E) [] (start N vs) H s1:=zeh S hr.hd e0 hl r x;refine Ba (ht [] s1 (start N vs) H _ I hq) (fun fl s' hs=>?_) fun e s' hs=>hs;have fin:∀{σ':St} {H':Hp} {v:V} {u:Value},Inv (cxOf CX P w K mg base N qual scope f cdv A outer s H E) [] σ' H' s'->RelV v u->Q v H'->CE outer P w H s Q u s':=
  fun {σ' H' v u} J rv q=>⟨v,H',J.os,J.bare,J.base,J.hok,rv,q⟩
 cases fl with
 | ret u=>
  obtain⟨v,σ',H',J,rv,q⟩:=hs;exact fin J rv q
 | next=>
  obtain⟨σ',H',J,q⟩:=hs;exact fin (v:=V.non) (u:=Value.none) J rfl q
 | brk=>
  obtain⟨_,_,_,q⟩:=hs;exact False.elim q
 | cont=>
  obtain⟨_,_,_,q⟩:=hs;exact False.elim q
end L2
namespace L2
open PySem PySem.Spec PyProof.Rows
section
variable {X:Cx}{x:Str}{p pos:Pos}{e:Expr}{es:List Expr}{t:TA}{id T:String}{r:List V->Hp->VK->Prop}
def tCB (r:List V->Hp->VK->Prop) (t:TA):TE:=fun σ H Q=>t σ H fun vs H1=>r vs H1 Q
theorem zj (hc:zat X (.builtin id) r) (hg:Gl X x) (hm:X.mg x=none) (hv:A5 x=some (.builtin id)) (ha:PA X (e::es) t) (hn:x≠"__name__":=by decide) (hdb:(x == ("__debug__":Str))=false:=by decide)
  (he:starEach (e::es) X.env=(false,eval e X.env)::starEach es X.env:=by rfl) (hpl:(backTo pos (starEach es X.env)).any (·.1)=false:=by rfl):PE X (.Call (.Name x p) (e::es) [] pos) (tCB r t):=by
 intro pins s σ H Q I h;refine wpAny_Call_Name_kw (zcr I hg hm hv ?_ hn hdb);exact PyProof.Rows.callWith_builtin1 (thn (ha pos pins s σ H _ I h) fun us s1 ⟨vs,H1,I1,r1,q1⟩=>hc pins s1 σ H1 vs us Q I1 r1 q1) he hpl
theorem zx (hc:zat X (.type T) r) (hg:Gl X x) (hm:X.mg x=none) (hv:A5 x=some (.type T)) (ha:PA X (e::es) t) (hn:x≠"__name__":=by decide) (hdb:(x == ("__debug__":Str))=false:=by decide)
  (he:starEach (e::es) X.env=(false,eval e X.env)::starEach es X.env:=by rfl) (hpl:(backTo pos (starEach es X.env)).any (·.1)=false:=by rfl):PE X (.Call (.Name x p) (e::es) [] pos) (tCB r t):=by
 intro pins s σ H Q I h;refine wpAny_Call_Name_kw (zcr I hg hm hv ?_ hn hdb);exact PyProof.Rows.callWith_type1 (thn (ha pos pins s σ H _ I h) fun us s1 ⟨vs,H1,I1,r1,q1⟩=>hc pins s1 σ H1 vs us Q I1 r1 q1) he hpl
end
end L2
namespace HT
open PySem PyProof.Rows
def lexLt:List Int->List Int->Bool
 | [],[]=>false
 | [],_::_=>true
 | _::_,[]=>false
 | x::xs,y::ys=>if x=y then lexLt xs ys else decide (x<y)
theorem zE (x y:Int) (xs ys:List Int):lexLt (x::xs) (y::ys)=if x=y then lexLt xs ys else decide (x<y):=rfl
theorem zbJ:lexLt [] []=false:=rfl
theorem zX (y:Int) (ys:List Int):lexLt [] (y::ys)=true:=rfl
theorem zbu (x:Int) (xs:List Int):lexLt (x::xs) []=false:=rfl
theorem zjf (A:Around) (s:Shared) (a:Int) (t:Tok) (c:Int) (u:Tok):∃e,SeqAt.EqAt A s (.int a t) (.int c u) e/\(e=true ↔ a=c):=
 ⟨(a == c),SeqAt.EqAt.int_int a t c u,by simp⟩
theorem zix (A:Around) (s:Shared) (a:Int) (t:Tok) (c:Int) (u:Tok) (prog:Program) (w:World) (E:Value->Shared->Prop) (Q:Value->Shared->Prop) (h:Q (.bool (decide (a<c))) s) :
  wpAny (model prog w) A (richCompare .Lt (.int a t) (.int c u)) Q E s:=
 (PyProof.Rows.lt_int h:wpAny (model prog w) A (compareOp .Lt (.int a t) (.int c u)) Q E s)
section
open PySem.SeqAt
open PySem.AutoSeq1 (wpAny_loadPart')
open PySem.MeetsSeq PySem.MeetsSeq2 PySem.MeetsSeq3
theorem zdb (l b:Addr) (items items2:Array Value) (n n2:Nat) (dd dd2:Option Addr) (sl sl2:Array (Option Value)) (ns ms:List Int) (hi:IntsAre items.toList ns) (hj:IntsAre items2.toList ms) :
  Meets (Builtin.«tuple.__lt__» ⟨[.ref l,.ref b],[]⟩)
   (fun _ R s=>s.heap.get? l=some { cls:=.type "tuple",dict:=dd,data:=.seq items n,slots:=sl }/\s.heap.get? b=some { cls:=.type "tuple",dict:=dd2,data:=.seq items2 n2,slots:=sl2 }/\
    R (.ok (.ret (.bool (lexLt ns ms)))) s):=
 .of_wp fun prog w A R s h=>by
  obtain⟨hp,g,d,tk,os⟩:=s; obtain⟨hl,hb,h⟩:=h;have f2:=AutoSeq1.sub_tuple_tuple;have z1:items.size=ns.length:=by rw[<- hi.length]; simp
  have z2:items2.size=ms.length:=by rw[<- hj.length]; simp
  wp_walk using wpAny_loadPart' hl,wpAny_loadPart' hb,wpAny_forIn_list _ (fun rest b s'=>b.1=none/\s'=⟨hp,g,d,tk,os⟩/\∃(vs ws:List Value) (ns' ms':List Int),rest=vs.zip ws/\
   IntsAre vs ns'/\IntsAre ws ms'/\ns'.length+items2.size=ms'.length+items.size/\R (.ok (.ret (.bool (lexLt ns' ms')))) ⟨hp,g,d,tk,os⟩) _
  case turn=>
   rintro⟨y,x⟩ rest b s' ⟨hb',rfl,vs,ws,ns',ms',hz,hvi,hwi,hlen,hR⟩;cases hvi with
   | nil=>rw[List.zip_nil_left] at hz; cases hz
   | cons a t hvi'=>
    cases hwi with
    | nil=>rw[List.zip_nil_right] at hz; cases hz
    | cons c u hwi'=>
     rw[List.zip_cons_cons] at hz;injection hz with hyx hrest
     injection hyx with hy hx
     subst hy hx;rw[zE] at hR;simp only[As] at hlen;obtain⟨e,he,hiff⟩:=zjf A.in1 ⟨hp,g,d,tk,os⟩ a t c u;refine Aa (he prog w _ _ ?_);cases e with
     | true=>
      rw[if_pos (hiff.mp rfl)] at hR
      wp_walk
      exact⟨rfl,rfl,_,_,_,_,hrest,hvi',hwi',by omega,hR⟩
     | false=>
      rw[if_neg (fun q=>absurd (hiff.mpr q) Au)] at hR;have hri:=zix A.in1 ⟨hp,g,d,tk,os⟩ a t c u prog w
      wp_walk using hri
      exact⟨_,rfl,by simpa using hR⟩
  case fin=>
   rintro⟨b1,b2⟩ s' ⟨hb',rfl,vs,ws,ns',ms',hz,hvi,hwi,hlen,hR⟩;simp only at hb';subst hb';have hv:lexLt ns' ms'=decide (items.size<items2.size):=by
    cases hvi with
    | nil=>
     cases hwi with
     | nil=>
      simp only[List.length_nil] at hlen;rw[zbJ];exact (decide_eq_false (by omega)).symm
     | cons c u hw=>
      simp only[List.length_nil,As] at hlen;rw[zX];exact (decide_eq_true (by omega)).symm
    | cons a t hv=>
     cases hwi with
     | nil=>
      simp only[List.length_nil,As] at hlen;rw[zbu];exact (decide_eq_false (by omega)).symm
     | cons c u hw=>
      rw[List.zip_cons_cons] at hz;cases hz
   rw[hv] at hR
   wp_walk
   exact⟨_,rfl,by simpa[Builtin.Tuple.tupleCompareSizes] using hR⟩
  case h=>
   exact⟨rfl,rfl,items.toList,items2.toList,ns,ms,rfl,hi,hj,by omega,h⟩
end
section
variable {prog:Program}{w:World}{A:Around}{E:Value->Shared->Prop}{s:Shared}
theorem zgg {l b:Addr}{items items2:Array Value}{ns ms:List Int}{Q:Value->Shared->Prop} (hl:IsTup s.heap l items) (hb:IsTup s.heap b items2) (hi:IntsAre items.toList ns) (hj:IntsAre items2.toList ms)
  (hu:A.units<cLine) (h:Q (.bool (lexLt ns ms)) s):wpAny (model prog w) A (compareOp .Lt (.ref l) (.ref b)) Q E s:=by
 obtain⟨⟨cls,dd,data,sl⟩,ho,hc,n,hd⟩:=id hl;obtain⟨⟨cls2,dd2,data2,sl2⟩,ho2,hc2,n2,hd2⟩:=id hb;simp only at hc hd hc2 hd2;subst hc hd hc2 hd2;exact richCompare_meets_room (op:=.Lt) ⟨_,ho,rfl⟩ ⟨_,ho2,rfl⟩ PySem.F.slot_tuple_lt PySem.F.entry_tuple_lt (PySem.F.args_tuple_lt_2 _ _) (zdb l b items items2 n n2 dd dd2 sl sl2 ns ms hi hj)
  ⟨ho,ho2,show Value.bool (lexLt ns ms)≠Value.notImplemented/\Q (.bool (lexLt ns ms)) s from ⟨(fun x=>nomatch x),h⟩⟩ hu
theorem zkO {t b:Addr}{vs ws:List Value}{Q:Value->Shared->Prop} (ht:IsTup s.heap t vs.toArray) (hb:IsTup s.heap b ws.toArray) (hv:vs≠[])
  (h1:ws=[]->Q (.ref t) s) (h2:ws≠[]->Q (.ref s.heap.objs.size) { s with heap:=s.heap.push { cls:=.type "tuple",data:=.seq (vs++ws).toArray } })
  (hsz:vs.length+ws.length<=sizeLine):wpAny (model prog w) A (binaryOp .Add (.ref t) (.ref b)) Q E s:=by
 obtain⟨⟨cls,dd,data,sl⟩,ho,hc,n,hd⟩:=id ht;obtain⟨⟨cls2,dd2,data2,sl2⟩,ho2,hc2,n2,hd2⟩:=id hb;simp only at hc hd hc2 hd2;subst hc hd hc2 hd2;have e:vs.toArray++ws.toArray=(vs++ws).toArray:=by simp
 by_cases hw:ws=[]
 ·exact concat_meets ⟨_,ho,rfl⟩ ⟨_,ho2,rfl⟩ noFill_tuple_add seq_tuple_add PySem.F.slot_tuple_add PySem.F.entry_tuple_add (PySem.F.args_tuple_add_2 _ _)
   (tuple_addW1 t b vs.toArray ws.toArray n n2 dd dd2 sl sl2 (by simpa using hv) (by simp[hw])) ⟨ho,ho2,h1 hw⟩
 ·refine concat_meets ⟨_,ho,rfl⟩ ⟨_,ho2,rfl⟩ noFill_tuple_add seq_tuple_add PySem.F.slot_tuple_add PySem.F.entry_tuple_add (PySem.F.args_tuple_add_2 _ _)
   (tuple_addW2 t b vs.toArray ws.toArray n n2 dd dd2 sl sl2 (by simpa using hv) (by simpa using hw) (by rw[Ai,Ai]; exact hsz)) ⟨ho,ho2,?_⟩
  rw[e];exact h2 hw
def sIx (n d:Nat):Option Int->Nat
 | none=>d
 | some v=>if v<0 then (v+(n:Int)).toNat else min v.toNat n
theorem zcj (n d:Nat):sIx n d none=d:=rfl
theorem zcB (n d k:Nat):sIx n d (some (k:Int))=min k n:=by
 show (if (k:Int)<0 then ((k:Int)+(n:Int)).toNat else min (k:Int).toNat n)=min k n;rw[if_neg (by omega),Int.toNat_natCast]
theorem zlD (n d:Nat) (hd:d<=n) (o:Option Int):sIx n d o<=n:=by
 cases o with
 | none=>exact hd
 | some v=>
  show (if v<0 then (v+(n:Int)).toNat else min v.toNat n)<=n
  by_cases hv:v<0
  ·rw[if_pos hv]; omega
  ·rw[if_neg hv]; exact Nat.min_le_right _ _
theorem zgO (v:Int) (n d:Nat):(if v<0 then max (v+(n:Int)) 0 else min v (n:Int))=((sIx n d (some v):Nat):Int):=by
 show (if v<0 then max (v+(n:Int)) 0 else min v (n:Int))=(((if v<0 then (v+(n:Int)).toNat else min v.toNat n):Nat):Int)
 by_cases hv:v<0
 ·simp only[if_pos hv]; omega
 ·simp only[if_neg hv]; omega
theorem zgz (lo hi:Option Int) (n:Nat):Builtin.Slice.sliceAdjust lo hi 1 (n:Int)=(((sIx n 0 lo:Nat):Int),((sIx n n hi:Nat):Int)):=by
 have h1:¬ ((1:Int)<0):=by omega
 unfold Builtin.Slice.sliceAdjust;simp only[h1,if_false];refine Prod.ext ?_ ?_
 ·cases lo with
  | none=>rfl
  | some v=>exact zgO v n 0
 ·cases hi with
  | none=>rfl
  | some v=>exact zgO v n n
theorem zgh (i j:Nat):Builtin.Slice.slicePlaces (i:Int) (j:Int) 1=j - i:=by
 unfold Builtin.Slice.slicePlaces;have h1:(1:Int) > 0:=by omega
 simp only[h1,if_true,Int.ediv_one];split <;> omega
theorem zc7 {v:Value}{o:Option Int}{Q:Option Int->Shared->Prop} (p:IsPart v o) (h:Q o s):wpAny (model prog w) A (Builtin.Slice.slicePartIndex v) Q E s:=by
 cases p with
 | none=>exact slicePart_none h
 | int i t=>exact slicePart_int h
theorem za0 {sl:Addr}{vl vu:Value}{lo hi:Option Int}{n:Nat}{Q:Int×Int×Nat->Shared->Prop} (hs:s.heap.IsSliceOf sl vl vu .none) (pl:IsPart vl lo) (pu:IsPart vu hi)
  (h:Q (((sIx n 0 lo:Nat):Int),1,sIx n n hi - sIx n 0 lo) s):wpAny (model prog w) A (Builtin.Slice.sliceApplied (.ref sl) (pure (n:Int))) Q E s:=by
 obtain⟨os,hos,hcs,hds⟩:=id hs;unfold Builtin.Slice.sliceApplied Builtin.Slice.sliceFields;refine Aa (Aa (AU hos hds (x:=vl) rfl (Aa (AU hos hds (x:=vu) rfl (Aa (AU hos hds (x:=.none) rfl (Ac ?_)))))));refine Aa (slicePart_none ?_);show wpAny _ _ (if ((1:Int) == 0)=true then _ else _) _ _ s;rw[if_neg (by decide)];refine Aa (zc7 pl (Aa (zc7 pu (Aa (Ac ?_)))));show wpAny _ _ (match Builtin.Slice.sliceAdjust lo hi 1 (n:Int) with | (lo,hi)=>pure (lo,(1:Int),Builtin.Slice.slicePlaces lo hi 1)) _ _ s;rw[zgz lo hi n];show wpAny _ _ (pure (((sIx n 0 lo:Nat):Int),(1:Int),Builtin.Slice.slicePlaces ((sIx n 0 lo:Nat):Int) ((sIx n n hi:Nat):Int) 1)) _ _ s;rw[zgh];exact Ac h
theorem zi1 (xs:Array Value) (i k:Nat):((Bc k).filterMap fun (m:Nat)=>xs[((i:Int)+(m:Int)*1).toNat]?).toArray=((xs.toList.drop i).take k).toArray:=by
 have e:(fun (m:Nat)=>xs[((i:Int)+(m:Int)*1).toNat]?)=fun m=>xs[i+m]?:=by
  funext m
  have:((i:Int)+(m:Int)*1).toNat=i+m:=by omega
  rw[this]
 rw[e];have:=pick_run xs i k;rw[List.filterMap_map] at this;have e2:((fun x=>xs[x]?) ∘ fun x=>i+x)=fun m=>xs[i+m]?:=rfl;rw[e2] at this;rw[this]
theorem zb2 {t sl:Addr}{items:Array Value}{vl vu:Value}{lo hi:Option Int}{Q:Value->Shared->Prop} (ht:IsTup s.heap t items) (hs:s.heap.IsSliceOf sl vl vu .none) (pl:IsPart vl lo) (pu:IsPart vu hi)
  (hw:¬ (sIx items.size 0 lo=0/\sIx items.size items.size hi=items.size))
  (h:Q (.ref s.heap.objs.size) { s with heap:=s.heap.push { cls:=.type "tuple",data:=.seq ((items.toList.drop (sIx items.size 0 lo)).take (sIx items.size items.size hi - sIx items.size 0 lo)).toArray } })
  (hsz:items.size<=sizeLine):wpAny (model prog w) A (getItem (.ref t) (.ref sl)) Q E s:=by
 have htake:sizeOk (.seq ((items.toList.drop (sIx items.size 0 lo)).take (sIx items.size items.size hi - sIx items.size 0 lo)).toArray):=by
  show ((items.toList.drop (sIx items.size 0 lo)).take (sIx items.size items.size hi - sIx items.size 0 lo)).toArray.size<=sizeLine;rw[Ai,AS,List.length_drop,Az];omega
 have hj:sIx items.size items.size hi<=items.size:=zlD _ _ (Af _) hi;obtain⟨os,hos,hcs,hds⟩:=id hs;have hTs:s.TypeIs (.ref sl) "slice":=⟨os,hos,hcs⟩;unfold getItem
 try with_reducible refine AJ ?_
 first | refine Aa (Ac ?_) | skip
 refine Aa (wpAny_sequenceKey ht.typeIs (by decide) ?_);refine Aa (AX (name:=Str.ofString "__getitem__") ht.typeIs PyProof.Rows.slot_tuple_getitem
  (AR PyProof.Rows.slot_tuple_getitem ht.typeIs entry_tuple_getitem ?_ (args_tuple_getitem _ _)))
 show wpAny _ _ (Builtin.Tuple.tupleItemsOf (.ref t) >>= _) _ _ s;refine Aa (tupleItemsOf_ ht ?_);refine Aa (wpAny_typeOf hTs ?_);rw[if_pos (by decide)];refine Aa (za0 hs pl pu ?_);have hno:¬ ((((sIx items.size 0 lo:Nat):Int) == 0 && (1:Int) == 1 && (sIx items.size items.size hi - sIx items.size 0 lo) == items.size)=true):=by
  intro q;rw[AN,AN] at q;have q1:((sIx items.size 0 lo:Nat):Int)=0:=eq_of_beq q.1.1;have q2:sIx items.size items.size hi - sIx items.size 0 lo=items.size:=eq_of_beq q.2;exact hw ⟨by omega,by omega⟩
 show wpAny _ _ (if (((sIx items.size 0 lo:Nat):Int) == 0 && (1:Int) == 1 && (sIx items.size items.size hi - sIx items.size 0 lo) == items.size)=true then _ else _) _ _ s;rw[if_neg hno,zi1]
 first
  | exact Aa (m:=Builtin.Tuple.tupleExact _) (AO (Ac ⟨_,rfl,Ac h⟩) htake)
  | exact Aa (m:=Builtin.Tuple.tupleExact _) (AO (Aa (Ac (Ac ⟨_,rfl,Ac h⟩))) htake)
  | exact Aa (Aa (m:=Builtin.Tuple.tupleExact _) (AO (Ac (Ac ⟨_,rfl,Ac h⟩)) htake))
  | exact Aa (Aa (m:=Builtin.Tuple.tupleExact _) (AO (Ac ⟨_,rfl,Ac h⟩) htake))
end
end HT
namespace L2
open PySem PySem.Spec PyProof.Rows
abbrev TO:=St->Hp->(Option Int->Hp->Prop)->Prop
def PO (X:Cx) (e:Option Expr) (t:TO):Prop:=
 ∀(pins:List (Addr×Obj)) (s:Shared) (σ:St) (H:Hp) (Q:Option Int->Hp->Prop),Inv X pins σ H s->t σ H Q->
  wpAny (model X.prog X.w) X.A (evalPart e X.env) (fun u s'=>∃o H',Inv X pins σ H' s'/\IsPart u o/\Q o H') X.xe s
def zeG:TO:=fun _ H Q=>Q none H
def zlp (t:TE):TO:=fun σ H Q=>t σ H fun x H1=>∃i,x=.int i/\Q (some i) H1
theorem intsAre_of {ns:List Int}:∀{us:List Value},Vals (ns.map V.int) us->IntsAre us ns:=by
 induction ns with
 | nil=>intro us r; rw[List.map_nil] at r; cases r; exact .nil
 | cons n ns ih=>
  intro us r;rw[AK] at r;cases r with
  | cons r1 r2=>
   obtain⟨t,e⟩:=r1;subst e;exact .cons n t (ih r2)
section
variable {X:Cx}{e:Expr}{te:TE}{lo hi:Option Expr}{tl th:TO}{pos p2:Pos}
theorem zdI:PO X none zeG:=by
 intro pins s σ H Q I h;rw[evalPart_none];exact Ac ⟨none,H,I,.none,h⟩
theorem zdK (h:PE X e te):PO X (some e) (zlp te):=by
 intro pins s σ H Q I hw;rw[evalPart_some];refine thn (h pins s σ H _ I hw) fun u s1 ⟨x,H1,I1,r1,q1⟩=>?_;obtain⟨i,rfl,q⟩:=q1;obtain⟨t,rfl⟩:=r1;exact⟨some i,H1,I1,.int i t,q⟩
def SlR (X:Cx) (r:V->Option Int->Option Int->Hp->VK->Prop):Prop:=
 ∀(pins:List (Addr×Obj)) (s:Shared) (σ:St) (H:Hp) (x:V) (v vl vu:Value) (lo hi:Option Int) (sl:Addr) (Q:VK),Inv X pins σ H s->RelV x v->s.heap.IsSliceOf sl vl vu .none->IsPart vl lo->IsPart vu hi->r x lo hi H Q->
  ∃T id,typeLookup (.type T) "__getitem__"=pure (some (.builtin id))/\s.TypeIs v T/\wpAny (model X.prog X.w) X.A (getItem v (.ref sl)) (EP X pins σ Q) X.xe s
def tSl (r:V->Option Int->Option Int->Hp->VK->Prop) (te:TE) (tl th:TO):TE:=fun σ H Q=>te σ H fun x H1=>tl σ H1 fun l H2=>th σ H2 fun u H3=>r x l u H3 Q
theorem zcg {r:V->Option Int->Option Int->Hp->VK->Prop} (hr:SlR X r) (he:PE X e te) (hl:PO X lo tl) (hu:PO X hi th):PE X (.Subscript e (.Slice lo hi none p2) pos) (tSl r te tl th):=by
 intro pins s σ H Q I h;refine Subscript_ (thn (he pins s σ H _ I h) fun v s1 ⟨x,H1,I1,r1,q1⟩=>?_);refine wpAny_Slice (thn (hl pins s1 σ H1 _ I1 q1) fun vl s2 ⟨l,H2,I2,pl,q2⟩=>thn (hu pins s2 σ H2 _ I2 q2) fun vu s3 ⟨u,H3,I3,pu,q3⟩=>?_);rw[evalPart_none];refine Ac ?_;have I4:Inv X pins σ H3 { s3 with heap:=s3.heap.push { cls:=.type "slice",data:=.fields #[vl,vu,.none] } }:=I3.kept (t':=s3.toks) fun b ob q=>Ad _ q;obtain⟨T,id,hT,ht,hg⟩:=hr pins { s3 with heap:=s3.heap.push { cls:=.type "slice",data:=.fields #[vl,vu,.none] } } σ H3 x v vl vu l u s3.heap.objs.size Q I4 r1 (Heap.IsSliceOf.new ..) pl pu q3;show wpAny (model X.prog X.w) X.A (subscriptTail e (.Slice lo hi none p2) v (.ref s3.heap.objs.size)) (EP X pins σ Q) X.xe { s3 with heap:=s3.heap.push { cls:=.type "slice",data:=.fields #[vl,vu,.none] } };exact tail_any (ops:=[.ref s3.heap.objs.size,v]) ht hT hg (by with_unfolding_all rfl)
def cutV (xs:List V) (lo hi:Option Int):List V:=(xs.drop (HT.sIx xs.length 0 lo)).take (HT.sIx xs.length xs.length hi - HT.sIx xs.length 0 lo)
theorem zcC (xs:List V) (lo hi:Option Int):(cutV xs lo hi).length<=xs.length:=by
 unfold cutV;rw[AS,List.length_drop];omega
def rSlT (K:Ae):V->Option Int->Option Int->Hp->VK->Prop:=fun x lo hi H Q=>∃a xs,x=.ref a/\SqT K H a xs/\
 ¬ (HT.sIx xs.length 0 lo=0/\HT.sIx xs.length xs.length hi=xs.length)/\∀p,H p=none->Q (.ref p) (upd H p (.tup (cutV xs lo hi)))
theorem zjK:SlR X (rSlT X.K):=by
 intro pins s σ H x v vl vu lo hi sl Q I rx hs pl pu h;obtain⟨a,xs,rfl,hx,hw,q⟩:=h;cases rx;obtain⟨its,r,ht,hz⟩:=I.tuple hx;have hlen:its.toArray.size=xs.length:=by rw[Ai]; exact r.length.symm
 refine⟨"tuple",_,PyProof.Rows.slot_tuple_getitem.lookup,ht.typeIs,?_⟩;refine HT.zb2 ht hs pl pu (by rw[hlen]; exact hw) ?_ (by rw[hlen]; exact hz);rw[hlen];refine⟨.ref s.heap.objs.size,_,I.laid (t':=s.toks) (o:=.tup (cutV xs lo hi)) (fun b ob q=>Ad _ q) (Af _) ?_,rfl,q _ (I.hok.fresh (Af _))⟩;exact⟨AF (zcC xs lo hi) hz,_,(r.drop (HT.sIx xs.length 0 lo)).take (HT.sIx xs.length xs.length hi - HT.sIx xs.length 0 lo),IsTup.new _ _⟩
theorem Vals.nil_iff {xs:List V}{us:List Value} (r:Vals xs us):us=[] ↔ xs=[]:=by
 cases r with
 | nil=>simp
 | cons _ _=>simp
end
end L2
namespace L2
open PySem PySem.Spec PyProof.Rows
def ixN (n:Nat) (i:Int):Option Nat:=if 0<=i then (if i<n then some i.toNat else none) else if -(n:Int)<=i then some (i+n).toNat else none
def atI {α:Type} (xs:List α) (i:Int):Option α:=(ixN xs.length i).bind fun j=>xs[j]?
theorem zhu {n:Nat}{i:Int}{j:Nat} (h:ixN n i=some j):seqIndex? i n=some j/\j<n/\-(n:Int)<=i/\i<n:=by
 unfold ixN at h
 by_cases h0:0<=i
 ·rw[if_pos h0] at h
  by_cases h1:i<n
  ·rw[if_pos h1] at h
   have e:i.toNat=j:=Ao h;exact⟨by rw[seqIndex_of h0 h1,e],by omega,by omega,h1⟩
  ·rw[if_neg h1] at h; cases h
 ·rw[if_neg h0] at h
  by_cases h1:-(n:Int)<=i
  ·rw[if_pos h1] at h
   have e:(i+n).toNat=j:=Ao h;exact⟨by rw[seqIndex_neg (by omega) h1,e],by omega,h1,by omega⟩
  ·rw[if_neg h1] at h; cases h
theorem zhK {α:Type}{xs:List α}{i:Int}{v:α} (h:atI xs i=some v):∃j,seqIndex? i xs.length=some j/\xs[j]?=some v/\j<xs.length/\-(xs.length:Int)<=i/\i<xs.length:=by
 unfold atI at h;cases e:ixN xs.length i with
 | none=>rw[e] at h; cases h
 | some j=>
  rw[e] at h;obtain⟨h1,h2,h3,h4⟩:=zhu e;exact⟨j,h1,h,h2,h3,h4⟩
theorem zu {α:Type}{xs:List α}{j:Nat}{v:α} (h:xs[j]?=some v):atI xs (j:Int)=some v:=by
 have hj:j<xs.length:=(List.getElem?_eq_some_iff.mp h).1;have e:ixN xs.length (j:Int)=some j:=by
  unfold ixN;rw[if_pos (by omega),if_pos (by omega)]; simp
 unfold atI; rw[e]; exact h
theorem zfP {α:Type} (xs:List α) (v:α):atI (xs++[v]) (-1)=some v:=by
 have hl:(xs++[v]).length=xs.length+1:=by simp
 have e:ixN (xs++[v]).length (-1)=some xs.length:=by
  unfold ixN;rw[hl,if_neg (by decide),if_pos (by omega)]
  congr 1
  omega
 unfold atI;rw[e];show (xs++[v])[xs.length]?=some v;simp
def zlf (b:Expr):Prop:=∀o i,subscripted b false o i=operate [o,i] (getItem o i)
def IxR (X:Cx) (r:R2):Prop:=
 ∀(value slice:Expr) (pins:List (Addr×Obj)) (s:Shared) (σ:St) (H:Hp) (x y:V) (v u:Value) (Q:VK),Inv X pins σ H s->RelV x v->RelV y u->r x y H Q->
  subscripted slice false v u=operate [v,u] (getItem v u)->wpAny (model X.prog X.w) X.A (subscriptTail value slice v u) (EP X pins σ Q) X.xe s
def MtR (X:Cx) (id:String) (r:V->List V->Hp->VK->Prop):Prop:=
 ∀(pins:List (Addr×Obj)) (s:Shared) (σ:St) (H:Hp) (x:V) (xs:List V) (v:Value) (us:List Value) (Q:VK),Inv X pins σ H s->RelV x v->Vals xs us->r x xs H Q->
  wpAny (model X.prog X.w) X.A (call (.builtin id) (v::us)) (EP X pins σ Q) X.xe s
section
variable {X:Cx}{a b:Expr}{ta tb:TE}{pos:Pos}
theorem zK {r:R2} (hr:IxR X r) (ha:PE X a ta) (hb:PE X b tb) (hs:zlf b):PE X (.Subscript a b pos) (tOp r ta tb):=by
 intro pins s σ H Q I h;exact Subscript_ (binT ha hb I h fun v u s2 x y H2 I2 rx ry q=>hr a b pins s2 σ H2 x y v u Q I2 rx ry q (hs _ _))
def rIxL (K:Ae):R2:=fun x y H Q=>∃p xs i v,x=.ref p/\y=.int i/\SqL K H p xs/\atI xs i=some v/\Q v H
def rIxT (K:Ae):R2:=fun x y H Q=>∃p xs i v,x=.ref p/\y=.int i/\SqT K H p xs/\atI xs i=some v/\Q v H
theorem zC:IxR X (rIxL X.K):=by
 intro value slice pins s σ H x y v u Q I rx ry h hs;obtain⟨p,xs,i,z,rfl,rfl,hq,he,q⟩:=h;cases rx;obtain⟨t,rfl⟩:=ry;obtain⟨its,r,pl,hz⟩:=I.list hq;obtain⟨j,h1,h2,h3,h4,h5⟩:=zhK he;obtain⟨w,ew,rw'⟩:=r.get h2;have hl:=r.length;have hn:=line63;have fin:EP X pins σ Q w s:=⟨z,H,I,rw',q⟩
 by_cases h0:0<=i
 ·have hj:i.toNat=j:=by
   rw[seqIndex_of h0 h5] at h1;exact Ao h1
  exact item_listR pl.isList h0 (by omega) (by rw[hj]; simpa using ew) fin hs
 ·have hj:(i+(its.toArray.size:Int)).toNat=j:=by
   rw[seqIndex_neg (by omega) h4] at h1;rw[Ai,<- hl];exact Ao h1
  exact subscriptTail_builtinR (x:=w) pl.isList.typeIs slot_list_getitem.lookup
   (wpAny_getItem_list_neg (Q:=fun r s'=>r=w/\EP X pins σ Q r s') pl.isList (by omega) (by rw[Ai] <;> omega) (by omega) (by rw[hj]; simpa using ew) ⟨rfl,fin⟩) hs
theorem zaw:IxR X (rIxT X.K):=by
 intro value slice pins s σ H x y v u Q I rx ry h hs;obtain⟨p,xs,i,z,rfl,rfl,hq,he,q⟩:=h;cases rx;obtain⟨t,rfl⟩:=ry;obtain⟨its,r,pl,hz⟩:=I.tuple hq;obtain⟨j,h1,h2,h3,h4,h5⟩:=zhK he;obtain⟨w,ew,rw'⟩:=r.get h2;have hl:=r.length;have hn:=line63;have fin:EP X pins σ Q w s:=⟨z,H,I,rw',q⟩;exact subscriptTail_builtinR (x:=w) pl.typeIs slot_tuple_getitem.lookup
  (getItem_tuple (j:=j) (Q:=fun r s'=>r=w/\EP X pins σ Q r s') pl (by omega) (by omega) (by rw[Ai,<- hl]; exact h1) (by simpa using ew) ⟨rfl,fin⟩) hs
theorem zgm (its:List Value) (n j:Nat) (u:Value):AI (·.setIfInBounds j u) { cls:=.type "list",data:=.seq its.toArray n }={ cls:=.type "list",data:=.seq (its.set j u).toArray n }:=by
 simp[AI]
theorem Inv.lst {pins:List (Addr×Obj)}{σ:St}{H:Hp}{s:Shared}{p:Addr}{xs:List V} (I:Inv X pins σ H s) (h:H p=some (.lst xs)) :
  ∃(its:List Value) (n:Nat),Vals xs its/\s.heap.get? p=some { cls:=.type "list",data:=.seq its.toArray n }/\xs.length<=sizeLine:=by
 obtain⟨z,its,n,r,e⟩:=I.hok p _ h;exact⟨its,n,r,e,z⟩
theorem Inv.lstUpd {pins:List (Addr×Obj)}{σ:St}{H:Hp}{s:Shared}{p:Addr}{xs ys:List V}{its its':List Value}{n n':Nat}{f:Obj->Obj} (I:Inv X pins σ H s) (h:H p=some (.lst xs))
  (ho:s.heap.get? p=some { cls:=.type "list",data:=.seq its.toArray n }) (hf:f { cls:=.type "list",data:=.seq its.toArray n }={ cls:=.type "list",data:=.seq its'.toArray n' }) (r:Vals ys its') (hz:ys.length<=sizeLine) (t:Nat) :
  Inv X pins σ (upd H p (.lst ys)) { s with heap:=s.heap.update p f,toks:=t }:=by
 have e:(s.heap.update p f).get? p=some { cls:=.type "list",data:=.seq its'.toArray n' }:=by
  rw[Heap.get?_update_self f ho (by rw[hf] <;> rfl),hf]
 refine I.write (x:=p) (e:=p) (by rw[h]; trivial) (.inl rfl) (fun b u hb q=>(Heap.get?_update_other _ _ (Ne.symm hb)).trans q) ⟨_,e⟩ ?_;exact⟨hz,its',n',r,e⟩
def zmM:V->V->V->Hp->(Hp->Prop)->Prop:=fun o i v H Q=>∃p xs k j,o=.ref p/\i=.int k/\H p=some (.lst xs)/\ixN xs.length k=some j/\Q (upd H p (.lst (xs.set j v)))
theorem set_list:PSet X zmM:=by
 intro pins s σ H o i v ov iv u Q I ro ri rv h;obtain⟨p,xs,k,j,rfl,rfl,hp,hj,q⟩:=h;cases ro;obtain⟨t,rfl⟩:=ri;obtain⟨its,n,r,ho,hz⟩:=I.lst hp;obtain⟨h1,h2,h3,h4⟩:=zhu hj;have hl:=r.length;have hn:=line63;have I':Inv X pins σ (upd H p (.lst (xs.set j v))) { s with heap:=s.heap.update p (AI (·.setIfInBounds j u)) }:=
  I.lstUpd hp ho (zgm its n j u) (r.set rv j) (by rw[List.length_set]; exact hz) s.toks
 by_cases h0:0<=k
 ·have hk:k.toNat=j:=by
   rw[seqIndex_of h0 h4] at h1;exact Ao h1
  exact PySem.W.ki_setAt ho h0 (by omega) (by rw[Ai,<- hl]; exact h4) (by rw[hk]; exact⟨_,I',q⟩)
 ·have hk:(k+(its.toArray.size:Int)).toNat=j:=by
   rw[seqIndex_neg (by omega) h3] at h1;rw[Ai,<- hl];exact Ao h1
  exact PySem.W.ki_setBack ho (by omega) (by rw[Ai,<- hl]; exact h3) (by omega) (by rw[hk]; exact⟨_,I',q⟩)
theorem zem (lo hi:Option Int) (n:Nat):(sliceBounds lo hi none n).1=((HT.sIx n 0 lo:Nat):Int)/\(sliceBounds lo hi none n).2.1=((HT.sIx n n hi:Nat):Int)/\(sliceBounds lo hi none n).2.2=1:=by
 refine⟨?_,?_,rfl⟩
 ·cases lo with
  | none=>simp[sliceBounds,HT.sIx]
  | some i=>
   simp only[sliceBounds,HT.sIx,Option.getD_none,show (1:Int) > 0 by decide,if_true]
   by_cases h:i<0
   ·simp only[h,if_true] <;> omega
   ·simp only[h,if_false] <;> omega
 ·cases hi with
  | none=>simp[sliceBounds,HT.sIx]
  | some i=>
   simp only[sliceBounds,HT.sIx,Option.getD_none,show (1:Int) > 0 by decide,if_true]
   by_cases h:i<0
   ·simp only[h,if_true] <;> omega
   ·simp only[h,if_false] <;> omega
theorem zdy (its:List Value) (lo hi:Option Int):slicePick its.toArray lo hi none=((its.drop (HT.sIx its.length 0 lo)).take (HT.sIx its.length its.length hi - HT.sIx its.length 0 lo)).toArray:=by
 obtain⟨h1,h2,h3⟩:=zem lo hi its.toArray.size;unfold slicePick;rw[h1,h2,h3];simp only[sliceRange_one,pick_run,Ai] <;> rfl
def rSlL (K:Ae):V->Option Int->Option Int->Hp->VK->Prop:=fun x lo hi H Q=>∃a xs,x=.ref a/\SqL K H a xs/\∀p,H p=none->Q (.ref p) (upd H p (.lst (cutV xs lo hi)))
theorem zlb:SlR X (rSlL X.K):=by
 intro pins s σ H x v vl vu lo hi sl Q I rx hs pl pu h;obtain⟨a,xs,rfl,hx,q⟩:=h;cases rx;obtain⟨its,r,ht,hz⟩:=I.list hx;have hlen:=r.length;refine⟨"list",_,slot_list_getitem.lookup,ht.isList.typeIs,?_⟩;refine wpAny_getItem_list_slice ht.isList hs pl pu .none (by simp) ?_ (by rw[Ai] <;> omega);rw[zdy,<- hlen];refine⟨.ref s.heap.objs.size,_,I.laid (t':=s.toks) (o:=.lst (cutV xs lo hi)) (fun b ob q=>Ad _ q) (Af _) ?_,rfl,q _ (I.hok.fresh (Af _))⟩;exact⟨AF (zcC xs lo hi) hz,_,0,(r.drop (HT.sIx xs.length 0 lo)).take (HT.sIx xs.length xs.length hi - HT.sIx xs.length 0 lo),Al _ rfl⟩
def zbD:V->Bool
 | .non=>true
 | .bl _=>true
 | .int _=>true
 | .str _=>true
 | _=>false
def eqV:V->V->Bool
 | .non,.non=>true
 | .bl a,.bl b=>a == b
 | .bl a,.int b=>(if a then 1 else 0) == b
 | .int a,.bl b=>a == (if b then 1 else 0)
 | .int a,.int b=>a == b
 | .str a,.str b=>a == b
 | _,_=>false
theorem zl4 {A:Around}{s:Shared}{y x:V}{u v:Value} (ry:RelV y u) (rx:RelV x v) (fy:zbD y=true) (fx:zbD x=true):SeqAt.EqAt A s u v (eqV y x):=by
 cases y with
 | non=>
  cases ry;cases x with
  | non=>cases rx; exact SeqAt.EqAt.same _
  | bl b=>cases rx; exact SeqAt.EqAt.none_bool b
  | int b=>obtain⟨t,rfl⟩:=rx; exact SeqAt.EqAt.none_int b t
  | str b=>obtain⟨t,rfl⟩:=rx; exact SeqAt.EqAt.none_str b t
  | _=>exact absurd (show false=true from fx) Au
 | bl a=>
  cases ry;cases x with
  | non=>cases rx; exact SeqAt.EqAt.bool_none a
  | bl b=>cases rx; exact SeqAt.EqAt.bool_bool a b
  | int b=>obtain⟨t,rfl⟩:=rx; exact SeqAt.EqAt.bool_int a b t
  | str b=>obtain⟨t,rfl⟩:=rx; exact SeqAt.EqAt.bool_str a b t
  | _=>exact absurd (show false=true from fx) Au
 | int a=>
  obtain⟨t',rfl⟩:=ry;cases x with
  | non=>cases rx; exact SeqAt.EqAt.int_none a t'
  | bl b=>cases rx; exact SeqAt.EqAt.int_bool a t' b
  | int b=>obtain⟨t,rfl⟩:=rx; exact SeqAt.EqAt.int_int a t' b t
  | str b=>obtain⟨t,rfl⟩:=rx; exact SeqAt.EqAt.int_str a t' b t
  | _=>exact absurd (show false=true from fx) Au
 | str a=>
  obtain⟨t',rfl⟩:=ry;cases x with
  | non=>cases rx; exact SeqAt.EqAt.str_none a t'
  | bl b=>cases rx; exact SeqAt.EqAt.str_bool a t' b
  | int b=>obtain⟨t,rfl⟩:=rx; exact SeqAt.EqAt.str_int a t' b t
  | str b=>obtain⟨t,rfl⟩:=rx; exact SeqAt.EqAt.str_str a t' b t
  | _=>exact absurd (show false=true from fx) Au
 | _=>exact absurd (show false=true from fy) Au
def eqU (x:V) (u:Value):Bool:=match u with
 | .none=>eqV .non x
 | .bool b=>eqV (.bl b) x
 | .int i _=>eqV (.int i) x
 | .str z _=>eqV (.str z) x
 | _=>false
theorem zfz {x y:V}{u:Value} (r:RelV y u) (f:zbD y=true):eqU x u=eqV y x:=by
 cases y with
 | non=>cases r; rfl
 | bl b=>cases r; rfl
 | int i=>obtain⟨t,rfl⟩:=r; rfl
 | str z=>obtain⟨t,rfl⟩:=r; rfl
 | _=>exact absurd (show false=true from f) Au
theorem zfi {x:V}:∀{xs:List V}{us:List Value},Vals xs us->xs.all zbD=true->us.any (eqU x)=xs.any fun y=>eqV y x
 | _,_,.nil,_=>rfl
 | y::xs,u::us,.cons r t,f=>by
  rw[List.all_cons,AN] at f;rw[List.any_cons,List.any_cons,zfz r f.1,zfi t f.2]
theorem zbU {A:Around}{s:Shared}{x:V}{v:Value} (rx:RelV x v) (fx:zbD x=true):∀{xs:List V}{us:List Value},Vals xs us->xs.all zbD=true->∀u∈us,SeqAt.EqAt A s u v (eqU x u)
 | _,_,.nil,_=>fun u hu=>by cases hu
 | y::xs,u::us,.cons r t,f=>fun u' hu=>by
  rw[List.all_cons,AN] at f;rcases List.mem_cons.mp hu with rfl | hu
  ·rw[zfz r f.1]; exact zl4 r rx f.1 fx
  ·exact zbU rx fx t f.2 u' hu
def inV (x:V) (xs:List V):Bool:=xs.any fun y=>eqV y x
def rIn (K:Ae) (neg:Bool):R2:=fun x y H Q=>∃p xs,y=.ref p/\(SqL K H p xs \/ SqT K H p xs)/\zbD x=true/\xs.all zbD=true/\Q (.bl (if neg then !inV x xs else inV x xs)) H
theorem zhb:OpR X (compareOp .In) (rIn X.K false):=by
 intro pins s σ H x y v u Q I rx ry h;obtain⟨p,xs,rfl,hq,fx,fs,q⟩:=h;cases ry;rcases hq with hq | hq
 ·obtain⟨its,r,pl,hz⟩:=I.list hq
  refine SeqAt.in_listAt (eqU x) pl.isList (fun w hw=>zbU rx fx r fs w (by simpa using hw)) ⟨.bl _,H,I,rfl,?_⟩;rw[show its.toArray.any (eqU x)=its.any (eqU x) by simp,zfi r fs];exact q
 ·obtain⟨its,r,pl,hz⟩:=I.tuple hq
  refine SeqAt.in_tupleAt (eqU x) pl (fun w hw=>zbU rx fx r fs w (by simpa using hw)) ⟨.bl _,H,I,rfl,?_⟩;rw[show its.toArray.any (eqU x)=its.any (eqU x) by simp,zfi r fs];exact q
theorem zh:zat X (.builtin "len") (fun xs H Q=>∃p ys,xs=[.ref p]/\(SqL X.K H p ys \/ SqT X.K H p ys)/\Q (.int ys.length) H):=by
 intro pins s σ H xs us Q I r h;obtain⟨p,ys,rfl,hq,q⟩:=h;obtain⟨u,rfl,rx⟩:=vals1 r;cases rx;have hn:=line63;rcases hq with hq | hq
 ·obtain⟨its,r',pl,hz⟩:=I.list hq
  have hlen:=r'.length;exact Calls.call_len_list pl.isList (by simp only[Ai] <;> omega) ⟨.int ys.length,H,I.tok _,⟨s.toks+1,by rw[Ai,hlen]⟩,q⟩
 ·obtain⟨its,r',pl,hz⟩:=I.tuple hq
  have hlen:=r'.length;exact len_tuple pl (by simp only[Ai] <;> omega) ⟨.int ys.length,H,I.tok _,⟨s.toks+1,by rw[Ai,hlen]⟩,q⟩
theorem zbb:zat X (.type "list") (fun xs H Q=>∃p ys,xs=[.ref p]/\(SqL X.K H p ys \/ SqT X.K H p ys)/\∀l,H l=none->Q (.ref l) (upd H l (.lst ys))):=by
 intro pins s σ H xs us Q I r h;obtain⟨p,ys,rfl,hq,q⟩:=h;obtain⟨u,rfl,rx⟩:=vals1 r;cases rx;have fin:∀(its:List Value),Vals ys its->ys.length<=sizeLine->∀(h':Heap) (c':Nat),(∀b o',s.heap.get? b=some o'->h'.get? b=some o')->
   h'.get? s.heap.objs.size=some { cls:=.type "list",dict:=none,data:=.seq its.toArray c',slots:=#[] }->EP X pins σ Q (.ref s.heap.objs.size) { s with heap:=h' }:=fun its r' hz h' c' kp e=>
  ⟨.ref s.heap.objs.size,_,I.laid (t':=s.toks) kp (Af _) (show zF X.prog X.w _ h' _ (.lst ys) from ⟨hz,its,c',r',e⟩),rfl,q _ (I.hok.fresh (Af _))⟩
 rcases hq with hq | hq
 ·obtain⟨its,r',pl,hz⟩:=I.list hq
  have hlen:=r'.length;obtain⟨o,ho,hc,n,hd⟩:=pl.isList;exact call_list_seq p (.inl rfl) ho hc hd (fun h' c' kp e=>fin its r' hz h' c' kp e) (by simp only[Ai] <;> omega)
 ·obtain⟨its,r',pl,hz⟩:=I.tuple hq
  have hlen:=r'.length;obtain⟨o,ho,hc,n,hd⟩:=pl;exact call_list_seq p (.inr rfl) ho hc hd (fun h' c' kp e=>fin its r' hz h' c' kp e) (by simp only[Ai] <;> omega)
theorem zS:zat X (.type "tuple") (fun xs H Q=>∃p ys,xs=[.ref p]/\((SqL X.K H p ys/\∀l,H l=none->Q (.ref l) (upd H l (.tup ys))) \/ (SqT X.K H p ys/\Q (.ref p) H))):=by
 intro pins s σ H xs us Q I r h;obtain⟨p,ys,rfl,h⟩:=h;obtain⟨u,rfl,rx⟩:=vals1 r;cases rx;rcases h with ⟨hq,q⟩ | ⟨hq,q⟩
 ·obtain⟨its,r',pl,hz⟩:=I.list hq
  have hlen:=r'.length;refine call_tuple_list pl.isList (fun h' kp=>?_) (by simp only[Ai] <;> omega);have I1:Inv X pins σ H { s with heap:=h' }:=I.kept (t':=s.toks) kp;have I2:Inv X pins σ (upd H h'.objs.size (.tup ys)) { s with heap:=h'.push { cls:=.type "tuple",data:=.seq its.toArray } }:=
   I1.laid (t':=s.toks) (fun b o e=>Ad _ e) (Af _) (show zF X.prog X.w _ _ _ (.tup ys) from ⟨hz,its,r',IsTup.new _ _⟩)
  exact⟨.ref h'.objs.size,_,I2,rfl,q _ (I1.hok.fresh (Af _))⟩
 ·obtain⟨its,r',pl,hz⟩:=I.tuple hq
  exact call_tuple_same pl ⟨.ref p,H,I,rfl,q⟩
def tyV (K:Ae) (T:String) (x:V) (H:Hp):Prop:=match x with
 | .str _=>T="str"
 | .int _=>T="int"
 | .ref p=>(T="list"/\∃xs,SqL K H p xs) \/ (T="tuple"/\∃o,K.lookup p=some o/\o.cls=.type "tuple"/\o.dict=none) \/
   (T="dict"/\((∃kvs,H p=some (.dK kvs)) \/ ∃kvs,H p=some (.dT kvs))) \/ (T="set"/\∃S n,H p=some (.set S n))
 | _=>False
theorem zmB {pins:List (Addr×Obj)}{σ:St}{H:Hp}{s:Shared}{T:String}{x:V}{v:Value} (I:Inv X pins σ H s) (r:RelV x v) (ty:tyV X.K T x H) :
  s.TypeIs v T/\∀a,v=.ref a->∃ob,s.heap.get? a=some ob/\ob.dict=none:=by
 cases x with
 | str z=>
  obtain⟨t,rfl⟩:=r;cases (show T="str" from ty);exact⟨typeIs_str s z t,fun _ e=>nomatch e⟩
 | int i=>
  obtain⟨t,rfl⟩:=r;cases (show T="int" from ty);exact⟨typeIs_int s i t,fun _ e=>nomatch e⟩
 | ref p=>
  cases r;rcases ty with ⟨rfl,xs,hq⟩ | ⟨rfl,o,hk,hc,hd⟩ | ⟨rfl,hk⟩ | ⟨rfl,S,n,hk⟩
  ·obtain⟨its,_,pl,_⟩:=I.list hq
   refine⟨pl.isList.typeIs,fun a e=>?_⟩;cases e;obtain⟨o,n,e,c,hd,_⟩:=pl;exact⟨o,e,hd⟩
  ·refine⟨⟨o,I.kIn p o hk,hc⟩,fun a e=>?_⟩
   cases e;exact⟨o,I.kIn _ o hk,hd⟩
  ·have z:∃o,s.heap.get? p=some o/\o.ExactDict:=by
    rcases hk with ⟨kvs,hk⟩ | ⟨kvs,hk⟩
    ·obtain⟨_,_,_,_,o,_,_,e,ex,_⟩:=I.hok p _ hk
     exact⟨o,e,ex⟩
    ·obtain⟨_,_,_,_,o,_,_,e,ex,_⟩:=I.hok p _ hk
     exact⟨o,e,ex⟩
   obtain⟨o,e,ex⟩:=z;refine⟨⟨o,e,ex.1⟩,fun a e2=>?_⟩;cases e2;exact⟨o,e,ex.2.1⟩
  ·obtain⟨o,_,_,_,e,ex,_⟩:=I.hok p _ hk
   refine⟨⟨o,e,ex.1⟩,fun a e2=>?_⟩;cases e2;exact⟨o,e,ex.2.1⟩
 | _=>exact False.elim ty
def tBM (K:Ae) (T:String) (r:V->List V->Hp->VK->Prop) (to:TE) (t:TA):TE:=fun σ H Q=>to σ H fun x H1=>tyV K T x H1/\t σ H1 fun xs H2=>r x xs H2 Q
variable {o e:Expr}{es:List Expr}{to:TE}{t:TA}{name:Str}{apos cpos:Pos}{T id:String}{r:V->List V->Hp->VK->Prop}
theorem zdc (pa:PlainAttrs T) (slot:Slot T name id) (hty:typeOf (.builtin id)=pure (.type "method_descriptor")) (hm:MtR X id r) (ho:PE X o to) (ha:PA X (e::es) t)
  (hbase:attributeBase o name X.env (eval o X.env)=eval o X.env:=by rfl)
  (hfew:((backTo cpos (starEach (e::es) X.env)).all (fun x=>!x.1) && (backToKw cpos (keywordEach [] X.env)).all (fun x=>x.1.isSome)
   && decide ((e::es).length+([]:List Keyword).length+(if ([]:List Keyword).isEmpty then 0 else 1)<30))=true:=by rfl)
  (hline:(apos.endLine == cpos.line)=true:=by rfl) (hs:starEach (e::es) X.env=(false,eval e X.env)::starEach es X.env:=by rfl) (hplain:(backTo cpos (starEach es X.env)).any (·.1)=false:=by rfl) :
  PE X (.Call (.Attribute o name apos) (e::es) [] cpos) (tBM X.K T r to t):=by
 intro pins s σ H Q I h;refine wpAny_Call_method_late hbase hfew hline rfl (thn (ho pins s σ H _ I h) fun v s1 ⟨x,H1,I1,r1,ty,q1⟩=>?_);obtain⟨h1,h2⟩:=zmB I1 r1 ty;refine⟨T,id,pa,slot,hty,h1,h2,?_⟩;have hA:=ha cpos pins s1 σ H1 _ I1 q1;rw[hs] at hA ⊢;refine Calls.callWith_builtin (by show (false || (backTo cpos (starEach es X.env)).any (·.1))=false; rw[hplain] <;> rfl) (Calls.evalArgs_plain ?_);exact thn hA fun us s2 ⟨vs,H2,I2,r2,q2⟩=>hm pins s2 σ H2 x vs v us Q I2 r1 r2 q2
/- xs.append(e),list.index on a module's tuple .. are MtR facts of 06m -/
end
end L2
namespace L2
open PySem PySem.Spec PyProof.Rows
def MtM (X:Cx) (id:String) (r:V->List V->Hp->VK->Prop):Prop:=
 ∀(pins:List (Addr×Obj)) (s:Shared) (σ:St) (H:Hp) (x:V) (xs:List V) (v:Value) (us:List Value) (Q:VK),Inv X pins σ H s->RelV x v->Vals xs us->r x xs H Q->
  wpAny (model X.prog X.w) X.A (call (.builtin id) (v::us)) (EP X pins σ Q) X.xe s
theorem Vals.one {x:V}{us:List Value} (h:Vals [x] us):∃u,us=[u]/\RelV x u:=by
 cases h with | cons r t=>cases t; exact⟨_,rfl,r⟩
theorem Vals.two {x y:V}{us:List Value} (h:Vals [x,y] us):∃u v,us=[u,v]/\RelV x u/\RelV y v:=by
 cases h with | cons r t=>obtain⟨v,rfl,q⟩:=Vals.one t; exact⟨_,_,rfl,r,q⟩
theorem Vals.zero:∀{us:List Value},Vals [] us->us=[]
 | _,.nil=>rfl
theorem Vals.eraseIdx:∀{xs:List V}{us:List Value} (i:Nat),Vals xs us->Vals (xs.eraseIdx i) (us.eraseIdx i)
 | _,_,_,.nil=>.nil
 | _,_,0,.cons _ t=>t
 | _,_,i+1,.cons r t=>.cons r (Vals.eraseIdx i t)
theorem Vals.reverse {xs:List V}{us:List Value} (h:Vals xs us):Vals xs.reverse us.reverse:=by
 induction h with
 | nil=>exact .nil
 | cons r t ih=>rw[List.reverse_cons,List.reverse_cons]; exact Vals.append ih (.cons r .nil)
section
variable {X:Cx}{pins:List (Addr×Obj)}{σ:St}{H:Hp}{s:Shared}{l b:Addr}{xs ys zs:List V}
theorem Inv.lset {its its':List Value}{n:Nat}{f:Array Value->Array Value}{t':Nat} (I:Inv X pins σ H s) (hH:H l=some (.lst xs))
  (e:s.heap.get? l=some { cls:=.type "list",data:=.seq its.toArray n }) (hf:f its.toArray=its'.toArray) (hv:Vals ys its') (hz:ys.length<=sizeLine) :
  Inv X pins σ (upd H l (.lst ys)) { s with heap:=s.heap.update l (AI f),toks:=t' }:=by
 have q:=PySem.IsL.update e f;rw[hf] at q;refine I.write (x:=l) (e:=l) (by rw[hH]; exact trivial) (.inl rfl) (fun b' u hb hu=>(Heap.get?_update_other s.heap (AI f) (Ne.symm hb)).trans hu) ⟨_,q⟩ ?_;exact⟨hz,its',_,hv,q⟩
theorem Inv.lnew {its:List Value}{t':Nat} (I:Inv X pins σ H s) (hv:Vals ys its) (hz:ys.length<=sizeLine) :
  Inv X pins σ (upd H s.heap.objs.size (.lst ys)) { s with heap:=s.heap.push { cls:=.type "list",data:=.seq its.toArray },toks:=t' }:=
 I.laid (fun _ _ q=>Ad _ q) (Af _) ⟨hz,its,0,hv,Al _ rfl⟩
theorem Inv.fresh (I:Inv X pins σ H s):H s.heap.objs.size=none:=I.hok.fresh (Af _)
theorem Inv.lstM (I:Inv X pins σ H s) (hH:H l=some (.lst xs)):xs.length<=sizeLine/\∃(its:List Value) (n:Nat),Vals xs its/\xs.length=its.length/\s.heap.get? l=some { cls:=.type "list",data:=.seq its.toArray n }:=by
 obtain⟨z,its,n,r,e⟩:=I.hok l _ hH;exact⟨z,its,n,r,r.length,e⟩
end
section
variable {X:Cx}
def zla:V->List V->Hp->VK->Prop:=fun x vs H Q=>∃l xs y,x=.ref l/\vs=[y]/\H l=some (.lst xs)/\xs.length<sizeLine/\Q .non (upd H l (.lst (xs++[y])))
theorem zax:MtM X "list.append" zla:=by
 intro pins s σ H x vs v us Q I rx rv h;obtain⟨l,xs,y,rfl,rfl,hH,hz,q⟩:=h;cases rx;obtain⟨u,rfl,ru⟩:=rv.one;obtain⟨z,its,n,r,hl,e⟩:=I.lstM hH;refine call_meets F.slot_list_append ⟨_,e,rfl⟩ F.entry_list_append (F.args_list_append_2 _ _) (PySem.list_append l its.toArray n u (by rw[Ai]; omega)) ⟨e,?_⟩;refine⟨.non,_,I.lset (its':=its++[u]) hH e (by simp) (r.append (.cons ru .nil)) ?_,rfl,q⟩;rw[At,List.length_singleton];omega
def rCat:R2:=fun x y H Q=>∃l b xs zs,x=.ref l/\y=.ref b/\H l=some (.lst xs)/\H b=some (.lst zs)/\xs.length+zs.length<=sizeLine/\∀p,H p=none->Q (.ref p) (upd H p (.lst (xs++zs)))
theorem zbF:OpR X (binaryOp .Add) rCat:=by
 intro pins s σ H x y v u Q I rx ry h;obtain⟨l,b,xs,zs,rfl,rfl,hH,hB,hz,q⟩:=h;cases rx;cases ry;obtain⟨z,its,n,r,hl,e⟩:=I.lstM hH;obtain⟨z2,its2,n2,r2,hl2,e2⟩:=I.lstM hB;refine PySem.P.add_list e e2 ?_ (by rw[Ai,Ai]; omega);have ea:its.toArray++its2.toArray=(its++its2).toArray:=by simp
 rw[ea];exact⟨.ref _,_,I.lnew (t':=s.toks) (r.append r2) (by rw[At]; omega),rfl,q _ I.fresh⟩
end
section
variable {prog:Program}{w:World}{A:Around}{E:Value->Shared->Prop}{s:Shared}
set_option maxRecDepth 100000 in
end
section
variable {X:Cx}
end
end L2
namespace L2
open PySem PySem.Spec PyProof.Rows
section
variable {κ:Type} [DecidableEq κ]
def valV (kvs:List (κ×V)) (k:κ):Option V:=(kvs.find? fun kv=>decide (kv.1=k)).map (·.2)
def putK (kvs:List (κ×V)) (k:κ) (v:V):List (κ×V):=
 if (kvs.any fun kv=>decide (kv.1=k))=true then kvs.map (fun kv=>if kv.1=k then (kv.1,v) else kv) else kvs++[(k,v)]
def zeN (kvs:List (κ×V)) (k:κ):List (κ×V):=kvs.filter fun kv=>decide (kv.1≠k)
theorem zbL {p:κ×V}{r:List (κ×V)}{k:κ} (e:p.1=k):valV (p::r) k=some p.2:=by simp[valV,List.find?_cons,e]
theorem zbP {p:κ×V}{r:List (κ×V)}{k:κ} (e:¬ p.1=k):valV (p::r) k=valV r k:=by simp[valV,List.find?_cons,e]
theorem zdv (k:κ):∀kvs:List (κ×V),(kvs.any fun kv=>decide (kv.1=k))=(valV kvs k).isSome
 | []=>rfl
 | p::r=>by
  rw[List.any_cons]
  by_cases e:p.1=k
  ·simp only[zbL e,decide_eq_true e,Bool.true_or,Option.isSome_some]
  ·rw[zbP e,decide_eq_false e,Bool.false_or]; exact zdv k r
theorem zbx (kvs:List (κ×V)) (k:κ) (v:V):(putK kvs k v).length<=kvs.length+1:=by
 unfold putK;split
 ·rw[Ab]; omega
 ·rw[At,As,List.length_nil]; omega
theorem RelO.isSome_eq {o:Option V}{u:Option Value} (r:RelO o u):o.isSome=u.isSome:=by
 cases o with
 | none=>cases u with
  | none=>rfl
  | some _=>exact (show False from r).elim
 | some _=>cases u with
  | none=>exact (show False from r).elim
  | some _=>rfl
theorem KV.val {kvs:List (κ×V)}{vs:List (κ×Value)} (r:KV kvs vs) (k:κ):RelO (valV kvs k) (valueAt vs k):=by
 unfold KV at r
 induction r with
 | nil=>exact True.intro
 | @cons p q ps qs h t ih=>
  obtain⟨h1,h2⟩:=h
  by_cases e:p.1=k
  ·have e':q.1=k:=h1.symm.trans e
   have b:valueAt (q::qs) k=some q.2:=by simp[valueAt,List.find?_cons,e']
   rw[zbL e,b]; exact h2
  ·have e':¬ q.1=k:=fun z=>e (h1.trans z)
   have b:valueAt (q::qs) k=valueAt qs k:=by simp[valueAt,List.find?_cons,e']
   rw[zbP e,b]; exact ih
theorem KV.any {kvs:List (κ×V)}{vs:List (κ×Value)} (r:KV kvs vs) (k:κ):(kvs.any fun kv=>decide (kv.1=k))=vs.any fun kv=>decide (kv.1=k):=by
 unfold KV at r
 induction r with
 | nil=>rfl
 | cons h t ih=>rw[List.any_cons,List.any_cons,ih,h.1]
theorem KV.repl {kvs:List (κ×V)}{vs:List (κ×Value)} (r:KV kvs vs) (k:κ) {y:V}{u:Value} (ry:RelV y u) :
  KV (kvs.map fun kv=>if kv.1=k then (kv.1,y) else kv) (vs.map fun kv=>if kv.1=k then (kv.1,u) else kv):=by
 unfold KV at r ⊢
 induction r with
 | nil=>exact .nil
 | @cons p q ps qs h t ih=>
  rw[AK,AK];refine .cons ?_ ih;obtain⟨h1,h2⟩:=h
  by_cases e:p.1=k
  ·rw[if_pos e,if_pos (h1.symm.trans e)]; exact⟨h1,ry⟩
  ·rw[if_neg e,if_neg (fun z=>e (h1.trans z))]; exact⟨h1,h2⟩
theorem KV.put {kvs:List (κ×V)}{vs:List (κ×Value)} (r:KV kvs vs) (k:κ) {y:V}{u:Value} (ry:RelV y u):KV (putK kvs k y) (stored vs k u):=by
 unfold putK stored;rw[r.any k]
 by_cases e:(vs.any fun kv=>decide (kv.1=k))=true
 ·rw[if_pos e,if_pos e]; exact r.repl k ry
 ·rw[if_neg e,if_neg e]; exact Paired.snoc r ⟨rfl,ry⟩
theorem KV.drop {kvs:List (κ×V)}{vs:List (κ×Value)} (r:KV kvs vs) (k:κ):KV (zeN kvs k) (without vs k):=by
 unfold KV at r ⊢;unfold zeN without
 induction r with
 | nil=>exact .nil
 | @cons p q ps qs h t ih=>
  obtain⟨h1,h2⟩:=h;rw[List.filter_cons,List.filter_cons]
  by_cases e:p.1=k
  ·have a:¬ decide (p.1≠k)=true:=by simp[e]
   have b:¬ decide (q.1≠k)=true:=by simp[h1.symm.trans e]
   rw[if_neg a,if_neg b]; exact ih
  ·have e':¬ q.1=k:=fun z=>e (h1.trans z)
   have a:decide (p.1≠k)=true:=by simp[e]
   have b:decide (q.1≠k)=true:=by simp[e']
   rw[if_pos a,if_pos b]; exact .cons ⟨h1,h2⟩ ih
theorem KV.length {kvs:List (κ×V)}{vs:List (κ×Value)} (r:KV kvs vs):kvs.length=vs.length:=Paired.length r
theorem dropK_le (kvs:List (κ×V)) (k:κ):(zeN kvs k).length<=kvs.length:=List.length_filter_le _ _
end
theorem zdW {P:Program}{w:World}{k:Key}{u:Value} (r:RelV (kV k) u):(zq P w).is k u=true:=by
 cases k with
 | inl i=>obtain⟨t,e⟩:=(show ∃t,u=Value.int i t from r); subst e; exact zbA P w i t
 | inr x=>obtain⟨t,e⟩:=(show ∃t,u=Value.str x t from r); subst e; exact zfb P w x t
theorem zen {P:Program}{w:World}:∀{ks:List Key}{us:List Value},Vals (ks.map kV) us->ItemsAre (zq P w) ks us
 | [],_,r=>by rw[List.map_nil] at r; cases r; exact .nil
 | k::ks,_,r=>by
  rw[AK] at r;cases r with
  | cons h t=>exact .cons (zdW h) (zen t)
abbrev KT (H:Hp):List (List Key×V)->List (List Key×Addr×Value)->Prop:=Paired fun p q=>p.1=q.1/\H q.2.1=some (.tup (p.1.map kV))/\RelV p.2 q.2.2
theorem KT.val {H:Hp}{kvs:List (List Key×V)}{xs:List (List Key×Addr×Value)} (r:KT H kvs xs) (k:List Key):RelO (valV kvs k) ((atKey xs k).map (·.2)):=by
 induction r with
 | nil=>exact True.intro
 | @cons p q ps qs h t ih=>
  obtain⟨h1,_,h2⟩:=h
  by_cases e:p.1=k
  ·have e':q.1=k:=h1.symm.trans e
   have b:atKey (q::qs) k=some q.2:=by simp[atKey,List.find?_cons,e']
   rw[zbL e,b]; exact h2
  ·have e':¬ q.1=k:=fun z=>e (h1.trans z)
   have b:atKey (q::qs) k=atKey qs k:=by simp[atKey,List.find?_cons,e']
   rw[zbP e,b]; exact ih
theorem KT.repl {H:Hp}{kvs:List (List Key×V)}{xs:List (List Key×Addr×Value)} (r:KT H kvs xs) (k:List Key) {y:V}{u:Value} (ry:RelV y u) :
  KT H (kvs.map fun kv=>if kv.1=k then (kv.1,y) else kv) (xs.map (putAt k u)):=by
 induction r with
 | nil=>exact .nil
 | @cons p q ps qs h t ih=>
  rw[AK,AK];refine .cons ?_ ih;obtain⟨h1,h2,h3⟩:=h;unfold putAt
  by_cases e:p.1=k
  ·rw[if_pos e,if_pos (h1.symm.trans e)]; exact⟨h1,h2,ry⟩
  ·rw[if_neg e,if_neg (fun z=>e (h1.trans z))]; exact⟨h1,h2,h3⟩
theorem KT.put {H:Hp}{kvs:List (List Key×V)}{xs:List (List Key×Addr×Value)} (r:KT H kvs xs) (k:List Key) {b:Addr}{y:V}{u:Value} (hb:H b=some (.tup (k.map kV))) (ry:RelV y u) :
  KT H (putK kvs k y) (storedH xs k b u):=by
 have e:(kvs.any fun kv=>decide (kv.1=k))=(atKey xs k).isSome:=by
  rw[zdv,(r.val k).isSome_eq,Option.isSome_map]
 unfold putK storedH;rw[e]
 by_cases q:(atKey xs k).isSome=true
 ·rw[if_pos q,if_pos q]; exact r.repl k ry
 ·rw[if_neg q,if_neg q]; exact Paired.snoc r ⟨rfl,hb,ry⟩
theorem KT.keeps {H H':Hp}{kvs:List (List Key×V)}{xs:List (List Key×Addr×Value)} (r:KT H kvs xs) (ht:∀b ys,H b=some (.tup ys)->H' b=some (.tup ys)):KT H' kvs xs:=
 Paired.mapP r fun _ _ z=>⟨z.1,ht _ _ z.2.1,z.2.2⟩
section
variable {P:Program}{w:World}{H:Hp}{h:Heap}{a:Addr}
theorem zlI {u:HO} (ok:HOk P w H h) (e:Rd H a u):zF P w H h a u:=e.ok ok
theorem zdD {kvs:List (Key×V)} (ok:HOk P w H h) (e:Rd H a (.dK kvs)):kvs.length<=sizeLine/\(a == sysModules)=false/\∃vs,KV kvs vs/\h.DictOf (zq P w) a vs:=
 show zF P w H h a (.dK kvs) from zlI ok e
theorem zhR {kvs:List (Key×V)} (ok:HOk P w H h) (e:H a=some (.dK kvs)):kvs.length<=sizeLine/\(a == sysModules)=false/\∃vs,KV kvs vs/\h.DictOf (zq P w) a vs:=zdD ok (.inl e)
theorem zdV {ks:List Key} (ok:HOk P w H h) (e:H a=some (.tup (ks.map kV))):(tupleKind (zq P w)).is h ks a:=by
 obtain⟨_,its,r,o,h1,h2,n,h3⟩:=(show zF P w H h a (.tup (ks.map kV)) from ok a _ e);exact⟨o,its.toArray,n,h1,h2,h3,by simpa using zen r⟩
theorem zgx {kvs:List (List Key×V)} (ok:HOk P w H h) (e:Rd H a (.dT kvs)):kvs.length<=sizeLine/\(a == sysModules)=false/\
  ∃xs,KT H kvs xs/\h.DictOfH (tupleKind (zq P w)) a xs:=by
 obtain⟨z,y,xs,r,o,es,ep,h1,h2,h3,h4,h5⟩:=(show zF P w H h a (.dT kvs) from zlI ok e);refine⟨z,y,xs,r,o,es,ep,h1,h2,h3,h4,fun x hx=>?_,h5⟩;have all:∀{l:List (List Key×V)} {m:List (List Key×Addr×Value)},KT H l m->∀x∈m,(tupleKind (zq P w)).is h x.1 x.2.1:=by
  intro l m q
  induction q with
  | nil=>intro x hx; exact nomatch hx
  | @cons p q ps qs hq t ih=>
   intro x hx;rcases List.mem_cons.mp hx with e | hx
   ·subst e
    exact zdV ok (by rw[<- hq.1]; exact hq.2.1)
   ·exact ih x hx
 exact all r x hx
theorem zm0 {kvs:List (List Key×V)} (ok:HOk P w H h) (e:H a=some (.dT kvs)):kvs.length<=sizeLine/\(a == sysModules)=false/\
  ∃xs,KT H kvs xs/\h.DictOfH (tupleKind (zq P w)) a xs:=zgx ok (.inl e)
end
def DGet (H:Hp) (a:Addr) (y:V) (r:Option V):Prop:=
 (∃kvs k,Rd H a (.dK kvs)/\y=kV k/\r=valV kvs k) \/ ∃kvs k b,Rd H a (.dT kvs)/\y=.ref b/\H b=some (.tup (k.map kV))/\r=valV kvs k
def DPut (H:Hp) (a:Addr) (y v:V) (H':Hp):Prop:=
 (∃kvs k,H a=some (.dK kvs)/\y=kV k/\kvs.length<sizeLine/\H'=upd H a (.dK (putK kvs k v))) \/
 ∃kvs k b,H a=some (.dT kvs)/\y=.ref b/\H b=some (.tup (k.map kV))/\kvs.length<sizeLine/\H'=upd H a (.dT (putK kvs k v))
theorem DGet.k {H:Hp}{a:Addr}{kvs:List (Key×V)}{k:Key} (e:H a=some (.dK kvs)):DGet H a (kV k) (valV kvs k):=.inl ⟨kvs,k,.inl e,rfl,rfl⟩
theorem DGet.t {H:Hp}{a b:Addr}{kvs:List (List Key×V)}{k:List Key} (e:H a=some (.dT kvs)) (eb:H b=some (.tup (k.map kV))):DGet H a (.ref b) (valV kvs k):=.inr ⟨kvs,k,b,.inl e,rfl,eb,rfl⟩
theorem DPut.k {H:Hp}{a:Addr}{kvs:List (Key×V)}{k:Key}{v:V} (e:H a=some (.dK kvs)) (hl:kvs.length<sizeLine):DPut H a (kV k) v (upd H a (.dK (putK kvs k v))):=.inl ⟨kvs,k,e,rfl,hl,rfl⟩
theorem DPut.t {H:Hp}{a b:Addr}{kvs:List (List Key×V)}{k:List Key}{v:V} (e:H a=some (.dT kvs)) (eb:H b=some (.tup (k.map kV))) (hl:kvs.length<sizeLine) :
  DPut H a (.ref b) v (upd H a (.dT (putK kvs k v))):=.inr ⟨kvs,k,b,e,rfl,eb,hl,rfl⟩
section
variable {X:Cx}{pins:List (Addr×Obj)}{σ:St}{H:Hp}{s:Shared}{a:Addr}{y v:V}{u r:Value}{o:Option V}{A:Around}{E:Value->Shared->Prop}
theorem Inv.big (I:Inv X pins σ H s):sysModules<s.heap.objs.size:=by
 have h:mainGlobals<s.heap.objs.size:=(I.mod.glob.keeps I.bk).lt;exact Nat.lt_trans (by decide) h
theorem zhF {Q:Value->Shared->Prop} (hu:A.units+1<cLine) (I:Inv X pins σ H s) (g:DGet H a y (some v)) (ry:RelV y u) (h:∀w' s',Inv X pins σ H s'->RelV v w'->Q w' s') :
  wpAny (model X.prog X.w) A (getItem (.ref a) u) Q E s:=by
 rcases g with ⟨kvs,k,e,ey,l⟩ | ⟨kvs,k,b,e,ey,eb,l⟩
 ·subst ey
  obtain⟨z,hd,vs,rel,dd⟩:=zdD I.hok e;obtain⟨w',hw,rw'⟩:=RelO.some_of (v:=v) (o:=valueAt vs k) (by rw[l]; exact rel.val k);exact wpAny_getItem_of (zdW ry) dd.mapOf hw (h w' _ (I.tok _) rw')
 ·subst ey
  cases (show u=Value.ref b from ry);obtain⟨z,hd,xs,rel,dd⟩:=zgx I.hok e;obtain⟨w',hw,rw'⟩:=RelO.some_of (v:=v) (o:=(atKey xs k).map (·.2)) (by rw[l]; exact rel.val k);obtain⟨p,hp,hp2⟩:=Option.map_eq_some_iff.mp hw;refine wpAny_getItem_heap (tupleKind_room_in1 hu) (zdV I.hok eb) dd hp ?_;rw[hp2];exact h w' _ (I.tok _) rw'
theorem d_in {Q:Value->Shared->Prop} (hu:A.units+1<cLine) (I:Inv X pins σ H s) (g:DGet H a y o) (ry:RelV y u) (h:∀s',Inv X pins σ H s'->Q (.bool o.isSome) s') :
  wpAny (model X.prog X.w) A (compareOp .In u (.ref a)) Q E s:=by
 rcases g with ⟨kvs,k,e,ey,l⟩ | ⟨kvs,k,b,e,ey,eb,l⟩
 ·subst ey
  obtain⟨z,hd,vs,rel,dd⟩:=zdD I.hok e;refine wpAny_in_of (zdW ry) hd dd.mapOf ?_;rw[<- (rel.val k).isSome_eq,<- l];exact h _ (I.tok _)
 ·subst ey
  cases (show u=Value.ref b from ry);obtain⟨z,hd,xs,rel,dd⟩:=zgx I.hok e;refine wpAny_in_heap (tupleKind_room_in1 hu) (zdV I.hok eb) hd dd ?_;have q:=(rel.val k).isSome_eq;rw[Option.isSome_map] at q;rw[<- q,<- l];exact h _ (I.tok _)
theorem zk2 {Q:Value->Shared->Prop} (hu:A.units+1<cLine) (I:Inv X pins σ H s) (g:DGet H a y o) (ry:RelV y u) (h:∀s',Inv X pins σ H s'->Q (.bool (!o.isSome)) s') :
  wpAny (model X.prog X.w) A (compareOp .NotIn u (.ref a)) Q E s:=by
 rcases g with ⟨kvs,k,e,ey,l⟩ | ⟨kvs,k,b,e,ey,eb,l⟩
 ·subst ey
  obtain⟨z,hd,vs,rel,dd⟩:=zdD I.hok e;refine wpAny_notIn_of (zdW ry) hd dd.mapOf ?_;rw[<- (rel.val k).isSome_eq,<- l];exact h _ (I.tok _)
 ·subst ey
  cases (show u=Value.ref b from ry);obtain⟨z,hd,xs,rel,dd⟩:=zgx I.hok e;refine wpAny_notIn_heap (tupleKind_room_in1 hu) (zdV I.hok eb) hd dd ?_;have q:=(rel.val k).isSome_eq;rw[Option.isSome_map] at q;rw[<- q,<- l];exact h _ (I.tok _)
theorem zey {h':Heap}{t':Nat}{ob:HO} (I:Inv X pins σ H s) (mu:Mut (H a)) (hs:A2 a s.heap h') (he:∃q,h'.get? a=some q) (new:zF X.prog X.w (upd H a ob) h' a ob) :
  Inv X pins σ (upd H a ob) { s with heap:=h',toks:=t' }:=
 I.write (x:=a) (e:=a) mu (.inl rfl) (fun b q hb z=>(hs.2 b hb).trans z) he new
theorem dk_new {P:Program}{w:World}{H':Hp}{h':Heap}{kvs:List (Key×V)}{vs:List (Key×Value)} (z:kvs.length<=sizeLine) (hd:(a == sysModules)=false) (rel:KV kvs vs) (dd:h'.DictOf (zq P w) a vs) :
  zF P w H' h' a (.dK kvs):=⟨z,hd,vs,rel,dd⟩
theorem zh6 {H':Hp}{Q:Unit->Shared->Prop} (hu:A.units+1<cLine) (I:Inv X pins σ H s) (g:DPut H a y v H') (ry:RelV y u) (rv:RelV v r) (h:∀s',Inv X pins σ H' s'->Q () s') :
  wpAny (model X.prog X.w) A (setItem (.ref a) u r) Q E s:=by
 rcases g with ⟨kvs,k,e,ey,l,eH⟩ | ⟨kvs,k,b,e,ey,eb,l,eH⟩
 ·subst ey eH
  obtain⟨z,hd,vs,rel,dd⟩:=zhR I.hok e;have hz:vs.length<=sizeLine:=by rw[<- rel.length]; exact z
  have hl:(putK kvs k v).length<=sizeLine:=by have:=zbx kvs k v; omega
  refine wpAny_setItem_pairs (hsz:=hz) (zdW ry) dd fun h' dd' hs=>h _ ?_;have he:∃q,h'.get? a=some q:=let ⟨q,_,_,hq,_⟩:=dd'; ⟨q,hq⟩;exact zey I (by rw[e]; exact True.intro) hs he (dk_new hl hd (rel.put k rv) dd')
 ·subst ey eH
  cases (show u=Value.ref b from ry);obtain⟨z,hd,xs,rel,dd⟩:=zm0 I.hok e;have hz:xs.length<=sizeLine:=by rw[<- Paired.length rel]; exact z
  have hl:(putK kvs k v).length<=sizeLine:=by have:=zbx kvs k v; omega
  refine wpAny_setItem_heap (hsz:=hz) (tupleKind_room_in1 hu) (zdV I.hok eb) dd fun h' dd' hs=>h _ ?_;obtain⟨q,es,ep,hq,h2,h3,h4,_,h5⟩:=dd';refine zey I (by rw[e]; exact True.intro) hs ⟨q,hq⟩ ⟨hl,hd,_,(rel.put k eb rv).keeps fun c ys ec=>?_,q,es,ep,hq,h2,h3,h4,h5⟩;rw[zk (za2 ec e (fun z=>nomatch z))];exact ec
end
section
variable {X:Cx}{pins:List (Addr×Obj)}{σ:St}{H:Hp}{s:Shared}{a:Addr}{kvs:List (Key×V)}{k:Key}{u:Value}{A:Around}{E:Value->Shared->Prop}
theorem zmI {v:V}{more:List Value}{Q:Value->Shared->Prop} (I:Inv X pins σ H s) (e:H a=some (.dK kvs)) (ry:RelV (kV k) u) (l:valV kvs k=some v) (hm:more=[] \/ ∃x,more=[x])
  (h:∀w' s',Inv X pins σ (upd H a (.dK (zeN kvs k))) s'->RelV v w'->Q w' s'):wpAny (model X.prog X.w) A (call (.builtin "dict.pop") (.ref a::u::more)) Q E s:=by
 obtain⟨z,hd,vs,rel,dd⟩:=zhR I.hok e;obtain⟨w',hw,rw'⟩:=RelO.some_of (v:=v) (o:=valueAt vs k) (by rw[<- l]; exact rel.val k);have hp:(keyPart u).isSome=true:=by
  cases k with
  | inl i=>obtain⟨t,q⟩:=(show ∃t,u=Value.int i t from ry); subst q; rfl
  | inr x=>obtain⟨t,q⟩:=(show ∃t,u=Value.str x t from ry); subst q; rfl
 have ha:argsOk "dict.pop" ⟨.ref a::u::more,[]⟩:=by
  rcases hm with q | ⟨x,q⟩
  ·subst q; exact PySem.F.args_dict_pop_2 _ _
  ·subst q; exact PySem.F.args_dict_pop_3 _ _ _
 refine call_meetsIn PySem.F.slot_dict_pop dd.typeIs PySem.F.entry_dict_pop ha (meets_dict_pop_there (zq X.prog X.w) a (zdW ry) more hm hp)
  ⟨vs,w',dd,by rw[<- rel.length]; exact z,hw,fun h' dd' hs=>h w' _ ?_ rw'⟩
 have he:∃q,h'.get? a=some q:=let ⟨q,_,_,hq,_⟩:=dd'; ⟨q,hq⟩;exact zey I (by rw[e]; exact True.intro) hs he (dk_new (AF (dropK_le kvs k) z) hd (rel.drop k) dd')
theorem zmg {r:Value}{Q:Value->Shared->Prop} (I:Inv X pins σ H s) (e:H a=some (.dK kvs)) (ry:RelV (kV k) u) (l:valV kvs k=none) (h:∀s',Inv X pins σ H s'->Q r s') :
  wpAny (model X.prog X.w) A (call (.builtin "dict.pop") [.ref a,u,r]) Q E s:=by
 obtain⟨z,hd,vs,rel,dd⟩:=zhR I.hok e;have hn:valueAt vs k=none:=RelO.none_of (by rw[<- l]; exact rel.val k);have hp:(keyPart u).isSome=true:=by
  cases k with
  | inl i=>obtain⟨t,q⟩:=(show ∃t,u=Value.int i t from ry); subst q; rfl
  | inr x=>obtain⟨t,q⟩:=(show ∃t,u=Value.str x t from ry); subst q; rfl
 exact call_meetsIn PySem.F.slot_dict_pop dd.typeIs PySem.F.entry_dict_pop (PySem.F.args_dict_pop_3 _ _ _) (meets_dict_pop_default (zq X.prog X.w) a (zdW ry) hd hp r) ⟨vs,dd,hn,h _ (I.tok _)⟩
end
def NoSl (i:Expr):Prop:=∀ov iv,subscripted i false ov iv=operate [ov,iv] (getItem ov iv)
theorem zkv {prog:Program}{w:World}{A:Around}{E:Value->Shared->Prop}{s:Shared}{env:Env}{value slice:Expr}{pos:Pos}{T id:String}{Q:Value->Shared->Prop}
  (hl:typeLookup (.type T) "__getitem__"=pure (some (.builtin id))) (hs:NoSl slice)
  (h:wpAny (model prog w) A (eval value env) (fun o s₁=>wpAny (model prog w) A (eval slice env) (fun i s₂=>s₂.TypeIs o T/\wpAny (model prog w) A (getItem o i) Q E s₂) E s₁) E s) :
  wpAny (model prog w) A (eval (.Subscript value slice pos) env) Q E s:=by
 refine Subscript_ (Ba h (fun o s₁ h₁=>Ba h₁ (fun i s₂ h₂=>?_) fun _ _ x=>x) fun _ _ x=>x);obtain⟨hT,h₂⟩:=h₂;unfold subscriptTail;refine Aa ?_;rw[getitemInPython_of_ne hT.not_modules];refine Aa (wpAny_specialOf hT hl ?_);have fin:wpAny (model prog w) A (subscripted slice false o i) (fun r s₃=>wpAny (model prog w) A (letTemporaryGo value o r >>= fun _=>pure r) Q E s₃) E s₂:=by
  rw[hs o i];exact wpAny_operating (Ba h₂ (fun r s₃ h₃=>Aa (wpAny_letTemporaryGo (Ac h₃))) fun _ _ x=>x)
 first
  | exact Ac (Aa fin)
  | exact Aa (Ac (Aa fin))
  | exact Aa fin
theorem zff {X:Cx}{pins:List (Addr×Obj)}{σ:St}{H:Hp}{s:Shared}{a:Addr}{y:V}{o:Option V} (I:Inv X pins σ H s) (g:DGet H a y o):s.TypeIs (.ref a) "dict":=by
 rcases g with ⟨kvs,k,e,_,_⟩ | ⟨kvs,k,b,e,_,_,_⟩
 ·obtain⟨_,_,vs,_,dd⟩:=zdD I.hok e
  exact dd.typeIs
 ·obtain⟨_,_,xs,_,dd⟩:=zgx I.hok e
  exact dd.typeIs
def zmz (td ty:TE):TE:=fun σ H Q=>td σ H fun x H1=>ty σ H1 fun y H2=>∃a v,x=.ref a/\DGet H2 a y (some v)/\Q v H2
def tDIn (ty td:TE):TE:=fun σ H Q=>ty σ H fun y H1=>td σ H1 fun x H2=>∃a o,x=.ref a/\DGet H2 a y o/\Q (.bl o.isSome) H2
def zeV (ty td:TE):TE:=fun σ H Q=>ty σ H fun y H1=>td σ H1 fun x H2=>∃a o,x=.ref a/\DGet H2 a y o/\Q (.bl (!o.isSome)) H2
def zmO (td ty tv:TE):TS:=fun D σ H=>tv σ H fun v H1=>td σ H1 fun x H2=>ty σ H2 fun y H3=>∃a H4,x=.ref a/\DPut H3 a y v H4/\D.nx σ H4
section
variable {X:Cx}{o i e value:Expr}{pos pos' tpos:Pos}{td ty tv:TE}
theorem zhr (hu:X.A.units+1<cLine) (ho:PE X o td) (hi:PE X i ty) (hs:NoSl i):PE X (.Subscript o i pos) (zmz td ty):=by
 intro pins s σ H Q I h;refine zkv PySem.F.slot_dict_getitem.lookup hs (thn (ho pins s σ H _ I h) fun u s1 ⟨x,H1,I1,rx,q1⟩=>thn (hi pins s1 σ H1 _ I1 q1) fun iv s2 ⟨y,H2,I2,ry,a,v,ex,g,q2⟩=>?_);subst ex;obtain rfl:u=Value.ref a:=rx;exact⟨zff I2 g,zhF hu I2 g ry fun w' s3 I3 rw'=>⟨v,H2,I3,rw',q2⟩⟩
theorem zl1 (hu:X.A.units+1<cLine) (hi:PE X i ty) (ho:PE X o td):PC X .In i o (tDIn ty td):=by
 intro pins s σ H Q I h;refine thn (hi pins s σ H _ I h) fun iv s1 ⟨y,H1,I1,ry,q1⟩=>thn (ho pins s1 σ H1 _ I1 q1) fun u s2 ⟨x,H2,I2,rx,a,ov,ex,g,q2⟩=>?_;subst ex;obtain rfl:u=Value.ref a:=rx;exact d_in hu I2 g ry fun s3 I3=>⟨.bl ov.isSome,H2,I3,rfl,q2⟩
theorem zh0 (hu:X.A.units+1<cLine) (hi:PE X i ty) (ho:PE X o td):PC X .NotIn i o (zeV ty td):=by
 intro pins s σ H Q I h;refine thn (hi pins s σ H _ I h) fun iv s1 ⟨y,H1,I1,ry,q1⟩=>thn (ho pins s1 σ H1 _ I1 q1) fun u s2 ⟨x,H2,I2,rx,a,ov,ex,g,q2⟩=>?_;subst ex;obtain rfl:u=Value.ref a:=rx;exact zk2 hu I2 g ry fun s3 I3=>⟨.bl (!ov.isSome),H2,I3,rfl,q2⟩
theorem zaV (hu:X.A.units+1<cLine) (ho:PE X o td) (hi:PE X i ty) (hv:PE X value tv) (hs:swapsWith value (some (.Subscript o i pos')) pos.line X.env=pure false) :
  PS X (.Assign [.Subscript o i pos'] value pos) (zmO td ty tv):=by
 intro pins s σ H D I h;refine wpAny_Assign_Subscript (thn (hv pins s σ H _ I h) fun r s1 ⟨v,H1,I1,rv,q1⟩=>thn (ho pins s1 σ H1 _ I1 q1) fun u s2 ⟨x,H2,I2,rx,q2⟩=>thn (hi pins s2 σ H2 _ I2 q2) fun iv s3 ⟨y,H3,I3,ry,a,H4,ex,g,q3⟩=>?_) hs;subst ex;obtain rfl:u=Value.ref a:=rx;exact zh6 hu I3 g ry rv fun s4 I4=>⟨σ,H4,I4,q3⟩
end
theorem ziI {P:Program}{w:World}{H:Hp} (h:Heap) (hb:sysModules<h.objs.size):zF P w H (h.push { cls:=.type "dict",data:=.dict #[] }) h.objs.size (.dK []):=
 ⟨AV _,beq_eq_false_iff_ne.mpr (Ne.symm (An hb)),[],.nil,Heap.DictOf.new h⟩
theorem zju {P:Program}{w:World}{H:Hp} (h:Heap) (hb:sysModules<h.objs.size):zF P w H (h.push { cls:=.type "dict",data:=.dict #[] }) h.objs.size (.dT []):=
 ⟨AV _,beq_eq_false_iff_ne.mpr (Ne.symm (An hb)),[],.nil,_,#[],0,Al _ rfl,⟨rfl,rfl,rfl⟩,rfl,rfl,List.nodup_nil⟩
def zl0:TE:=fun _ H Q=>∀p,H p=none->Q (.ref p) (upd H p (.dK []))
def zmh:TE:=fun _ H Q=>∀p,H p=none->Q (.ref p) (upd H p (.dT []))
section
variable {X:Cx}{pos:Pos}
theorem zfJ:PE X (.Dict [] [] pos) zl0:=fun pins s σ H Q I h=>
 wpAny_Dict_empty ⟨.ref s.heap.objs.size,_,I.laid (a:=s.heap.objs.size) (o:=.dK []) (t':=s.toks) (fun _ _ q=>Ad _ q) (Af _) (ziI s.heap I.big),rfl,h _ (I.hok.fresh (Af _))⟩
theorem zde:PE X (.Dict [] [] pos) zmh:=fun pins s σ H Q I h=>
 wpAny_Dict_empty ⟨.ref s.heap.objs.size,_,I.laid (a:=s.heap.objs.size) (o:=.dT []) (t':=s.toks) (fun _ _ q=>Ad _ q) (Af _) (zju s.heap I.big),rfl,h _ (I.hok.fresh (Af _))⟩
end
structure M1 (X:Cx) (o:Expr) (m:Str) (apos:Pos) (e:Expr) (cpos:Pos):Prop where
 base:attributeBase o m X.env (eval o X.env)=eval o X.env
 few:((backTo cpos (starEach [e] X.env)).all (fun x=>!x.1) && (backToKw cpos (keywordEach [] X.env)).all (fun x=>x.1.isSome)
  && decide (([e]:List Expr).length+([]:List Keyword).length+(if ([]:List Keyword).isEmpty then 0 else 1)<30))=true
 line:(apos.endLine == cpos.line)=true
 trees:backTo cpos (starEach [e] X.env)=[(false,eval e X.env)]
structure M2 (X:Cx) (o:Expr) (m:Str) (apos:Pos) (e f:Expr) (cpos:Pos):Prop where
 base:attributeBase o m X.env (eval o X.env)=eval o X.env
 few:((backTo cpos (starEach [e,f] X.env)).all (fun x=>!x.1) && (backToKw cpos (keywordEach [] X.env)).all (fun x=>x.1.isSome)
  && decide (([e,f]:List Expr).length+([]:List Keyword).length+(if ([]:List Keyword).isEmpty then 0 else 1)<30))=true
 line:(apos.endLine == cpos.line)=true
 trees:backTo cpos (starEach [e,f] X.env)=[(false,eval e X.env),(false,eval f X.env)]
def IsD (H:Hp) (a:Addr):Prop:=(∃kvs,Rd H a (.dK kvs)) \/ ∃kvs,Rd H a (.dT kvs)
theorem zme {X:Cx}{pins:List (Addr×Obj)}{σ:St}{H:Hp}{s:Shared}{a:Addr} (I:Inv X pins σ H s) (d:IsD H a) :
  s.TypeIs (.ref a) "dict"/\(∀b,Value.ref a=.ref b->∃ob,s.heap.get? b=some ob/\ob.dict=none)/\(a == sysModules)=false:=by
 rcases d with ⟨kvs,e⟩ | ⟨kvs,e⟩
 ·obtain⟨_,hd,vs,_,dd⟩:=zdD I.hok e
  refine⟨dd.typeIs,fun b q=>?_,hd⟩;cases q;obtain⟨ob,_,_,h1,h2,_⟩:=dd;exact⟨ob,h1,h2.2.1⟩
 ·obtain⟨_,hd,xs,_,dd⟩:=zgx I.hok e
  refine⟨dd.typeIs,fun b q=>?_,hd⟩;cases q;obtain⟨ob,_,_,h1,h2,_⟩:=dd;exact⟨ob,h1,h2.2.1⟩
section
variable {X:Cx}{pins:List (Addr×Obj)}{σ:St}{H:Hp}{s:Shared}{a:Addr}{y d:V}{u r:Value}{o:Option V}{A:Around}{E:Value->Shared->Prop}
end
def zlJ (td ty tx:TE):TE:=fun σ H Q=>td σ H fun x H1=>∃a,x=.ref a/\IsD H1 a/\ty σ H1 fun y H2=>tx σ H2 fun z H3=>∃kvs k,H3 a=some (.dK kvs)/\y=kV k/\
 (∀v,valV kvs k=some v->Q v (upd H3 a (.dK (zeN kvs k))))/\(valV kvs k=none->Q z H3)
section
variable {X:Cx}{o e f:Expr}{apos cpos:Pos}{td ty tx:TE}
theorem zik (ho:PE X o td) (he:PE X e ty) (hf:PE X f tx) (m:M2 X o "pop" apos e f cpos):PE X (.Call (.Attribute o "pop" apos) [e,f] [] cpos) (zlJ td ty tx):=by
 intro pins s σ H Q I h;refine wpAny_Call_method m.base m.few m.line PySem.F.plainAttrs_dict PySem.F.slot_dict_pop PySem.F.type_dict_pop (thn (ho pins s σ H _ I h) fun u s1 ⟨x,H1,I1,rx,a,ex,d,q1⟩=>?_);subst ex;obtain rfl:u=Value.ref a:=rx;obtain⟨t1,t2,_⟩:=zme I1 d;refine⟨t1,t2,?_⟩;rw[m.trees];refine Calls.callWith_builtin rfl (Calls.evalArgs_plain (Calls.spliced_cons (thn (he pins s1 σ H1 _ I1 q1) fun iv s2 ⟨y,H2,I2,ry,q2⟩=>
  Calls.spliced_cons (thn (hf pins s2 σ H2 _ I2 q2) fun fv s3 ⟨z,H3,I3,rz,kvs,k,ea,ey,q3,q4⟩=>Calls.spliced_nil ?_))))
 subst ey;cases l:valV kvs k with
 | some v=>exact zmI I3 ea ry l (.inr ⟨fv,rfl⟩) fun w' s4 I4 rw'=>⟨v,_,I4,rw',q3 v l⟩
 | none=>exact zmg I3 ea ry l fun s4 I4=>⟨z,H3,I4,rz,q4 l⟩
end
section
variable {X:Cx}{pins:List (Addr×Obj)}{σ:St}{H:Hp}{s:Shared}{a:Addr}{kvs:List (Key×V)}{A:Around}{E:Value->Shared->Prop}
theorem zi9 {Q:Value->Shared->Prop} (I:Inv X pins σ H s) (e:Rd H a (.dK kvs)) (h:∀p s',H p=none->Inv X pins σ (upd H p (.dK kvs)) s'->Q (.ref p) s'):wpAny (model X.prog X.w) A (call (.type "dict") [.ref a]) Q E s:=by
 obtain⟨z,hd,vs,rel,dd⟩:=zdD I.hok e;refine kt_call_dict hd dd (by rw[<- rel.length]; exact z) fun h' dd' hs=>?_;refine h _ _ (I.hok.fresh (Af _)) (I.laid (a:=s.heap.objs.size) (o:=.dK kvs) (t':=s.toks) (fun b q hq=>?_) (Af _) (dk_new z (beq_eq_false_iff_ne.mpr (Ne.symm (An I.big))) rel dd'));exact (hs.2 b (An (Ah hq))).trans (Ad _ hq)
end
section
variable {X:Cx}{pins:List (Addr×Obj)}{σ:St}{H:Hp}{s:Shared}{a:Addr}{y:V}{u:Value}{A:Around}{E:Value->Shared->Prop}
end
end L2
namespace Att
open PySem PySem.W PySem.Calls PyProof.Rows
theorem zcO {P:Params}{h:Heap}:∀(ns:List Int) (vs:List Value),WellAll P h vs (ns.map WData.int)->IntsAre vs ns:=by
 intro ns
 induction ns with
 | nil=>
  intro vs w;rw[List.map_nil] at w;cases w;exact .nil
 | cons n ns ih=>
  intro vs w;rw[AK] at w;cases w with
  | cons a b=>
   cases a;exact .cons _ _ (ih _ b)
theorem zhf {l:OpenLaw}{n:Nat} (hn:l.most=some n) {P:Params}{h:Heap}{args:List WData}{vals:List Value}
  (hpre:l.row.toRowW.claim.pre args=true) (hwl:WellAll P h vals args) :
  ∃a vs ns,vals=[Value.ref a]/\args=[WData.list (ns.map WData.int)]/\h.get? a=some { cls:=.type "list",data:=.seq vs.toArray }/\IntsAre vs ns/\ns.length<=n:=by
 have hsh:WShape.hasAll [] args [.list .int]=true:=(pre_splitW hpre).1;have hc:l.pre.holds [] { args:=args }=true:=(pre_splitW hpre).2;obtain⟨d,r,rfl,h1,h2⟩:=hasAllW_cons hsh;obtain rfl:=hasAllW_nil h2;obtain⟨xs,rfl,h3⟩:=hasW_list h1;obtain⟨ns,rfl⟩:=items_int h3;have hlen:ns.length<=n:=by
  unfold OpenLaw.pre at hc;have h4:(WTm.not (.lt (.lit (.int (n:Int))) (.len (.arg 0)))).holds [] { args:=[.list (ns.map .int)] }=true:=by
   have h4:=(holds_andW hc).1;rw[hn] at h4;exact h4
  have h5:=condW_of h4 (w_not (w_lt w_lit (w_len_list (w_arg rfl))));rw[Ab] at h5;refine Nat.le_of_not_lt fun q=>?_;have q':(n:Int)<((ns.length:Nat):Int):=by omega
  first
   | (rw[decide_eq_true q'] at h5; exact absurd h5 (by decide))
   | (simp at h5; omega)
 cases hwl with
 | cons w1 w2=>
  cases w2;cases w1 with
  | list ho hall=>exact⟨_,_,ns,rfl,rfl,ho,zcO ns _ hall,hlen⟩
theorem zhp (l:OpenLaw) (args:List WData):l.row.toRowW.claim.post args (.bool true) args=true:=
 postW_of (r:=l.row.toRowW) (X:=(true == true))
  (show WShape.has [] (.bool true) .bool=true by first | rfl | decide | simp[WShape.has,WShape.arms,WShape.armsAll])
  (show (WTm.eq .res (.lit (.bool true))).value [] { args:=args,res:=some (.bool true),after:=args }=some (.bool (true == true)) from w_eq_bool (w_res rfl) w_lit) rfl
theorem zeR {l:OpenLaw}{n:Nat}{q:Program}{loose:List Str}{XP:(Str->Option Value)->Heap->Prop}{YP:World->Heap->Prop}{d:DefRec}
  (hn:l.most=some n) (hdf:d.params.defaults=[])
  (call:∀(w:World) (s₀ s₁:Shared) (mg mb:Str->Option Value) (fa:Addr) (o:Obj) (pm cd doc:Value) (a:Addr) (vs:List Value) (ns:List Int),
   Ground q loose [] XP w s₀ mg mb s₁.heap->YP w s₁.heap->
   s₁.heap.get? fa=some o->o.data=.func (docDef d.name d.params d.body d.scope pm cd doc)->s₁.heap.CodeRec cd d.name->mg d.name=some (.ref fa)->
   s₁.heap.get? a=some { cls:=.type "list",data:=.seq vs.toArray }->IntsAre vs ns->ns.length<=n->s₁.gens=#[]->
   codeAny (model l.prog w) callerA (.call (.ref fa) ⟨[.ref a],[]⟩) (fun r s'=>r=.ok (.ret (.bool true))/\OldK s₁.heap s'.heap/\s'.os=s₁.os/\AllBare s'.gens) s₁) :
  WalkO q loose XP YP l.row.toRowW d [] (fun f vs=>PySem.call f vs):=by
 intro w s₀ s₁ mg mb G Y fa o pm cd doc dV kV ho hd hcd hD hmg hg args vals as hpre hlay hrd hwl hlo;obtain rfl:dV=.none:=Dflts.none hD hdf;obtain rfl:kV=.none:=Dflts.noKw hD;obtain⟨a,vs,ns,rfl,rfl,hobj,hints,hlen⟩:=zhf hn hpre hwl;refine enter_call (codeAny_mono (call w s₀ s₁ mg mb fa o pm cd doc a vs ns G Y ho (fd_plain hd) hcd hmg hobj hints hlen hg) fun r s' hq=>?_);obtain⟨rfl,h2,h3,h4⟩:=hq;exact⟨.inl ⟨.bool true,.bool true,[],rfl,fun _=>rfl,.bool true,zhp l _,fun _=>⟨List.Pairwise.nil,fun _ hm=>(nomatch hm)⟩⟩,h2,h3,h4⟩
section
variable {prog:Program}{w:World}{A:Around}{E:Value->Shared->Prop}{s:Shared}{K:Frag}
def ledger (h:Heap) (L d:Addr):List (Addr×Obj):=(Bc h.objs.size).filterMap fun a=>if a=L \/ a=d then none else (h.get? a).map fun o=>(a,o)
end
end Att
namespace L2
open PySem PySem.Spec PyProof.Rows
theorem zel:∀{vs:List Value}{ns:List Int},IntsAre vs ns->Vals (ns.map V.int) vs
 | _,_,.nil=>.nil
 | _,_,.cons n t h=>.cons ⟨t,rfl⟩ (zel h)
def Only (H:Hp):Prop:=∀b,H b=none \/ ∃o xs,H b=some (.frz o (.lst xs))
theorem zjo {P:Program}{w:World}{K:Ae}{mg mb:Str->Option Value}{CX:CXT}{k:Nat}{fa a:Addr}{fd:FuncData}{x:Str}{sp:Sp}{s₁:Shared}{vs:List Value}{ns:List Int}
  (KX:K.In s₁.heap) (hns:s₁.heap.Ns mainGlobals mg) (hb:s₁.heap.Ns builtinsNs mb) (hbb:∀x:Str,x≠"__name__"->mb x=A5 x) (hlim:s₁.heap.NoLimit) (hg:s₁.gens=#[])
  (ha:s₁.heap.get? a=some { cls:=.type "list",data:=.seq vs.toArray }) (hi:IntsAre vs ns) (hl:ns.length<=sizeLine) (hr:Room k callerA)
  (F:∀base:Heap,K.In base->base.Ns mainGlobals mg->FnOk P w K mg base CX k fa fd [x] sp) (hbind:∀(s:Shared) (u:Value),BindsTo s fd ⟨[u],[]⟩ [(x,u)])
  (hsp:∀H:Hp,Only H->SqL K H a (ns.map V.int)->sp [.ref a] H (fun v _=>v=.bl true) fun _ _ _=>False)
  (hCX:∀H e s',CX [] H s₁ (fun _ _ _=>False) e s'->False) :
  codeAny (model P w) callerA (.call (.ref fa) ⟨[.ref a],[]⟩) (fun r s'=>r=.ok (.ret (.bool true))/\OldK s₁.heap s'.heap/\s'.os=s₁.os/\AllBare s'.gens) s₁:=by
 have rv:=zel hi;have lenV:=hi.length;have core:∀H:Hp,Only H->SqL K H a (ns.map V.int)->HOk P w H s₁.heap->(∀b,H b≠none->b=a)->(H a≠none->K.lookup a=none)->
   codeAny (model P w) callerA (.call (.ref fa) ⟨[.ref a],[]⟩) (fun r s'=>r=.ok (.ret (.bool true))/\OldK s₁.heap s'.heap/\s'.os=s₁.os/\AllBare s'.gens) s₁:=by
  intro H hO hS hok hA hK;have base_of:∀{b:Addr} {o:Obj},s₁.heap.get? b=some o->H b=none->(hidT s₁.heap H).get? b=some o:=fun e n=>zi5 e n;have noA:∀{b:Addr} {o:Obj} {es:Array DictEntry} {ep:Nat},s₁.heap.get? b=some o->o.data=.dict es ep->H b=none:=fun {b o es ep} e d=>by
   cases q:H b with
   | none=>rfl
   | some u=>
    have e':b=a:=hA b (by rw[q]; simp);subst e';rw[ha] at e; cases e;have d':Data.seq vs.toArray _=Data.dict es ep:=d;cases d'
  have nsK:∀{b:Addr} {m:Str->Option Value},s₁.heap.Ns b m->(hidT s₁.heap H).Ns b m:=fun {b m} ⟨o,es,ep,e,d,r⟩=>⟨o,es,ep,base_of e (noA e d),d,r⟩;have hKb:K.In (hidT s₁.heap H):=fun b o e=>base_of (KX b o e) (by
   cases q:H b with
   | none=>rfl
   | some u=>
    have e':b=a:=hA b (by rw[q]; simp);subst e';rw[hK (by rw[q]; simp)] at e; cases e)
  have hM:Mod K mg (hidT s₁.heap H):=⟨hKb,nsK hns,⟨mb,nsK hb,hbb⟩,let ⟨mc,h1,h2⟩:=hlim; ⟨mc,nsK h1,h2⟩⟩;have e0:Env0 P w K mg (hidT s₁.heap H) callerA [] s₁ H:=⟨rfl,hM,fun b o e=>zlc e,Nat.le_of_eq (zg4 _ _),trivial,fun b hb=>absurd (show b∈([]:List Addr) from hb) (by simp),hok,.of_eq hg⟩;refine codeAny_mono ((F _ hKb (nsK hns)).run callerA [] s₁ H ⟨[.ref a],[]⟩ [.ref a] [.ref a] _ _ hr e0 (hbind s₁ (.ref a)) (.cons rfl .nil) (hsp H hO hS)) fun r s' h=>?_;cases r with
  | error e=>exact (hCX H e s' h).elim
  | ok fl=>
   cases fl with
   | next=>exact False.elim h
   | brk=>exact False.elim h
   | cont=>exact False.elim h
   | ret u=>
    obtain⟨v,H',os,bare,un,hok',r',q⟩:=h;have q':v=.bl true:=q;subst q';obtain rfl:u=Value.bool true:=r';refine⟨rfl,OldK.of_keep fun b o e=>?_,os,bare⟩;cases q:H b with
    | none=>exact un.keep b o e q (by intro z; exact absurd (show b∈([]:List Addr) from z) (by simp)) (by simp)
    | some u=>
     rcases hO b with z | ⟨ob,xs,z⟩
     ·rw[q] at z; cases z
     ·have z2:=un.frzs b ob _ z
      obtain⟨e1,_⟩:=hok b _ z;obtain⟨e2,_⟩:=hok' b _ z2;rw[e] at e1; cases e1;exact e2
 cases hk:K.lookup a with
 | some o=>
  have e:=KX a o hk;rw[ha] at e;cases e;refine core (fun _=>none) (fun _=>.inl rfl) (.inr ⟨_,vs.toArray,_,hk,rfl,rfl,rfl,by rw[Ai,lenV]; exact hl,by simpa using rv⟩) (fun b u z=>by have z':(none:Option HO)=some u:=z; cases z') (fun b z=>absurd rfl z) fun z=>absurd rfl z
 | none=>
  refine core (fun b=>if b=a then some (.frz { cls:=.type "list",data:=.seq vs.toArray } (.lst (ns.map V.int))) else none) (fun b=>?_) (.inl (.inr ⟨{ cls:=.type "list",data:=.seq vs.toArray },if_pos rfl⟩)) (fun b u z=>?_) (fun b z=>?_) fun _=>hk
  ·by_cases hb:b=a
   ·exact .inr ⟨_,_,if_pos hb⟩
   ·exact .inl (if_neg hb)
  ·by_cases hb:b=a
   ·have z':=(if_pos hb).symm.trans z
    cases z';subst hb;exact⟨ha,by rw[Ab]; exact hl,vs,_,rv,ha⟩
   ·have z':=(if_neg hb).symm.trans z
    cases z'
  ·by_cases hb:b=a
   ·exact hb
   ·exact absurd (if_neg hb) z
end L2
namespace L2
open PySem PySem.Spec PyProof.Rows
abbrev KOf {K:Ae}{h:Heap} (_:K.In h):Ae:=K
theorem zhH {l:PySem.W.OpenLaw}{n k:Nat}{q:Program}{loose:List Str}{XP:(Str->Option Value)->Heap->Prop}{YP:World->Heap->Prop}{d:DefRec}{K:Params->Ae}{CX:World->CXT}{sp:World->Sp}{x:Str}
  (hn:l.most=some n) (hn2:n<=sizeLine) (hdf:d.params.defaults=[]) (hr:Room k callerA)
  (hY:∀(w:World) (h:Heap),YP w h->(K w.params).In h)
  (F:∀(w:World) (mg:Str->Option Value) (fa:Addr) (h:Heap),(K w.params).In h->h.Ns mainGlobals mg->mg d.name=some (.ref fa)->
   ∃fd:FuncData,(∀(s:Shared) (u:Value),BindsTo s fd ⟨[u],[]⟩ [(x,u)])/\
    ∀base:Heap,(K w.params).In base->base.Ns mainGlobals mg->FnOk l.prog w (K w.params) mg base (CX w) k fa fd [x] (sp w))
  (hsp:∀(w:World) (H:Hp) (a:Addr) (ns:List Int),ns.length<=n->Only H->SqL (K w.params) H a (ns.map V.int)->sp w [.ref a] H (fun v _=>v=.bl true) fun _ _ _=>False)
  (hCX:∀(w:World) (H:Hp) (s:Shared) (e:Value) (s':Shared),CX w [] H s (fun _ _ _=>False) e s'->False) :
  PySem.W.WalkO q loose XP YP l.row.toRowW d [] (fun f vs=>PySem.call f vs):=by
 refine Att.zeR hn hdf fun w s₀ s₁ mg mb fa o pm cd doc a vs ns G Y ho hd hcd hmg hobj hints hlen hg=>?_;have KX:=hY w _ Y;obtain⟨fd,hb,hF⟩:=F w mg fa _ KX G.T.g hmg;exact zjo KX G.T.g G.T.b G.T.builtins G.T.nolimit hg hobj hints (AF hlen hn2) hr hF hb (fun H hO hS=>hsp w H a ns hlen hO hS) fun H e s'=>hCX w H s₁ e s'
end L2
/- THE LAST THEOREM (shape; LID,My.* are yours):
  My.Adr: a structure of the addresses that your layer names (classes,functions); My.Txt K t: a structure (Prop) of the equations over K;
  My.txt_mk:{K} {implicit addresses ..} (e1:nsIn K mainGlobals "law"=some (some (.ref f))) (e2:K.lookup f=some ⟨oc,od,.func (fnOf "law" "law" params body scope dV kV doc pm an cdv ct),sl⟩) (e3:codeIn K cdv "law"=true) ..:∃t,My.Txt K t
set_option maxRecDepth 100000 in
set_option maxHeartbeats 0 in
theorem PySem.Challenge.cw_LID_holds:PySem.Challenge.rw_LID.Holds := by
 w_on; o_law; k_head; (case hw=>w_witness2)
 k_fill
 refine L2.zhH (l:=PySem.Challenge.rw_LID) (n:=63) (k:=40) (x:="script") (CX:=fun w=>..) (sp:=fun _=>My.sp_law) rfl (by decide) rfl ⟨rfl,by decide,by decide⟩ (fun w h Y=>PySem.W.kIn_of Y) ?F ?S ?C
 case F=>
  intro w mg fa h KX G hmg;have T:∃t,My.Txt (L2.KOf KX) t:=by
   dsimp only[L2.KOf]                          -- K must stand as «<heap const> w.params» for k_is
   refine' My.txt_mk ?e1 ?e2 ?e3 ..
   (case e1 => PySem.W.k_is)                    -- in the order: a name -> its address -> its object -> its parts
   (case e2=>PySem.W.k_is)
   ..
  obtain⟨t,T⟩:=T;have e0:=hmg.symm.trans (Ar KX G T.law);cases e0                                       -- fa is the law's own address
  exact⟨_,fun s u => .of_eq rfl,fun base kb nb => My.law_fn T kb nb⟩     -- if «.of_eq rfl» comes too early: refine' ⟨_,?b,fun base kb nb => My.law_fn T kb nb⟩; exact fun s u => .of_eq rfl
 case S=>exact fun w H a ns hl hO hS=>..
 case C=>exact ..
(the tactic k_is has no namespace: write k_is) -/
namespace L2
open PySem PySem.Spec PyProof.Rows
def zr (s:Stmt):Arguments:=match s with
 | .FunctionDef _ a _ _ _ _ _ _ _ _=>a
 | _=>{ posonlyargs:=[],args:=[],vararg:=none,kwonlyargs:=[],kw_defaults:=[],kwarg:=none,defaults:=[] }
def zl (s:Stmt):List Stmt:=match s with
 | .FunctionDef _ _ b _ _ _ _ _ _ _=>b
 | _=>[]
def za (s:Stmt):Scope:=match s with
 | .FunctionDef _ _ _ _ _ _ sc _ _ _=>sc
 | _=>{ kind:=.function,names:=[],isGenerator:=false,isCoroutine:=false }
abbrev CX0:CXT:=fun _ _ _ _ _ _=>False
abbrev E0:XK:=fun _ _ _=>False
theorem pass0 {X:Cx}:Passes CX0 X E0:=fun _ _ _ _ _ _ _ h=>h.elim
structure Fun (K:Ae) (x qual:Str) (st:Stmt) (f:Addr) (fd:FuncData):Prop where
 ex:∃(oc:Value) (od:Option Addr) (kV doc pm:Value) (an:Option Addr) (cdv ct:Value) (osl:Array (Option Value)),
  fd=AE x qual (zr st) (zl st) (za st) .none kV doc pm an cdv ct/\K.lookup f=some ⟨oc,od,.func fd,osl⟩/\AC K cdv qual=true
 kp:AA K (.ref f)=true
section
variable {P:Program}{w:World}{K:Ae}{mg:Str->Option Value}{base:Heap}
theorem Fun.ok {x qual:Str}{st:Stmt}{f:Addr}{fd:FuncData}{N ps:List Str}{k:Nat}{sp:Sp} (F:Fun K x qual st f fd) (S:zp N ps (za st)) (len:∀vs H Q E,sp vs H Q E->vs.length=ps.length)
  (hbody:∀(cdv:Value) (A:Around) (outer:List Env) (s:Shared) (H:Hp) (vs:List V) (Q:VK) (E:XK),Room k (A.deeper (envOfC qual (za st) s.heap.objs.size f cdv))->sp vs H Q E->
   ∃t,PSs (cxOf CX0 P w K mg base N qual (za st) f cdv A outer s H E).nox (zl st) t/\t { nx:=fun _ H'=>Q .non H',rt:=Q } (start N vs) H):FnOk P w K mg base CX0 (k+1) f fd ps sp:=by
 obtain⟨oc,od,kV,doc,pm,an,cdv,ct,osl,rfl,lk,hcd⟩:=F.ex;refine zlR lk hcd S len fun A outer s H vs Q E hr hsp=>?_;obtain⟨t,h,q⟩:=hbody cdv A outer s H vs Q E hr hsp;exact⟨t,h.nox,q⟩
theorem Fun.binds {x qual:Str}{st:Stmt}{f:Addr}{fd:FuncData}{ps:List Str} (F:Fun K x qual st f fd)
  (h:∀(kV doc pm:Value) (an:Option Addr) (cdv ct:Value) (us:List Value),us.length=ps.length->bindArgs (AE x qual (zr st) (zl st) (za st) .none kV doc pm an cdv ct) ⟨us,[]⟩=pure (ps.zip us)):Binds K fd ps []:=by
 obtain⟨oc,od,kV,doc,pm,an,cdv,ct,osl,rfl,lk,hcd⟩:=F.ex;exact .all (h kV doc pm an cdv ct)
theorem zD {x qual:Str}{st:Stmt}{f:Addr}{oc:Value}{od an:Option Addr}{osl:Array (Option Value)}{kV doc pm cdv ct:Value} (l:K.lookup f=some ⟨oc,od,.func (AE x qual (zr st) (zl st) (za st) .none kV doc pm an cdv ct),osl⟩)
  (c:AC K cdv qual=true) (k:AA K (.ref f)=true):Fun K x qual st f (AE x qual (zr st) (zl st) (za st) .none kV doc pm an cdv ct):=⟨⟨oc,od,kV,doc,pm,an,cdv,ct,osl,rfl,l,c⟩,k⟩
end
theorem zcV {A:Around}{k:Nat} (hr:Room k A):A.units+1<cLine:=Nat.lt_of_le_of_lt (Nat.add_le_add_left (by decide:1<=64) _) hr.units
section
variable {X:Cx}
theorem pv (i:Nat) {x:Str}{pos:Pos} (hN:X.N[i]?=some x:=by rfl) (hv:Vis X.env.scope x:=by first | exact Or.inl rfl | exact Or.inr (Or.inl rfl) | exact Or.inr (Or.inr rfl)) (hd:(x == ("__debug__":Str))=false:=by decide)
  (hcd:(x == ("__classdict__":Str))=false:=by decide):PE X (.Name x pos) (tVar i):=zlL hN hv hd hcd
end
theorem iteF {A B:Prop} (h:B):if false=true then A else B:=by
 rw[if_neg Au];exact h
theorem iteT {A B:Prop} (h:A):if true=true then A else B:=by
 rw[if_pos rfl];exact h
theorem ite2 {c A B:Prop} [Decidable c] (h1:c->A) (h2:¬ c->B):if c then A else B:=by
 by_cases h:c
 ·rw[if_pos h]
  exact h1 h
 ·rw[if_neg h]
  exact h2 h
def Same (H H':Hp):Prop:=∀b o,H b=some o->H' b=some o
theorem Same.refl (H:Hp):Same H H:=fun _ _ h=>h
theorem Same.trans {H H1 H2:Hp} (a:Same H H1) (b:Same H1 H2):Same H H2:=fun c o h=>b c o (a c o h)
theorem Same.free {H H':Hp} (e:Same H H') {l:Addr} (h:H' l=Option.none):H l=Option.none:=by
 cases q:H l with
 | none=>rfl
 | some o=>
  rw[e l o q] at h;cases h
theorem Same.seq {K:Ae}{H H':Hp}{a:Addr}{xs:List V} (e:Same H H') (h:SqL K H a xs):SqL K H' a xs:=by
 rcases h with (h | ⟨o,h⟩) | h
 ·exact .inl (.inl (e _ _ h))
 ·exact .inl (.inr ⟨o,e _ _ h⟩)
 ·exact .inr h
section
variable {X:Cx}
end
section
variable {κ:Type} [DecidableEq κ]
end
end L2
end
section
namespace Tim
open PySem PyProof.Rows
def R (ρ:Keyed->Int) (xs:Array Keyed) (i:Nat):Int:=match xs[i]? with
 | some p=>ρ p
 | none=>0
theorem zcA {ρ:Keyed->Int}{xs ys:Array Keyed}{i j:Nat} (h:xs[i]?=ys[j]?):R ρ xs i=R ρ ys j:=by unfold R; rw[h]
theorem R_at {ρ:Keyed->Int}{xs:Array Keyed}{i:Nat}{p:Keyed} (h:xs[i]?=some p):R ρ xs i=ρ p:=by unfold R; rw[h]
def Srt (ρ:Keyed->Int) (xs:Array Keyed) (lo hi:Nat):Prop:=∀i j,lo<=i->i<=j->j<hi->R ρ xs i<=R ρ xs j
def Dsc (ρ:Keyed->Int) (xs:Array Keyed) (lo hi:Nat):Prop:=∀i j,lo<=i->i<=j->j<hi->R ρ xs j<=R ρ xs i
theorem zdz {ρ:Keyed->Int}{xs:Array Keyed}{i j:Nat} (hj:j<=xs.size) (k:Nat) :
  R ρ (mirror xs i j ((j - i) / 2)) k=if i<=k/\k<j then R ρ xs (i+j - 1 - k) else R ρ xs k:=by
 have e:=getElem?_mirror_all (i:=i) hj k
 by_cases h1:i<=k/\k<j
 ·rw[if_pos h1] at e ⊢; exact zcA e
 ·rw[if_neg h1] at e ⊢; exact zcA e
theorem zZ {ρ:Keyed->Int}{xs:Array Keyed}{i j:Nat} (hj:j<=xs.size) (heq:∀k,i<=k->k<j->R ρ xs k=R ρ xs (j - 1)) (k:Nat) :
  R ρ (mirror xs i j ((j - i) / 2)) k=R ρ xs k:=by
 rw[zdz hj];split
 ·rw[heq _ (by omega) (by omega),heq k (by omega) (by omega)]
 ·rfl
theorem zfN {ρ:Keyed->Int}{xs:Array Keyed}{src d:Nat} (hs:src<xs.size) (hd:d<=src) (k:Nat) :
  R ρ (bubble xs src d) k=if k=src - d then R ρ xs src else if src - d<k/\k<=src then R ρ xs (k - 1) else R ρ xs k:=by
 have e:=getElem?_bubble hs d hd k
 by_cases h1:k=src - d
 ·rw[if_pos h1] at e ⊢; exact zcA e
 ·rw[if_neg h1] at e ⊢
  by_cases h2:src - d<k/\k<=src
  ·rw[if_pos h2] at e ⊢; exact zcA e
  ·rw[if_neg h2] at e ⊢; exact zcA e
structure Cmp (prog:Program) (w:World) (A:Around) (s:Shared) (κ:SortKind) (a₀:Array Keyed) (ρ:Keyed->Int):Prop where
 lt:∀x y,x∈a₀.toList->y∈a₀.toList->∀(Q:Bool->Shared->Prop) (E:Value->Shared->Prop),Q (decide (ρ x<ρ y)) s->wpAny (model prog w) A (keyLt' κ x.1 y.1) Q E s
structure B (κ:SortKind) (a₀:Array Keyed) (st:SortSt):Prop where
 perm:(arrOf st).Perm a₀
 kind:kindOf st=κ
 failed:failedOf st=none
theorem B.size {κ:SortKind}{a₀:Array Keyed}{st:SortSt} (h:B κ a₀ st):(arrOf st).size=a₀.size:=h.perm.size_eq
theorem B.setArr {κ:SortKind}{a₀:Array Keyed}{st:SortSt} (h:B κ a₀ st) {xs:Array Keyed} (hp:xs.Perm (arrOf st)):B κ a₀ (setArr st xs):=⟨hp.trans h.perm,h.kind,h.failed⟩
theorem B.mem {κ:SortKind}{a₀:Array Keyed}{st:SortSt} (h:B κ a₀ st) {p:Keyed} (hp:p∈(arrOf st).toList):p∈a₀.toList:=(Array.perm_iff_toList_perm.mp h.perm).mem_iff.mp hp
theorem zj3 {xs:Array Keyed}{i:Nat} (hi:i<xs.size):∃p,xs[i]?=some p/\p∈xs.toList:=⟨xs[i],getElem?_pos _ i hi,by simp⟩
structure Pre (lo:Nat) (st st':SortSt):Prop where
 arr:∀k,k<lo->(arrOf st')[k]?=(arrOf st)[k]?
 pend:pendingOf st'=pendingOf st
theorem Pre.refl {lo:Nat}{st:SortSt}:Pre lo st st:=⟨fun _ _=>rfl,rfl⟩
theorem Pre.trans {lo:Nat}{a b c:SortSt} (x:Pre lo a b) (y:Pre lo b c):Pre lo a c:=⟨fun k h=>(y.arr k h).trans (x.arr k h),y.pend.trans x.pend⟩
theorem Pre.mir {lo i j:Nat}{st:SortSt} (hj:j<=(arrOf st).size) (hi:lo<=i):Pre lo st (setArr st (mirror (arrOf st) i j ((j - i) / 2))):=
 ⟨fun k h=>by show (mirror _ _ _ _)[k]?=_; rw[getElem?_mirror_all hj,if_neg (by omega)],rfl⟩
theorem Pre.bub {lo src d:Nat}{st:SortSt} (hs:src<(arrOf st).size) (hd:d<=src) (hl:lo<=src - d):Pre lo st (setArr st (bubble (arrOf st) src d)):=
 ⟨fun k h=>by show (bubble _ _ _)[k]?=_; rw[getElem?_bubble hs d hd,if_neg (by omega),if_neg (by omega)],rfl⟩
section
variable {prog:Program}{w:World}{A:Around}{E:Value->Shared->Prop}{s:Shared}{κ:SortKind}{a₀:Array Keyed}{ρ:Keyed->Int}
theorem zmS (C:Cmp prog w A s κ a₀ ρ) {st:SortSt} (hB:B κ a₀ st) {x y:Keyed} (hx:x∈a₀.toList) (hy:y∈a₀.toList) {Q:Option Bool->SortSt->Prop} (h:Q (some (decide (ρ x<ρ y))) st) :
  wpS (model prog w) A E s (lt' x y) Q st:=by
 rw[lt'_eq];refine wpS_bind (wpS_get ?_);rw[hB.kind];refine wpS_bind (wpS_lift (wpAny_attempt (C.lt x y hx hy _ _ ⟨rfl,?_⟩)));exact wpS_pure h
theorem zgY {st:SortSt}{xs:Array Keyed}{i:Nat}{p:Keyed} (h:xs[i]?=some p) {Q:Keyed->SortSt->Prop} (hq:Q p st):wpS (model prog w) A E s (elem' xs i) Q st:=by
 rw[elem'_eq,h];exact wpS_pure hq
theorem zco (C:Cmp prog w A s κ a₀ ρ) {st:SortSt} (hB:B κ a₀ st) {i j:Nat} (hi:i<a₀.size) (hj:j<a₀.size) {Q:Option Bool->SortSt->Prop}
  (h:Q (some (decide (R ρ (arrOf st) i<R ρ (arrOf st) j))) st):wpS (model prog w) A E s (ltAt' i j) Q st:=by
 obtain⟨p,e1,m1⟩:=zj3 (xs:=arrOf st) (i:=i) (by rw[hB.size]; exact hi);obtain⟨q,e2,m2⟩:=zj3 (xs:=arrOf st) (i:=j) (by rw[hB.size]; exact hj);rw[ltAt'_eq];refine wpS_bind (wpS_get ?_);show wpS _ _ _ _ (do let x <- elem' (arrOf st) i; let y <- elem' (arrOf st) j; lt' x y) Q st;refine wpS_bind (zgY e1 (wpS_bind (zgY e2 (zmS C hB (hB.mem m1) (hB.mem m2) ?_))));rw[R_at e1,R_at e2] at h;exact h
def asc (lo a nrem:Nat):StateT SortSt Sem AscSt:=
 forIn [a:nrem] ((none,a):AscSt) fun _ __s=>do
  let __x <- ltAt' (lo+__s.snd) (lo+__s.snd - 1)
  match __x with
  | some smaller=>if smaller=true then pure (ForInStep.done (none,__s.snd)) else pure (ForInStep.yield (none,__s.snd+1))
  | _=>pure (ForInStep.done (some none,__s.snd))
def tl3 (lo n nrem:Nat):StateT SortSt Sem (Option Nat):=do
 reverseSlice' lo (lo+n)
 let __s <- asc lo n nrem
 match __s.fst with
 | some r=>pure r
 | none=>pure (some __s.snd)
def dsc (lo n nrem:Nat):StateT SortSt Sem DescSt:=
 forIn [n:nrem] ((none,n,0):DescSt) fun _ __s=>do
  let __x <- ltAt' (lo+__s.snd.fst) (lo+__s.snd.fst - 1)
  match __x with
  | some smaller=>
   if smaller=true then
    if __s.snd.snd > 0 then do
     reverseSlice' (lo+__s.snd.fst - (__s.snd.snd+1)) (lo+__s.snd.fst)
     pure (ForInStep.yield (none,__s.snd.fst+1,0))
    else pure (ForInStep.yield (none,__s.snd.fst+1,0))
   else do
    let __x <- ltAt' (lo+__s.snd.fst - 1) (lo+__s.snd.fst)
    match __x with
    | some larger=>
     if larger=true then pure (ForInStep.done (none,__s.snd.fst,__s.snd.snd))
     else pure (ForInStep.yield (none,__s.snd.fst+1,__s.snd.snd+1))
    | _=>pure (ForInStep.done (some none,__s.snd.fst,__s.snd.snd))
  | _=>pure (ForInStep.done (some none,__s.snd.fst,__s.snd.snd))
def zhm (lo n nrem:Nat):StateT SortSt Sem (Option Nat):=do
 liftM (rule "list.sort.descending-run")
 let __s <- dsc lo (n+1) nrem
 match __s.fst with
 | some r=>pure r
 | none=>
  if __s.snd.snd > 0 then do
   reverseSlice' (lo+__s.snd.fst - (__s.snd.snd+1)) (lo+__s.snd.fst)
   tl3 lo __s.snd.fst nrem
  else tl3 lo __s.snd.fst nrem
theorem bindc {α β:Type}{m:StateT SortSt Sem α}{f g:α->StateT SortSt Sem β} (h:∀a,f a=g a):(m >>= f)=(m >>= g):=by
 have e:f=g:=funext h;rw[e]
theorem zfk (lo nrem:Nat):countRun' lo nrem=(do
  let __s <- asc lo 1 nrem
  match __s.fst with
  | some r=>pure r
  | none=>
   if (__s.snd == nrem)=true then pure (some __s.snd)
   else if __s.snd > 1 then do
    let __x <- ltAt' lo (lo+__s.snd - 1)
    match __x with
    | some rose=>if rose=true then pure (some __s.snd) else do
      reverseSlice' lo (lo+__s.snd)
      zhm lo __s.snd nrem
    | _=>pure none
   else zhm lo __s.snd nrem):=by
 rw[countRun'_eq];unfold zhm tl3 dsc asc;refine bindc fun s1=>?_;obtain⟨r,n⟩:=s1;cases r with
 | some r=>rfl
 | none=>
  dsimp only;split
  ·rfl
  ·split
   ·refine bindc fun x=>?_
    cases x with
    | none=>rfl
    | some rose=>
     dsimp only;split
     ·rfl
     ·refine bindc fun _r=>bindc fun _u=>bindc fun s2=>?_
      obtain⟨r2,n2,q2⟩:=s2;cases r2 with
      | some r2=>rfl
      | none=>
       dsimp only;split
       ·refine bindc fun _v=>bindc fun _w=>bindc fun s3=>?_
        obtain⟨r3,n3⟩:=s3; cases r3 <;> rfl
       ·refine bindc fun _w=>bindc fun s3=>?_
        obtain⟨r3,n3⟩:=s3; cases r3 <;> rfl
   ·refine bindc fun _u=>bindc fun s2=>?_
    obtain⟨r2,n2,q2⟩:=s2;cases r2 with
    | some r2=>rfl
    | none=>
     dsimp only;split
     ·refine bindc fun _v=>bindc fun _w=>bindc fun s3=>?_
      obtain⟨r3,n3⟩:=s3; cases r3 <;> rfl
     ·refine bindc fun _w=>bindc fun s3=>?_
      obtain⟨r3,n3⟩:=s3; cases r3 <;> rfl
theorem zj0 (C:Cmp prog w A s κ a₀ ρ) {st:SortSt}{lo a nrem:Nat}{Q:AscSt->SortSt->Prop} (hn:lo+nrem<=a₀.size) (ha:1<=a) (han:a<=nrem) (hB:B κ a₀ st) (hs:Srt ρ (arrOf st) lo (lo+a))
  (h:∀n,a<=n->n<=nrem->Srt ρ (arrOf st) lo (lo+n)->(n=nrem \/ R ρ (arrOf st) (lo+n)<R ρ (arrOf st) (lo+n - 1))->Q (none,n) st) :
  wpS (model prog w) A E s (asc lo a nrem) Q st:=by
 unfold asc;refine wpS_forRange (I:=fun x c st'=>st'=st/\c=(none,x)/\Srt ρ (arrOf st) lo (lo+x)) ?step ?fin ⟨rfl,rfl,hs⟩
 case fin=>
  rintro c st' ⟨rfl,rfl,hs'⟩;rw[show max a nrem=nrem by omega] at hs' ⊢;exact h nrem han (Af _) hs' (.inl rfl)
 case step=>
  rintro x c st' hax hxn ⟨rfl,rfl,hs'⟩;dsimp only;refine wpS_bind (zco C hB (by omega) (by omega) ?_)
  by_cases hless:R ρ (arrOf st') (lo+x)<R ρ (arrOf st') (lo+x - 1)
  ·simp only[hless,decide_true,if_true]
   exact wpS_pure (h x hax (by omega) hs' (.inr hless))
  ·simp only[hless,decide_false,Aj,if_false]
   refine wpS_pure ⟨rfl,rfl,fun i j hl hij hj=>?_⟩
   by_cases hjx:j<lo+x
   ·exact hs' i j hl hij hjx
   ·have hj':j=lo+x:=by omega
    subst hj'
    by_cases hi':i=lo+x
    ·subst hi'; exact Int.le_refl _
    ·exact Int.le_trans (hs' i (lo+x - 1) hl (by omega) (by omega)) (Int.not_lt.mp hless)
theorem zf2 {st:SortSt}{i j:Nat}{Q:Unit->SortSt->Prop} (h:Q () (setArr st (mirror (arrOf st) i j ((j - i) / 2)))):wpS (model prog w) A E s (reverseSlice' i j) Q st:=by
 rw[reverseSlice'_eq]; exact wpS_modify h
abbrev Got (κ:SortKind) (a₀:Array Keyed) (ρ:Keyed->Int) (lo nrem:Nat) (st:SortSt) (Q:Option Nat->SortSt->Prop):Prop:=
 ∀m st',B κ a₀ st'->Pre lo st st'->1<=m->m<=nrem->Srt ρ (arrOf st') lo (lo+m)->Q (some m) st'
theorem zjR (C:Cmp prog w A s κ a₀ ρ) {st st₀:SortSt}{lo n nrem:Nat}{Q:Option Nat->SortSt->Prop} (hn:lo+nrem<=a₀.size) (h1:1<=n) (hnn:n<=nrem) (hB:B κ a₀ st) (hP:Pre lo st₀ st)
  (hs:Dsc ρ (arrOf st) lo (lo+n)) (h:Got κ a₀ ρ lo nrem st₀ Q):wpS (model prog w) A E s (tl3 lo n nrem) Q st:=by
 unfold tl3;have hsz:lo+n<=(arrOf st).size:=by rw[hB.size]; omega
 refine wpS_bind (zf2 ?_);have hB':B κ a₀ (setArr st (mirror (arrOf st) lo (lo+n) ((lo+n - lo) / 2))):=hB.setArr (mirror_perm _ _ _ _);refine wpS_bind (zj0 C hn h1 hnn hB' ?_ fun m hm1 hm2 hsm _=>wpS_pure (h m _ hB' (hP.trans (.mir hsz (Af _))) (by omega) hm2 hsm));intro i j hl hij hj;show R ρ (mirror (arrOf st) lo (lo+n) ((lo+n - lo) / 2)) i<=R ρ (mirror (arrOf st) lo (lo+n) ((lo+n - lo) / 2)) j;rw[zdz hsz,zdz hsz,if_pos (by omega),if_pos (by omega)];exact hs _ _ (by omega) (by omega) (by omega)
theorem zmb (C:Cmp prog w A s κ a₀ ρ) {st st₀:SortSt}{lo n nrem:Nat}{Q:DescSt->SortSt->Prop} (hn:lo+nrem<=a₀.size) (h1:1<=n) (hnn:n<=nrem) (hB:B κ a₀ st) (hP:Pre lo st₀ st)
  (hs:Dsc ρ (arrOf st) lo (lo+n))
  (h:∀m neq st',B κ a₀ st'->Pre lo st₀ st'->n<=m->m<=nrem->Dsc ρ (arrOf st') lo (lo+m)->neq+1<=m->(∀i,lo+m - (neq+1)<=i->i<lo+m->R ρ (arrOf st') i=R ρ (arrOf st') (lo+m - 1))->Q (none,m,neq) st') :
  wpS (model prog w) A E s (dsc lo n nrem) Q st:=by
 unfold dsc;refine wpS_forRange (I:=fun x c st'=>∃neq,c=(none,x,neq)/\B κ a₀ st'/\Pre lo st₀ st'/\Dsc ρ (arrOf st') lo (lo+x)/\neq+1<=x/\
   (∀i,lo+x - (neq+1)<=i->i<lo+x->R ρ (arrOf st') i=R ρ (arrOf st') (lo+x - 1))) ?step ?fin ⟨0,rfl,hB,hP,hs,by omega,fun i h1 h2=>by congr 1; omega⟩
 case fin=>
  rintro c st' ⟨neq,rfl,hB',hP',hs',hq,he⟩;rw[show max n nrem=nrem by omega] at hs' hq he ⊢;exact h nrem neq st' hB' hP' hnn (Af _) hs' hq he
 case step=>
  rintro x c st' hax hxn ⟨neq,rfl,hB',hP',hs',hq,he⟩;dsimp only;have hsz:lo+x<=(arrOf st').size:=by rw[hB'.size]; omega
  refine wpS_bind (zco C hB' (by omega) (by omega) ?_)
  by_cases hless:R ρ (arrOf st') (lo+x)<R ρ (arrOf st') (lo+x - 1)
  ·simp only[hless,decide_true,if_true]
   have step1:∀xs:Array Keyed,(∀k,R ρ xs k=R ρ (arrOf st') k)->Dsc ρ xs lo (lo+(x+1)):=by
    intro xs hk i j hl hij hj;rw[hk,hk]
    by_cases hjx:j<lo+x
    ·exact hs' i j hl hij hjx
    ·have hj':j=lo+x:=by omega
     subst hj'
     by_cases hi':i=lo+x
     ·subst hi'; exact Int.le_refl _
     ·exact Int.le_trans (Int.le_of_lt hless) (hs' i (lo+x - 1) hl (by omega) (by omega))
   by_cases hneq:neq > 0
   ·rw[if_pos hneq]
    refine wpS_bind (zf2 (wpS_pure ⟨0,rfl,hB'.setArr (mirror_perm _ _ _ _),hP'.trans (.mir hsz (by omega)),step1 _ (zZ hsz he),by omega,fun i h1 h2=>by congr 1; omega⟩))
   ·rw[if_neg hneq]
    exact wpS_pure ⟨0,rfl,hB',hP',step1 _ (fun _=>rfl),by omega,fun i h1 h2=>by congr 1; omega⟩
  ·simp only[hless,decide_false,Aj,if_false]
   refine wpS_bind (zco C hB' (by omega) (by omega) ?_)
   by_cases hlarger:R ρ (arrOf st') (lo+x - 1)<R ρ (arrOf st') (lo+x)
   ·simp only[hlarger,decide_true,if_true]
    exact wpS_pure (h x neq st' hB' hP' hax (by omega) hs' hq he)
   ·simp only[hlarger,decide_false,Aj,if_false]
    have heqx:R ρ (arrOf st') (lo+x)=R ρ (arrOf st') (lo+x - 1):=by omega
    refine wpS_pure ⟨neq+1,rfl,hB',hP',fun i j hl hij hj=>?_,by omega,fun i h1 h2=>?_⟩
    ·by_cases hjx:j<lo+x
     ·exact hs' i j hl hij hjx
     ·have hj':j=lo+x:=by omega
      subst hj'
      by_cases hi':i=lo+x
      ·subst hi'; exact Int.le_refl _
      ·rw[heqx]; exact hs' i (lo+x - 1) hl (by omega) (by omega)
    ·rw[show lo+(x+1) - 1=lo+x by omega]
     by_cases hix:i=lo+x
     ·subst hix; rfl
     ·rw[heqx]; exact he i (by omega) (by omega)
theorem zfU (C:Cmp prog w A s κ a₀ ρ) {st st₀:SortSt}{lo n nrem:Nat}{Q:Option Nat->SortSt->Prop} (hn:lo+nrem<=a₀.size) (hnn:n+1<=nrem) (hB:B κ a₀ st) (hP:Pre lo st₀ st)
  (hs:Dsc ρ (arrOf st) lo (lo+(n+1))) (h:Got κ a₀ ρ lo nrem st₀ Q):wpS (model prog w) A E s (zhm lo n nrem) Q st:=by
 unfold zhm;refine wpS_bind (wpS_lift (wpAny_rule ⟨rfl,?_⟩));refine wpS_bind (zmb C hn (by omega) hnn hB hP hs fun m neq st' hB' hP' hm1 hm2 hs' hq he=>?_);dsimp only;have hsz:lo+m<=(arrOf st').size:=by rw[hB'.size]; omega
 by_cases hneq:neq > 0
 ·rw[if_pos hneq]
  refine wpS_bind (zf2 (zjR C hn (by omega) hm2 (hB'.setArr (mirror_perm _ _ _ _)) (hP'.trans (.mir hsz (by omega))) ?_ h));intro i j hl hij hj;show R ρ (mirror (arrOf st') _ _ _) j<=R ρ (mirror (arrOf st') _ _ _) i;rw[zZ hsz he,zZ hsz he];exact hs' i j hl hij hj
 ·rw[if_neg hneq]
  exact zjR C hn (by omega) hm2 hB' hP' hs' h
theorem zeW (C:Cmp prog w A s κ a₀ ρ) {st:SortSt}{lo nrem:Nat}{Q:Option Nat->SortSt->Prop} (hn:lo+nrem<=a₀.size) (h1:1<=nrem) (hB:B κ a₀ st)
  (h:Got κ a₀ ρ lo nrem st Q):wpS (model prog w) A E s (countRun' lo nrem) Q st:=by
 rw[zfk];refine wpS_bind (zj0 C hn (Af 1) h1 hB (fun i j hl hij hj=>by have:i=j:=(by omega); subst this; exact Int.le_refl _) fun n hn1 hn2 hsn hor=>?_);dsimp only
 by_cases hnn:n=nrem
 ·rw[if_pos (by simpa using hnn)]
  exact wpS_pure (h n st hB .refl hn1 hn2 hsn)
 ·rw[if_neg (by simpa using hnn)]
  have hlt:R ρ (arrOf st) (lo+n)<R ρ (arrOf st) (lo+n - 1):=hor.resolve_left hnn
  by_cases hgt:n > 1
  ·rw[if_pos hgt]
   refine wpS_bind (zco C hB (by omega) (by omega) ?_)
   by_cases hrose:R ρ (arrOf st) lo<R ρ (arrOf st) (lo+n - 1)
   ·simp only[hrose,decide_true,if_true]
    exact wpS_pure (h n st hB .refl hn1 hn2 hsn)
   ·simp only[hrose,decide_false,Aj,if_false]
    have hsz:lo+n<=(arrOf st).size:=by rw[hB.size]; omega
    have hall:∀k,lo<=k->k<lo+n->R ρ (arrOf st) k=R ρ (arrOf st) (lo+n - 1):=by
     intro k hl hk;have a1:=hsn lo k (by omega) hl hk;have a2:=hsn k (lo+n - 1) hl (by omega) (by omega);omega
    refine wpS_bind (zf2 (zfU C hn (by omega) (hB.setArr (mirror_perm _ _ _ _)) (.mir hsz (Af _)) ?_ h));intro i j hl hij hj;show R ρ (mirror (arrOf st) _ _ _) j<=R ρ (mirror (arrOf st) _ _ _) i;rw[zZ hsz hall,zZ hsz hall]
    by_cases hjn:j<lo+n
    ·rw[hall i (by omega) (by omega),hall j (by omega) hjn]; exact Int.le_refl _
    ·have hj':j=lo+n:=by omega
     subst hj'
     by_cases hi':i=lo+n
     ·subst hi'; exact Int.le_refl _
     ·rw[hall i (by omega) (by omega)]; exact Int.le_of_lt hlt
  ·rw[if_neg hgt]
   have hn1':n=1:=by omega
   subst hn1';refine zfU C hn (by omega) hB .refl ?_ h;intro i j hl hij hj
   by_cases hi':i=j
   ·subst hi'; exact Int.le_refl _
   ·have hi0:i=lo:=by omega
    have hj1:j=lo+1:=by omega
    subst hi0; subst hj1;exact Int.le_of_lt hlt
theorem zdL (C:Cmp prog w A s κ a₀ ρ) {st:SortSt}{lo n ok:Nat}{Q:Bool->SortSt->Prop} (hn:lo+n<=a₀.size) (hok:ok<=n) (hB:B κ a₀ st) (hs:Srt ρ (arrOf st) lo (lo+ok))
  (h:∀st',B κ a₀ st'->Pre lo st st'->Srt ρ (arrOf st') lo (lo+n)->Q true st'):wpS (model prog w) A E s (binarySort' lo n ok) Q st:=by
 rw[binarySort'_eq];refine wpS_bind (wpS_mono (wpS_forRange (I:=fun k c st'=>c=(none,())/\B κ a₀ st'/\Pre lo st st'/\Srt ρ (arrOf st') lo (lo+min k n))
  (Q:=fun c st'=>c=(none,())/\B κ a₀ st'/\Pre lo st st'/\Srt ρ (arrOf st') lo (lo+n)) ?step ?fin ?init) ?post)
 case post=>
  rintro c st' ⟨rfl,hB',hP',hs'⟩;exact wpS_pure (h st' hB' hP' hs')
 case init=>
  refine⟨rfl,hB,.refl,fun i j hl hij hj=>?_⟩
  by_cases h1:ok=0
  ·have:i=j:=by omega
   subst this; exact Int.le_refl _
  ·exact hs i j hl hij (by omega)
 case fin=>
  rintro c st' ⟨hc,hB',hP',hs'⟩;refine⟨hc,hB',hP',?_⟩
  rwa [show min (max (max ok 1) n) n=n by omega] at hs'
 case step=>
  rintro k c st' hak hkn ⟨rfl,hB',hP',hs'⟩;rw[show min k n=k by omega] at hs';have hk:lo+k<a₀.size:=by omega
  refine wpS_bind (wpS_mono (wpS_forRange (I:=fun x c st''=>st''=st'/\∃l r,c=(none,l,r)/\l<=r/\r<=k/\r - l<=k - x/\
    (∀i,i<l->R ρ (arrOf st') (lo+i)<=R ρ (arrOf st') (lo+k))/\(∀i,r<=i->i<k->R ρ (arrOf st') (lo+k)<R ρ (arrOf st') (lo+i)))
   (Q:=fun c st''=>st''=st'/\∃l r,c=(none,l,r)/\l<=k/\
    (∀i,i<l->R ρ (arrOf st') (lo+i)<=R ρ (arrOf st') (lo+k))/\(∀i,l<=i->i<k->R ρ (arrOf st') (lo+k)<R ρ (arrOf st') (lo+i))) ?istep ?ifin ?iinit) ?ipost)
  case iinit=>exact⟨rfl,0,k,rfl,by omega,by omega,by omega,fun i hi=>by omega,fun i h1 h2=>by omega⟩
  case ifin=>
   rintro c st'' ⟨rfl,l,r,rfl,hlr,hrk,hm,hlo,hhi⟩;have:l=r:=by omega
   subst this;exact⟨rfl,l,l,rfl,hrk,hlo,hhi⟩
  case istep=>
   rintro x c st'' _ hxk ⟨rfl,l,r,rfl,hlr,hrk,hm,hlo,hhi⟩;dsimp only
   by_cases hge:l ≥ r
   ·rw[if_pos hge]
    have:l=r:=by omega
    subst this;exact wpS_pure ⟨rfl,l,l,rfl,hrk,hlo,hhi⟩
   ·rw[if_neg hge]
    refine wpS_bind (zco C hB' hk (by omega) ?_)
    by_cases hless:R ρ (arrOf st'') (lo+k)<R ρ (arrOf st'') (lo+(l+r) / 2)
    ·simp only[hless,decide_true,if_true]
     refine wpS_pure ⟨rfl,l,(l+r) / 2,rfl,by omega,by omega,by omega,hlo,fun i h1 h2=>?_⟩;exact Int.lt_of_lt_of_le hless (hs' _ _ (by omega) (by omega) (by omega))
    ·simp only[hless,decide_false,Aj,if_false]
     refine wpS_pure ⟨rfl,(l+r) / 2+1,r,rfl,by omega,by omega,by omega,fun i h1=>?_,hhi⟩;exact Int.le_trans (hs' (lo+i) (lo+(l+r) / 2) (by omega) (by omega) (by omega)) (Int.not_lt.mp hless)
  case ipost=>
   rintro c st'' ⟨rfl,l,r,rfl,hlk,hlo,hhi⟩;show wpS _ _ _ _ (do moveDown' (lo+k) (lo+l); pure (ForInStep.yield (none,()))) _ _;rw[moveDown'_eq];have hks:lo+k<(arrOf st'').size:=by rw[hB'.size]; exact hk
   refine wpS_bind (wpS_modify (wpS_pure ⟨rfl,hB'.setArr (bubble_perm _ _ _),hP'.trans (.bub hks (by omega) (by omega)),?_⟩));rw[show min (k+1) n=k+1 by omega];intro i j hl hij hj;show R ρ (bubble (arrOf st'') (lo+k) (lo+k - (lo+l))) i<=R ρ (bubble (arrOf st'') (lo+k) (lo+k - (lo+l))) j;rw[zfN hks (by omega),zfN hks (by omega),show lo+k - (lo+k - (lo+l))=lo+l by omega];have q1:∀i,lo<=i->i<lo+l->R ρ (arrOf st'') i<=R ρ (arrOf st'') (lo+k):=fun i h1 h2=>by
    have:=hlo (i - lo) (by omega); rwa [show lo+(i - lo)=i by omega] at this
   have q2:∀i,lo+l<=i->i<lo+k->R ρ (arrOf st'') (lo+k)<R ρ (arrOf st'') i:=fun i h1 h2=>by
    have:=hhi (i - lo) (by omega) (by omega); rwa [show lo+(i - lo)=i by omega] at this
   repeat' split
   all_goals first
    | (exfalso; omega)
    | exact Int.le_refl _
    | exact q1 _ (by omega) (by omega)
    | exact Int.le_of_lt (q2 _ (by omega) (by omega))
    | exact hs' _ _ (by omega) (by omega) (by omega)
end
end Tim
end
section
namespace Tim
open PySem PyProof.Rows
section
variable {prog:Program}{w:World}{A:Around}{E:Value->Shared->Prop}{s:Shared}{κ:SortKind}{a₀:Array Keyed}{ρ:Keyed->Int}
theorem zex (C:Cmp prog w A s κ a₀ ρ) {st:SortSt}{Q:Unit->SortSt->Prop} (hB:B κ a₀ st) (hp:pendingOf st=#[]) (h1:1<=a₀.size) (h64:a₀.size<64)
  (h:∀st',B κ a₀ st'->Srt ρ (arrOf st') 0 a₀.size->Q () st'):wpS (model prog w) A E s sortRuns' Q st:=by
 rw[sortRuns'_eq];refine wpS_bind (wpS_get ?_);dsimp only;have hmr:minRun' a₀.size a₀.size 0=a₀.size:=by
  obtain⟨f,hf⟩:∃f,a₀.size=f+1:=⟨a₀.size - 1,by omega⟩;have:minRun' (f+1) a₀.size 0=a₀.size:=by rw[minRun'_succ,if_pos h64]; rfl
  rwa [<- hf] at this
 simp only[hB.size,hmr];refine wpS_bind (wpS_mono (wpS_forRange
  (I:=fun x c st'=>(x=0/\c=(none,0)/\B κ a₀ st'/\pendingOf st'=#[]) \/ (1<=x/\c=(none,a₀.size)/\B κ a₀ st'/\(pendingOf st').size<=1/\Srt ρ (arrOf st') 0 a₀.size))
  (Q:=fun c st'=>c=(none,a₀.size)/\B κ a₀ st'/\(pendingOf st').size<=1/\Srt ρ (arrOf st') 0 a₀.size) ?step ?fin (.inl ⟨rfl,rfl,hB,hp⟩)) ?post)
 case fin=>
  rintro c st' (⟨hx,_,_⟩ | ⟨_,hc,hD⟩)
  ·omega
  ·exact⟨hc,hD⟩
 case step=>
  rintro x c st' _ hx (⟨rfl,rfl,hB',hp'⟩ | ⟨hx1,rfl,hD⟩)
  ·dsimp only
   rw[if_neg (by omega)];simp only[Nat.sub_zero,Nat.min_self];refine wpS_bind (zeW C (by omega) (by omega) hB' fun m st2 hB2 P2 m1 m2 sr2=>?_);dsimp only;have tl:∀st3,B κ a₀ st3->pendingOf st3=#[]->Srt ρ (arrOf st3) 0 a₀.size->B κ a₀ (setPending st3 ((pendingOf st3).push (0,a₀.size,0)))/\(pendingOf (setPending st3 ((pendingOf st3).push (0,a₀.size,0)))).size<=1/\Srt ρ (arrOf (setPending st3 ((pendingOf st3).push (0,a₀.size,0)))) 0 a₀.size:=
    fun st3 b p q=>⟨⟨b.perm,b.kind,b.failed⟩,by show ((pendingOf st3).push _).size<=1; rw[p]; exact Af 1,q⟩
   by_cases hlt:m<a₀.size
   ·rw[if_pos hlt]
    refine wpS_bind (wpS_lift (wpAny_rule ⟨rfl,?_⟩));refine wpS_bind (zdL C (by omega) m2 hB2 sr2 fun st3 hB3 P3 sr3=>?_);simp only[Bool.not_true,Aj,if_false];refine wpS_bind (wpS_get ?_);have hp3:pendingOf st3=#[]:=by rw[P3.pend,P2.pend]; exact hp'
    have hb:(pendingOf st3).back?=none:=by rw[hp3]; rfl
    rw[hb];dsimp only;simp only[Nat.zero_add] at sr3 ⊢;exact wpS_bind (wpS_modify (wpS_pure (.inr ⟨by omega,rfl,tl st3 hB3 hp3 sr3⟩)))
   ·rw[if_neg hlt]
    have hm:m=a₀.size:=by omega
    subst hm;refine wpS_bind (wpS_get ?_);have hp2:pendingOf st2=#[]:=by rw[P2.pend]; exact hp'
    have hb:(pendingOf st2).back?=none:=by rw[hp2]; rfl
    rw[hb];dsimp only;simp only[Nat.zero_add] at sr2 ⊢;exact wpS_bind (wpS_modify (wpS_pure (.inr ⟨by omega,rfl,tl st2 hB2 hp2 sr2⟩)))
  ·dsimp only
   rw[if_pos (Af _)];exact wpS_pure ⟨rfl,hD⟩
 case post=>
  rintro c st' ⟨rfl,hB',hs1,sr⟩;dsimp only;refine wpS_bind (wpS_mono (wpS_forRange (I:=fun _ c st''=>st''=st'/\c=(none,())) (Q:=fun c st''=>st''=st'/\c=(none,())) ?_ (fun _ _ hh=>hh) ⟨rfl,rfl⟩) ?_)
  ·rintro x c st'' _ _ ⟨rfl,rfl⟩
   refine wpS_bind (wpS_get ?_);rw[if_pos hs1];exact wpS_pure ⟨rfl,rfl⟩
  ·rintro c st'' ⟨rfl,rfl⟩
   exact wpS_pure (h _ hB' sr)
end
end Tim
end
section
namespace Srt
open PySem PyProof.Rows HT
theorem zfd:∀a:List Int,lexLt a a=false
 | []=>rfl
 | x::a=>by rw[zE,if_pos rfl]; exact zfd a
theorem zaF:∀{a b c:List Int},lexLt a b=true->lexLt b c=true->lexLt a c=true
 | [],[],_,h,_=>by cases h
 | [],_::_,[],_,h=>by cases h
 | [],_::_,_::_,_,_=>rfl
 | _::_,[],_,h,_=>by cases h
 | _::_,_::_,[],_,h=>by cases h
 | x::a,y::b,z::c,h1,h2=>by
  rw[zE] at h1 h2 ⊢
  by_cases e1:x=y
  ·rw[if_pos e1] at h1
   by_cases e2:y=z
   ·rw[if_pos e2] at h2
    rw[if_pos (e1.trans e2)];exact zaF h1 h2
   ·rw[if_neg e2] at h2
    rw[if_neg (by omega)];have:=of_decide_eq_true h2;exact decide_eq_true (by omega)
  ·rw[if_neg e1] at h1
   have q1:=of_decide_eq_true h1
   by_cases e2:y=z
   ·rw[if_neg (by omega)]
    exact decide_eq_true (by omega)
   ·rw[if_neg e2] at h2
    have q2:=of_decide_eq_true h2;rw[if_neg (by omega)];exact decide_eq_true (by omega)
theorem zh5:∀{a b:List Int},lexLt a b=false->lexLt b a=false->a=b
 | [],[],_,_=>rfl
 | [],_::_,h,_=>by cases h
 | _::_,[],_,h=>by cases h
 | x::a,y::b,h1,h2=>by
  rw[zE] at h1 h2
  by_cases e:x=y
  ·subst e
   rw[if_pos rfl] at h1 h2;rw[zh5 h1 h2]
  ·rw[if_neg e] at h1
   rw[if_neg (Ne.symm e)] at h2;have:=of_decide_eq_false h1;have:=of_decide_eq_false h2;omega
def rk (ls:List (List Int)) (l:List Int):Int:=((ls.filter fun m=>lexLt m l).length:Nat)
theorem zlG {ls:List (List Int)}{l m:List Int} (hl:l∈ls) (hm:m∈ls):decide (rk ls l<rk ls m)=lexLt l m:=by
 have mono:∀{a b:List Int},(∀x,lexLt x a=true->lexLt x b=true)->∀k:List (List Int),(k.filter fun x=>lexLt x a).length<=(k.filter fun x=>lexLt x b).length:=by
  intro a b hab k
  induction k with
  | nil=>exact Af _
  | cons x k ih=>
   rw[List.filter_cons,List.filter_cons]
   by_cases q:lexLt x a=true
   ·rw[if_pos q,if_pos (hab x q),As,As]; omega
   ·rw[if_neg q]
    split
    ·rw[As]; omega
    ·exact ih
 have strict:∀{a b:List Int},(∀x,lexLt x a=true->lexLt x b=true)->lexLt a b=true->∀k:List (List Int),a∈k->(k.filter fun x=>lexLt x a).length<(k.filter fun x=>lexLt x b).length:=by
  intro a b hab h k
  induction k with
  | nil=>intro q; cases q
  | cons x k ih=>
   intro hk;rw[List.filter_cons,List.filter_cons];rcases List.mem_cons.mp hk with e | e
   ·subst e
    rw[if_neg (by rw[zfd]; exact Au),if_pos h,As];have:=mono hab k;omega
   ·have:=ih e
    by_cases q:lexLt x a=true
    ·rw[if_pos q,if_pos (hab x q),As,As]; omega
    ·rw[if_neg q]
     split
     ·rw[As]; omega
     ·exact this
 unfold rk;cases q:lexLt l m with
 | true=>
  have:=strict (a:=l) (b:=m) (fun x hx=>zaF hx q) q ls hl;exact decide_eq_true (by omega)
 | false=>
  have:=mono (a:=m) (b:=l) (fun x hx=>by
   cases z:lexLt x l with
   | true=>rfl
   | false=>
    cases z2:lexLt l x with
    | true=>rw[zaF z2 hx] at q; cases q
    | false=>rw[zh5 z z2] at hx; rw[hx] at q; cases q) ls
  exact decide_eq_false (by omega)
structure By (prog:Program) (w:World) (A:Around) (good:Heap->Prop) (us:List Value) (ls:List (List Int)):Prop where
 len:us.length=ls.length
 fn:∀(i j:Nat) u l m,us[i]?=some u->us[j]?=some u->ls[i]?=some l->ls[j]?=some m->l=m
 ask:2<=us.length->∃κ:SortKind,(∀(s:Shared) (Q:SortKind->Shared->Prop) (E:Value->Shared->Prop),good s.heap->Q κ s->wpAny (model prog w) A (keyKind' us.toArray) Q E s)/\
  ∀(i j:Nat) u v l m,us[i]?=some u->us[j]?=some v->ls[i]?=some l->ls[j]?=some m->∀(s:Shared) (Q:Bool->Shared->Prop) (E:Value->Shared->Prop),good s.heap->Q (lexLt l m) s->wpAny (model prog w) A (keyLt' κ u v) Q E s
open Classical in
noncomputable def lof (us:List Value) (ls:List (List Int)) (u:Value):List Int:=if h:∃l,∃i:Nat,us[i]?=some u/\ls[i]?=some l then h.choose else []
theorem zd9 {us:List Value}{ls:List (List Int)} (fn:∀(i j:Nat) u l m,us[i]?=some u->us[j]?=some u->ls[i]?=some l->ls[j]?=some m->l=m) {i:Nat}{u:Value}{l:List Int} (h1:us[i]?=some u) (h2:ls[i]?=some l):lof us ls u=l:=by
 unfold lof;have h:∃l,∃i:Nat,us[i]?=some u/\ls[i]?=some l:=⟨l,i,h1,h2⟩;rw[dif_pos h];obtain⟨j,e1,e2⟩:=h.choose_spec;exact fn j i u _ l e1 h1 e2 h2
noncomputable def zgk (us:List Value) (ls:List (List Int)) (p:Keyed):Int:=rk ls (lof us ls p.1)
section
variable {prog:Program}{w:World}{A:Around}{E:Value->Shared->Prop}{s:Shared}{good:Heap->Prop}{us vs:List Value}{ls:List (List Int)}
theorem zfT (h:us.length=vs.length) {p:Keyed} (hp:p∈(us.toArray.zip vs.toArray).toList):∃i:Nat,us[i]?=some p.1/\vs[i]?=some p.2:=by
 have e:(us.toArray.zip vs.toArray).toList=us.zip vs:=by simp
 rw[e] at hp;obtain⟨i,hi,e2⟩:=List.mem_iff_getElem.mp hp;rw[List.getElem_zip] at e2;rw[List.length_zip] at hi;refine⟨i,?_,?_⟩
 ·rw[Ag (by omega),<- e2]
 ·rw[Ag (by omega),<- e2]
theorem zlH (B:By prog w A good us ls) (hl:us.length=vs.length) (hg:good s.heap) {κ:SortKind} (h2:2<=us.length) (h64:us.length<64)
  (hk:∀(i j:Nat) u v l m,us[i]?=some u->us[j]?=some v->ls[i]?=some l->ls[j]?=some m->∀(s:Shared) (Q:Bool->Shared->Prop) (E:Value->Shared->Prop),good s.heap->Q (lexLt l m) s->wpAny (model prog w) A (keyLt' κ u v) Q E s)
  {Q:Unit->SortSt->Prop} (h:∀st',(arrOf st').Perm (us.toArray.zip vs.toArray)->failedOf st'=none->Tim.Srt (zgk us ls) (arrOf st') 0 vs.length->Q () st') :
  wpS (model prog w) A E s sortRuns' Q (SortSt.mk' κ (us.toArray.zip vs.toArray) #[] 7 none):=by
 have hz:(us.toArray.zip vs.toArray).size=vs.length:=by simp; omega
 refine Tim.zex (κ:=κ) (a₀:=us.toArray.zip vs.toArray) (ρ:=zgk us ls) ⟨fun x y hx hy Q' E' hq=>?_⟩ ⟨Array.Perm.refl _,rfl,rfl⟩ rfl (by rw[hz]; omega) (by rw[hz]; omega) fun st' b sr=>h st' b.perm b.failed (by rw[<- hz]; exact sr);obtain⟨i,e1,_⟩:=zfT hl hx;obtain⟨j,e2,_⟩:=zfT hl hy;have hi:i<ls.length:=by rw[<- B.len]; exact (List.getElem?_eq_some_iff.mp e1).1
 have hj:j<ls.length:=by rw[<- B.len]; exact (List.getElem?_eq_some_iff.mp e2).1
 have f1:ls[i]?=some ls[i]:=Ag hi;have f2:ls[j]?=some ls[j]:=Ag hj;refine hk i j _ _ _ _ e1 e2 f1 f2 s Q' E' hg ?_;unfold zgk at hq;rw[zd9 B.fn e1 f1,zd9 B.fn e2 f2,zlG (List.getElem_mem hi) (List.getElem_mem hj)] at hq;exact hq
theorem zipget {α β:Type}:∀(l:List α) (m:List β) (i:Nat),(l.zip m)[i]?=(l[i]?).bind fun x=>(m[i]?).map fun y=>(x,y)
 | [],m,i=>by simp
 | x::l,[],i=>by cases h:(x::l)[i]? <;> simp
 | x::l,y::m,0=>rfl
 | x::l,y::m,i+1=>by
  rw[List.zip_cons_cons,List.getElem?_cons_succ,List.getElem?_cons_succ,List.getElem?_cons_succ];exact zipget l m i
theorem zmC (B:By prog w A good us ls) (hl:us.length=vs.length) {xs:Array Keyed} (hp:xs.Perm (us.toArray.zip vs.toArray)) (hs:Tim.Srt (zgk us ls) xs 0 vs.length) :
  ∃ps:List (List Int×Value),ps.Perm (ls.zip vs)/\xs.toList.map (·.2)=ps.map (·.2)/\ps.Pairwise fun (a b:List Int×Value)=>HT.lexLt b.1 a.1=false:=by
 have pl:xs.toList.Perm (us.zip vs):=by
  have:=Array.perm_iff_toList_perm.mp hp
  simpa using this
 refine⟨xs.toList.map fun p=>(lof us ls p.1,p.2),?_,by rw[Aw]; rfl,?_⟩
 ·have e:(us.zip vs).map (fun p:Keyed=>(lof us ls p.1,p.2))=ls.zip vs:=by
   apply List.ext_getElem?;intro i;rw[Ap,zipget,zipget];cases e1:us[i]? with
   | none=>
    have:ls[i]?=none:=List.getElem?_eq_none (by rw[<- B.len]; exact List.getElem?_eq_none_iff.mp e1);rw[this]; rfl
   | some u=>
    have hi:i<ls.length:=by rw[<- B.len]; exact (List.getElem?_eq_some_iff.mp e1).1
    have f1:ls[i]?=some ls[i]:=Ag hi;rw[f1];cases e2:vs[i]? with
    | none=>rfl
    | some v=>
     show some (lof us ls u,v)=some (ls[i],v);rw[zd9 B.fn e1 f1]
  rw[<- e];exact pl.map _
 ·rw[Bf,List.pairwise_iff_getElem]
  intro i j hi hj hij;have hsz:xs.size=vs.length:=by
   have:=pl.length_eq;rw[Az,List.length_zip] at this;omega
  rw[Az] at hi hj;have q:=hs i j (AV _) (Nat.le_of_lt hij) (by omega);have a1:xs[i]?=some xs[i]:=getElem?_pos xs i hi;have a2:xs[j]?=some xs[j]:=getElem?_pos xs j hj;rw[Tim.R_at a1,Tim.R_at a2] at q;simp only[Array.getElem_toList];obtain⟨i',g1,_⟩:=zfT hl (p:=xs[i]) (by
   have:=pl.mem_iff.mp (show xs[i]∈xs.toList by simp)
   simpa using this)
  obtain⟨j',g2,_⟩:=zfT hl (p:=xs[j]) (by
   have:=pl.mem_iff.mp (show xs[j]∈xs.toList by simp)
   simpa using this)
  have hi':i'<ls.length:=by rw[<- B.len]; exact (List.getElem?_eq_some_iff.mp g1).1
  have hj':j'<ls.length:=by rw[<- B.len]; exact (List.getElem?_eq_some_iff.mp g2).1
  have f1:ls[i']?=some ls[i']:=Ag hi';have f2:ls[j']?=some ls[j']:=Ag hj';unfold zgk at q;rw[zd9 B.fn g1 f1,zd9 B.fn g2 f2] at q ⊢;have:=zlG (ls:=ls) (List.getElem_mem hj') (List.getElem_mem hi');rw[<- this];exact decide_eq_false (by omega)
end
end Srt
end
section
namespace Srt
open PySem PyProof.Rows PySem.W
section
variable {prog:Program}{w:World}{A:Around}{E:Value->Shared->Prop}{s:Shared}{good:Heap->Prop}{us vs:List Value}{ls:List (List Int)}
theorem zeP {ns:List Int} (hi:IntsAre us ns):By prog w A (fun _=>True) us (ns.map fun n=>[n]):=by
 have hlen:=hi.length;have at_:∀(i:Nat) u l,us[i]?=some u->(ns.map fun n=>[n])[i]?=some l->∃n t,u=.int n t/\l=[n]:=fun i u l h1 h2=>by
  obtain⟨t,e⟩:=IntsAre.int_at hi i u h1;rw[Ap] at h2;cases e2:ns[i]? with
  | none=>rw[e2] at h2; cases h2
  | some n=>
   rw[e2] at h2;have e3:ns.getD i 0=n:=by rw[List.getD_eq_getElem?_getD,e2]; rfl
   rw[e3] at e;exact⟨n,t,e,(Ao h2).symm⟩
 refine⟨by rw[Ab,hlen],fun i j u l m h1 h2 h3 h4=>?_,fun h2=>⟨oneType',fun s Q E _ hq=>?_,fun i j u v l m h1 h2 h3 h4 s Q E _ hq=>?_⟩⟩
 ·obtain⟨n,t,e1,rfl⟩:=at_ i u l h1 h3
  obtain⟨n',t',e2,rfl⟩:=at_ j u m h2 h4;rw[e1] at e2;cases e2
  rfl
 ·match us,hi,h2 with
  | [],_,h2=>simp at h2
  | [_],_,h2=>simp at h2
  | v₁::v₂::rest,hi,_=>
   rw[keyKind_ints hi];exact Ac hq
 ·obtain⟨n,t,rfl,rfl⟩:=at_ i u l h1 h3
  obtain⟨n',t',rfl,rfl⟩:=at_ j v m h2 h4;refine kat_lt_int ?_;have:HT.lexLt [n] [n']=decide (n<n'):=by
   rw[HT.zE]
   by_cases e:n=n'
   ·rw[if_pos e,HT.zbJ]; exact (decide_eq_false (by omega)).symm
   ·rw[if_neg e]
  rw[this] at hq;exact hq
def IsPr (h:Heap) (u:Value) (l:List Int):Prop:=∃(a b:Addr) (n:Int) (t:Tok) (its:List Value) (ps:List Int),u=.ref a/\l=n::ps/\IsTup h a #[.int n t,.ref b]/\IsTup h b its.toArray/\IntsAre its ps
theorem IsTup.inj {h:Heap}{a:Addr}{xs ys:Array Value} (h1:IsTup h a xs) (h2:IsTup h a ys):xs=ys:=by
 obtain⟨o,e,_,n,d⟩:=h1;obtain⟨o',e',_,n',d'⟩:=h2;rw[e] at e'; cases e';rw[d] at d';injection d'
theorem IntsAre.inj {vs:List Value}{ns ms:List Int} (h:IntsAre vs ns) (g:IntsAre vs ms):ns=ms:=by
 induction h generalizing ms with
 | nil=>cases g; rfl
 | cons n t h ih=>cases g with | cons _ _ h'=>rw[ih h']
theorem IsPr.inj {h:Heap}{u:Value}{l m:List Int} (h1:IsPr h u l) (h2:IsPr h u m):l=m:=by
 obtain⟨a,b,n,t,its,ps,rfl,rfl,t1,t2,i1⟩:=h1;obtain⟨a',b',n',t',its',ps',e,rfl,t1',t2',i1'⟩:=h2;cases e;have:=Srt.IsTup.inj t1 t1';cases this;have e2:=Srt.IsTup.inj t2 t2';have e3:its=its':=by simpa using e2
 subst e3;rw[IntsAre.inj i1 i1']
theorem zmQ {x y:Value}{l m:List Int}{Q:Bool->Shared->Prop} (h1:IsPr s.heap x l) (h2:IsPr s.heap y m) (hu:A.units<cLine) (hq:Q (HT.lexLt l m) s):wpAny (model prog w) A (keyLt' (tuples' true) x y) Q E s:=by
 obtain⟨a,b,n,t,its,ps,rfl,rfl,t1,t2,i1⟩:=h1;obtain⟨a',b',n',t',its',ps',rfl,rfl,t1',t2',i1'⟩:=h2;obtain⟨o,e,hc,k,d⟩:=id t1;obtain⟨o',e',hc',k',d'⟩:=id t1';refine kat_lt e d e' d' ?_;show KatLex prog w A true (decide (2<2)) Q [(.int n t,.int n' t'),(.ref b,.ref b')] 0 s;rw[HT.zE] at hq;refine kat_cons (Ba (SeqAt.EqAt.int_int n t n' t' prog w (fun _ _=>False) _ ⟨rfl,rfl⟩:wpAny (model prog w) A (eqBool (.int n t) (.int n' t')) (fun e s'=>e=(n == n')/\s'=s) (fun _ _=>False) s) (fun e1 s1 he=>?_) fun _ _ z=>z);obtain⟨rfl,rfl⟩:=he
 by_cases en:n=n'
 ·have eb:(n == n')=true:=by simpa using en
  rw[eb];rw[if_pos en] at hq;refine kat_yes (kat_cons ?_);have ktup:∀{c:Addr} {cs:List Value} {qs:List Int},IsTup s1.heap c cs.toArray->IntsAre cs qs->AW (L2.zq prog w) s1.heap (qs.map Sum.inl) c:=fun {c cs qs} hc hi=>by
   obtain⟨o,e,hcl,k,d⟩:=hc;refine⟨o,cs.toArray,k,e,hcl,d,?_⟩;have:∀{cs:List Value} {qs:List Int},IntsAre cs qs->ItemsAre (L2.zq prog w) (qs.map Sum.inl) cs:=by
    intro cs qs hi
    induction hi with
    | nil=>exact .nil
    | cons n t h ih=>exact .cons (L2.zbA prog w n t) ih
   simpa using this hi
  refine wpAny_eqBool_tuple (knd:=L2.zq prog w) hu (ktup t2 i1) (ktup t2' i1') ?_
  by_cases ep:ps=ps'
  ·subst ep
   rw[decide_eq_true rfl];rw[zfd] at hq;exact kat_yes (kat_nil hq)
  ·have:¬ (ps.map Sum.inl:List L2.Key)=ps'.map Sum.inl:=fun z=>ep (List.map_inj_right (f:=(Sum.inl:Int->L2.Key)) (fun x y h=>Sum.inl.inj h) |>.mp z)
   rw[decide_eq_false this];refine kat_no ?_;show wpAny (model prog w) A (oneLt' false (.ref b) (.ref b')) Q (fun _ _=>False) s1;exact kat_one _ _ (HT.zgg t2 t2' (by simpa using i1) (by simpa using i1') hu hq)
 ·have eb:(n == n')=false:=by simpa using en
  rw[eb];rw[if_neg en] at hq;refine kat_no ?_;show wpAny (model prog w) A (oneLt' true (.int n t) (.int n' t')) Q (fun _ _=>False) s1;exact oneLt_int hq
theorem zhE {h:Heap}:∀{us:List Value}{ls:List (List Int)},us.length=ls.length->(∀(i:Nat) u l,us[i]?=some u->ls[i]?=some l->IsPr h u l)->∃fs,KatTups h us fs/\fs.length=us.length/\∀f∈fs,∃n t,f=Value.int n t
 | [],[],_,_=>⟨[],.nil,rfl,fun f hf=>nomatch hf⟩
 | u::us,l::ls,hl,hp=>by
  obtain⟨fs,a1,a2,a3⟩:=zhE (us:=us) (ls:=ls) (by simpa using hl) fun i u l h1 h2=>hp (i+1) u l (by simpa using h1) (by simpa using h2);obtain⟨a,b,n,t,its,ps,rfl,rfl,t1,t2,i1⟩:=hp 0 u l rfl rfl;obtain⟨o,e,hc,k,d⟩:=id t1;refine⟨.int n t::fs,.cons e hc d rfl a1,by simp[a2],fun f hf=>?_⟩;rcases List.mem_cons.mp hf with rfl | hf
  ·exact⟨n,t,rfl⟩
  ·exact a3 f hf
 | [],_::_,h,_=>by simp at h
 | _::_,[],h,_=>by simp at h
theorem zkd (hl:us.length=ls.length) (hu:A.units<cLine) (hg:∃h,good h) (hp:∀h,good h->∀(i:Nat) u l,us[i]?=some u->ls[i]?=some l->IsPr h u l):By prog w A good us ls:=by
 refine⟨hl,fun i j u l m h1 h2 h3 h4=>?_,fun h2=>⟨tuples' true,fun s Q E gs hq=>?_,fun i j u v l m h1 h2 h3 h4 s Q E gs hq=>?_⟩⟩
 ·obtain⟨h,gh⟩:=hg
  exact (hp h gh i u l h1 h3).inj (hp h gh j u m h2 h4)
 ·obtain⟨fs,a1,a2,a3⟩:=zhE hl (hp _ gs)
  refine kat_kind (T:=.type "int") a1 (by omega) (fun f hf=>?_) (by decide) hq;obtain⟨n,t,rfl⟩:=a3 f hf;exact Looks.of_pure rfl
 ·exact zmQ (hp _ gs i u l h1 h3) (hp _ gs j v m h2 h4) hu hq
end
end Srt
end
section
namespace Srt
open PySem PyProof.Rows PySem.W
def Out (ls:List (List Int)) (vs out:List Value):Prop:=∃ps:List (List Int×Value),ps.Perm (ls.zip vs)/\out=ps.map (·.2)/\ps.Pairwise fun (a b:List Int×Value)=>HT.lexLt b.1 a.1=false
section
variable {prog:Program}{w:World}{A:Around}{E:Value->Shared->Prop}{s:Shared}{good:Heap->Prop}{us vs:List Value}{ls:List (List Int)}
theorem zh2 (hl:ls.length=vs.length) (hu:us.length=vs.length) (h2:vs.length<2):Out ls vs ((us.toArray.zip vs.toArray).map (·.2)).toList:=by
 have e:((us.toArray.zip vs.toArray).map (·.2)).toList=vs:=by
  rw[Array.toList_map,show (us.toArray.zip vs.toArray).toList=us.zip vs by simp,List.map_snd_zip (by omega)]
 rw[e];refine⟨ls.zip vs,List.Perm.refl _,by rw[List.map_snd_zip (by omega)],?_⟩;have hz:(ls.zip vs).length<2:=by rw[List.length_zip]; omega
 match ls.zip vs,hz with
 | [],_=>exact List.Pairwise.nil
 | [x],_=>simp
 | _::_::_,h=>simp only[As] at h; omega
theorem zfy (B:By prog w A good us ls) (hl:us.length=vs.length) (h64:vs.length<64) (hg:good s.heap) {P:PySem.Fin->Shared->Prop}{G:Unit×SortSt->Sem PySem.Fin}
  (h:∀st',Out ls vs ((arrOf st').map (·.2)).toList->(arrOf st').size=vs.length->failedOf st'=none->wpAny (model prog w) A (G (PUnit.unit,st')) P E s) :
  wpAny (model prog w) A (if vs.toArray.size<2 then (pure general' >>= fun kind=>(if vs.toArray.size<2 then pure () else sortRuns').run (SortSt.mk' kind (us.toArray.zip vs.toArray) #[] 7 none) >>= G)
   else (keyKind' us.toArray >>= fun kind=>(if vs.toArray.size<2 then pure () else sortRuns').run (SortSt.mk' kind (us.toArray.zip vs.toArray) #[] 7 none) >>= G)) P E s:=by
 have hzs:(us.toArray.zip vs.toArray).size=vs.length:=by rw[Array.size_zip,Ai,Ai]; omega
 by_cases h2:vs.toArray.size<2
 ·rw[if_pos h2]
  refine Aa (Ac ?_);rw[if_pos h2];rw[StateT.run_pure];refine Aa (Ac ?_)
  try dsimp only
  rw[Ai] at h2;exact h (SortSt.mk' general' (us.toArray.zip vs.toArray) #[] 7 none) (zh2 (by rw[<- B.len]; exact hl) hl h2) hzs rfl
 ·rw[if_neg h2,if_neg h2]
  rw[Ai] at h2;obtain⟨κ,k1,k2⟩:=B.ask (by omega);refine Aa (k1 s _ E hg ?_);refine Aa (Ba (zlH (Q:=fun _ st'=>(arrOf st').Perm (us.toArray.zip vs.toArray)/\failedOf st'=none/\Tim.Srt (zgk us ls) (arrOf st') 0 vs.length) B hl hg (by omega) (by omega) k2 fun st' a1 a2 a3=>⟨a1,a2,a3⟩) ?_ fun _ _ e=>e);rintro⟨⟨⟩,st'⟩ s' ⟨rfl,hp,hf,hs⟩
  try dsimp only
  exact h st' (by
   obtain⟨ps,a1,a2,a3⟩:=zmC B hl hp hs;exact⟨ps,a1,by rw[Array.toList_map]; exact a2,a3⟩) (by rw[hp.size_eq]; exact hzs) hf
theorem zbe {a:Addr}{n:Nat}{P:PySem.Fin->Shared->Prop} (ho:s.heap.get? a=some (seqObj "list" vs.toArray n)) (B:By prog w A good vs ls)
  (hg:∀h',(∀b o,b≠a->s.heap.get? b=some o->h'.get? b=some o)->good h') (hz:vs.length<=sizeLine) (h64:vs.length<64)
  (h:∀out:Array Value,Out ls vs out.toList->P (.done (.ret .none)) { s with heap:=sortedHeap s.heap a vs out }) :
  wpAny (model prog w) A (Builtin.«list.sort» ⟨[.ref a],[]⟩) P E s:=by
 rw[list_sort_plain];have ha:a<s.heap.objs.size:=Ah ho;refine Aa (listItems_at ho rfl ?_);refine Aa (listUpdate_at ho rfl ?_ (by rw[Ai]; exact hz) (AV _));obtain⟨e1,ho1⟩:∃e1,(s.heap.update a (AI fun _=>#[])).get? a=some (seqObj "list" #[] e1):=⟨_,get?_update_seq ho (fun _=>#[])⟩;refine Aa (seqEpoch_at ho1 rfl ?_);refine Aa (wpAny_newTuple ?_ (by show vs.length<=_; exact hz));refine Aa (wpAny_newList ?_ (AV _));refine AJ ?_;have ho6:(((s.heap.update a (AI fun _=>#[])).push (seqObj "tuple" vs.toArray 0)).push (seqObj "list" #[] 0)).get? a=some (seqObj "list" #[] e1):=by
  rw[Heap.get?_push_ne _ _ _ (by rw[size_push',Bb]; exact An (AL ha)),Heap.get?_push_ne _ _ _ (by rw[Bb]; exact An ha)];exact ho1
 show wpAny (model prog w) A _ P E { s with heap:=((s.heap.update a (AI fun _=>#[])).push (seqObj "tuple" vs.toArray 0)).push (seqObj "list" #[] 0) };dsimp only;refine zfy (s:={ s with heap:=((s.heap.update a (AI fun _=>#[])).push (seqObj "tuple" vs.toArray 0)).push (seqObj "list" #[] 0) }) B rfl h64 (hg _ fun b o hb e=>Ad _ (Ad _ (by rw[Heap.get?_update_ne _ _ _ _ hb]; exact e))) fun st' ho hsz hf=>?_;dsimp only;refine Aa (seqEpoch_at ho6 rfl ?_);refine Aa (listUpdate_at ho6 rfl ?_ (AV _) (AF (Nat.le_of_eq ((A0 ..).trans hsz)) (Nat.le_succ_of_le hz)));rw[hf];simp only[bne_self_eq_false,Aj,if_false];exact Ac (h _ ho)
theorem zd4 {l:Addr}{Q:Value->Shared->Prop} (hl:s.heap.IsList l vs.toArray) (B:By prog w A.in1.in1 good vs ls)
  (hg:∀h',(∀b o,s.heap.get? b=some o->h'.get? b=some o)->good h') (hz:vs.length<=sizeLine) (h64:vs.length<64)
  (h:∀out:Array Value,Out ls vs out.toList->Q (.ref (s.heap.objs.size+1)) { s with heap:=sortedAll s.heap vs out }) :
  wpAny (model prog w) A (call (.builtin "sorted") [.ref l]) Q E s:=by
 refine Calls.call_function_entry kind_sorted plain_sorted entry_sorted (args_sorted1 _) ?_;unfold Builtin.«sorted»;refine Aa (m:=checkCount "sorted" 1 1 _) (Ac ?_);refine Aa (collect_list hl ?_ hz);refine Aa (wpAny_newList ?_ hz);have hsz:((s.heap.push (seqObj "list" #[] 0)).update s.heap.objs.size (AI (·++vs.toArray))).objs.size=s.heap.objs.size+1:=by
  rw[Bb,size_push']
 have hoL:(((s.heap.push (seqObj "list" #[] 0)).update s.heap.objs.size (AI (·++vs.toArray))).push (seqObj "list" vs.toArray 0)).get? (s.heap.objs.size+1)=some (seqObj "list" vs.toArray 0):=by
  rw[<- hsz]; exact Al _ rfl
 have keep:∀b o,s.heap.get? b=some o->(((s.heap.push (seqObj "list" #[] 0)).update s.heap.objs.size (AI (·++vs.toArray))).push (seqObj "list" vs.toArray 0)).get? b=some o:=fun b o q=>by
  have hlt:b<s.heap.objs.size:=Ah q;rw[Heap.get?_push_ne _ _ _ (by rw[hsz]; exact An (AL hlt)),Heap.get?_update_ne _ _ _ _ (An hlt),Heap.get?_push_ne _ _ _ (An hlt)];exact q
 show wpAny _ _ _ _ _ { s with heap:=((s.heap.push (seqObj "list" #[] 0)).update s.heap.objs.size (AI (·++vs.toArray))).push (seqObj "list" vs.toArray 0) };rw[hsz];refine Aa (AJ (AR slot_list_sort ⟨_,hoL,rfl⟩ entry_list_sort (zbe (s:={ s with heap:=((s.heap.push (seqObj "list" #[] 0)).update s.heap.objs.size (AI (·++vs.toArray))).push (seqObj "list" vs.toArray 0) }) hoL B (fun h' hk=>hg h' fun b o q=>hk b o (An (AL (Ah q))) (keep b o q)) hz h64 fun out ho=>⟨_,rfl,?_⟩) (args_list_sort _)));exact Ac ⟨_,rfl,h out ho⟩
theorem zkq {a kS:Addr}{keys:Array Value}{e e1:Nat}{st:SortSt}{P:PySem.Fin->Shared->Prop} (nk:s.heap.get? kS=some (seqObj "list" keys e)) (na:s.heap.get? a=some (seqObj "list" #[] e1)) (hka:kS≠a)
  (hks:keys.size<=sizeLine) (ho:Out ls vs ((arrOf st).map (·.2)).toList) (hsz:(arrOf st).size=vs.length) (hz:vs.length<=sizeLine) (hfl:failedOf st=none)
  (h:∀h' out c,(∀b o,b≠kS->b≠a->s.heap.get? b=some o->h'.get? b=some o)->h'.get? a=some (seqObj "list" out c)->(∃o,h'.get? kS=some o)->Out ls vs out.toList->h'.objs.size=s.heap.objs.size->P (.done (.ret .none)) { s with heap:=h' }) :
  wpAny (model prog w) A (ksk_tail a false e1 (.ref kS) st) P E s:=by
 have s1:=AZ s.heap kS (AI fun _=>(#[]:Array Value));have na1:(s.heap.update kS (AI fun _=>(#[]:Array Value))).get? a=some (seqObj "list" #[] e1):=(s1.2 a hka.symm).trans na;have s2:=AZ (s.heap.update kS (AI fun _=>(#[]:Array Value))) a (AI fun _=>(arrOf st).map (·.2));obtain⟨c2,hc2⟩:∃c2,((s.heap.update kS (AI fun _=>(#[]:Array Value))).update a (AI fun _=>(arrOf st).map (·.2))).get? a=some (seqObj "list" ((arrOf st).map (·.2)) c2):=
  ⟨_,get?_update_seq na1 fun _=>(arrOf st).map (·.2)⟩
 unfold ksk_tail
 try dsimp only
 simp only[Aj,if_false];refine Aa (listUpdate_at nk rfl ?_ hks (AV _));refine Aa (wpAny_letGo ?_);refine Aa (seqEpoch_at na1 rfl ?_);refine Aa (listUpdate_at na1 rfl ?_ (AV _) (AF (Nat.le_of_eq ((A0 ..).trans hsz)) (Nat.le_succ_of_le hz)));rw[hfl];simp only[bne_self_eq_false,Aj,if_false];refine Ac (h _ _ c2 (fun b o h1 h2 q=>(s2.2 b h2).trans ((s1.2 b h1).trans q)) hc2 ⟨_,(s2.2 kS hka).trans (get?_update_seq nk fun _=>#[])⟩ ho (by rw[Bb,Bb]))
end
end Srt
end
section
namespace L2
open PySem PySem.Spec PyProof.Rows
def clOf (cells:List (Str×Addr)):List (Str×NameKind)->List (Str×Addr)->List (Str×Addr)
 | [],acc=>acc
 | (n,k)::r,acc=>if (k == .free)=true then clOf cells r ((n,(cells.lookup n).getD 0)::acc) else clOf cells r acc
theorem zg8 {env:Env}:∀(names:List (Str×NameKind)) (acc:List (Str×Addr)),(∀x∈names,x.2=.free->∃c,env.cells.lookup x.1=some c)->
  (forIn names acc fun x (r:List (Str×Addr))=>if (x.2 == .free)=true then do let c <- cellOf env x.1; pure (ForInStep.yield ((x.1,c)::r)) else pure (ForInStep.yield r):Sem (List (Str×Addr)))=pure (clOf env.cells names acc)
 | [],acc,_=>rfl
 | (n,k)::r,acc,h=>by
  rw[List.forIn_cons];have ih:=fun a=>zg8 (env:=env) r a fun x hx=>h x (Ax _ hx);unfold clOf
  by_cases hk:(k == Bd)=true
  ·have hk':k=.free:=by cases k <;> first | rfl | cases hk
   obtain⟨c,hc⟩:=h (n,k) AB hk';simp only[hk,if_true];unfold cellOf;rw[hc];simp only[pure_bind,Option.getD_some];exact ih _
  ·simp only[hk,Aj,if_false,pure_bind]
   exact ih _
theorem zcX {scope:Scope}{env:Env} (h:∀x∈scope.names,x.2=.free->∃c,env.cells.lookup x.1=some c):closureFor scope env=pure (clOf env.cells scope.names []):=by
 rw[<- zg8 scope.names [] h];unfold closureFor;simp
theorem ze8 {cells:List (Str×Addr)}{x:Str}{c:Addr}:∀{names:List (Str×NameKind)}{acc:List (Str×Addr)},(∀y∈names,y.2=.free->∃d,cells.lookup y.1=some d)->(∀p∈acc,cells.lookup p.1=some p.2)->(clOf cells names acc).lookup x=some c->cells.lookup x=some c
 | [],acc,_,ha,h=>ha (x,c) (A3 h)
 | (n,k)::r,acc,hn,ha,h=>by
  unfold clOf at h;have hn':∀y∈r,y.2=.free->∃d,cells.lookup y.1=some d:=fun y hy=>hn y (Ax _ hy)
  by_cases hk:(k == Bd)=true
  ·have hk':k=.free:=by cases k <;> first | rfl | cases hk
   obtain⟨d,hd⟩:=hn (n,k) AB hk';rw[if_pos hk] at h;refine ze8 hn' (fun p hp=>?_) h;rcases List.mem_cons.mp hp with rfl | hp
   ·show cells.lookup n=some ((cells.lookup n).getD 0)
    have hd':cells.lookup n=some d:=hd;rw[hd']; rfl
   ·exact ha p hp
  ·rw[if_neg hk] at h
   exact ze8 hn' ha h
theorem zJ {x:Str}{c:Addr}:∀{l:List (Str×Addr)},(x,c)∈l->∃d,l.lookup x=some d
 | [],h=>nomatch h
 | (y,d)::l,h=>by
  rw[Be]
  by_cases e:x=y
  ·subst e; exact⟨d,by simp⟩
  ·have hb:(x == y)=false:=by simpa using e
   rw[hb];rcases List.mem_cons.mp h with q | q
   ·cases q; exact absurd rfl e
   ·exact zJ q
theorem zbl {cells:List (Str×Addr)}{x:Str}:∀{names:List (Str×NameKind)}{acc:List (Str×Addr)},((x,Bd)∈names \/ ∃c,(x,c)∈acc)->∃c,(x,c)∈clOf cells names acc
 | [],acc,h=>h.elim (fun q=>nomatch q) id
 | (n,k)::r,acc,h=>by
  unfold clOf
  by_cases hk:(k == Bd)=true
  ·rw[if_pos hk]
   refine zbl ?_;rcases h with h | ⟨c,h⟩
   ·rcases List.mem_cons.mp h with q | q
    ·cases q; exact .inr ⟨_,AB⟩
    ·exact .inl q
   ·exact .inr ⟨c,Ax _ h⟩
  ·rw[if_neg hk]
   refine zbl ?_;rcases h with h | h
   ·rcases List.mem_cons.mp h with q | q
    ·cases q; exact absurd rfl hk
    ·exact .inl q
   ·exact .inr h
def cxC (X:Cx) (scope:Scope) (N:List Str) (cl:List (Str×Addr)) (C:Addr) (s₀:Shared) (H₀:Hp) (ex:List Addr):Cx where
 prog:=X.prog
 w:=X.w
 K:=X.K
 mg:=X.mg
 base:=X.base
 A:=X.A
 N:=N
 s₀:=s₀
 H₀:=H₀
 env:=compEnvC scope cl C X.env
 outer:=X.stack
 stack:=X.stack
 ex:=ex
 fn:=fun _=>false
 calm:=X.calm
 pn:=X.pn
 xe:=fun _ _=>False
def PTL (X:Cx) (ifs:List Expr) (t:TT):Prop:=
 ∀(pins:List (Addr×Obj)) (s:Shared) (σ:St) (H:Hp) (Q:Bool->Hp->Prop),Inv X pins σ H s->t σ H Q->
  wpAny (model X.prog X.w) X.A (forIn ifs true fun c r=>if r=true then do let ok <- isTrue c X.env (eval c X.env); pure (ForInStep.yield ok) else pure (ForInStep.yield r)) (TP X pins σ Q) X.xe s
def tYes:TT:=fun _ H Q=>Q true H
theorem zL {X:Cx}:PTL X [] tYes:=fun _ _ _ H _ I h=>wpAny_tests_nil ⟨H,I,h⟩
theorem zaR {X:Cx}{c:Expr}{t:TT} (h:PT X c t):PTL X [c] t:=fun pins s σ H Q I hw=>wpAny_tests_one (h pins s σ H Q I hw)
def zdC (caps:List (Option Nat)) (σ:St):St:=caps.map fun c=>match c with
 | none=>none
 | some j=>(σ[j]?).getD none
def zaf (J:It) (g:TG) (tc:TT) (te:TE) (σ:St) (H1:Hp) (D:Addr) (Q:VK):Prop:=
 ∃W:Nat->Nat->St->Hp->Prop,(∃m,W 0 m σ (upd H1 D (.lst [])))/\
 ∀i m σ2 H2,W i m σ2 H2->(J.stop i H2/\Q (.ref D) H2) \/ (J.go i H2/\∀x H3,J.yld i H2 x H3->g x σ2 H3 fun σ3 H4=>tc σ3 H4 fun b H5=>
  if b=true then te σ3 H5 fun y H6=>∃ys m',H6 D=some (.lst ys)/\ys.length<sizeLine/\m'<m/\W (i+1) m' σ3 (upd H6 D (.lst (ys++[y])))
  else ∃m',m'<m/\W (i+1) m' σ3 H5)
def tLC (wi:TI) (caps:List (Option Nat)) (g:TG) (tc:TT) (te:TE):TE:=fun σ H Q=>wi σ H fun J H1=>∀D,H1 D=none->zaf J g tc te (zdC caps σ) H1 D Q
def zgS (N N':List Str) (caps:List (Option Nat)) (scope:Scope):Prop:=
 caps.length=N'.length/\∀i j:Nat,caps[i]?=some (some j)->∃x:Str,N'[i]?=some x/\N[j]?=some x/\scope.names.lookup x=some .free
section
variable {X:Cx}{scope:Scope}{N':List Str}{caps:List (Option Nat)}{tg iter elt:Expr}{ifs:List Expr}{wi:TI}{g:TG}{tc:TT}{te:TE}{pos:Pos}
theorem zaz {scope:Scope}{env:Env}{x:Str}:∀{names:List (Str×NameKind)},(names.lookup x=some .free \/ names.lookup x=some .cell)->
  ((names.map fun (n,k)=>if (k == Bd && env.scope.kind == .function && env.kindOf n == some .cell) then (n,NameKind.cell) else (n,k)).lookup x=some .free \/
   (names.map fun (n,k)=>if (k == Bd && env.scope.kind == .function && env.kindOf n == some .cell) then (n,NameKind.cell) else (n,k)).lookup x=some .cell)
 | [],h=>by simp at h
 | (n,k)::r,h=>by
  have ih:=@zaz scope env x r;show List.lookup x ((if (k == Bd && env.scope.kind == .function && env.kindOf n == some .cell)=true then (n,NameKind.cell) else (n,k))::_)=_ \/ List.lookup x ((if (k == Bd && env.scope.kind == .function && env.kindOf n == some .cell)=true then (n,NameKind.cell) else (n,k))::_)=_;cases hx:x == n with
  | true=>
   simp only[Be,hx] at h
   by_cases hc:(k == Bd && env.scope.kind == .function && env.kindOf n == some .cell)=true
   ·rw[if_pos hc]; simp[Be,hx]
   ·rw[if_neg hc]; simp only[Be,hx]; exact h
  | false=>
   simp only[Be,hx] at h
   by_cases hc:(k == Bd && env.scope.kind == .function && env.kindOf n == some .cell)=true
   ·rw[if_pos hc]; simp only[Be,hx]; exact ih h
   ·rw[if_neg hc]; simp only[Be,hx]; exact ih h
theorem zaE {env:Env}{x:Str}{kd:NameKind}:∀{names:List (Str×NameKind)},(names.map fun (n,k)=>if (k == Bd && env.scope.kind == .function && env.kindOf n == some .cell) then (n,NameKind.cell) else (n,k)).lookup x=some kd->
  ∃k',names.lookup x=some k'/\(kd=k' \/ (k'=.free/\kd=.cell))
 | [],h=>by simp at h
 | (n,k)::r,h=>by
  have ih:=@zaE env x kd r;have h':List.lookup x ((if (k == Bd && env.scope.kind == .function && env.kindOf n == some .cell)=true then (n,NameKind.cell) else (n,k))::_)=some kd:=h;cases hx:x == n with
  | true=>
   simp only[Be,hx]
   by_cases hc:(k == Bd && env.scope.kind == .function && env.kindOf n == some .cell)=true
   ·rw[if_pos hc] at h'
    simp only[Be,hx] at h';cases h';have hk:k=.free:=by
     rw[AN,AN] at hc;cases k <;> first | rfl | exact absurd hc.1.1 (by decide)
    exact⟨k,rfl,.inr ⟨hk,rfl⟩⟩
   ·rw[if_neg hc] at h'
    simp only[Be,hx] at h';cases h';exact⟨_,rfl,.inl rfl⟩
  | false=>
   simp only[Be,hx]
   by_cases hc:(k == Bd && env.scope.kind == .function && env.kindOf n == some .cell)=true
   ·rw[if_pos hc] at h'; simp only[Be,hx] at h'; exact ih h'
   ·rw[if_neg hc] at h'; simp only[Be,hx] at h'; exact ih h'
structure Left (X:Cx) (pins:List (Addr×Obj)) (σ:St) (H':Hp) (s4:Shared) (C:Addr):Prop where
 ns:∃m,s4.heap.Ns C m
 far:X.s₀.heap.objs.size<=C
 nl:C≠X.env.locals
 nc:∀x c,X.env.cells.lookup x=some c->c≠C
 np:∀p∈X.pn++pins,p.1≠C
 no:H' C=none
 back:∀h',A2 C s4.heap h'->Inv X pins σ H' { s4 with heap:=h' }
theorem zeg {use:Option (Value->Sem Unit)}{R:Value->Shared->Prop}{pp:Pos} (hc:X.calm=true) (hk:scope.kind=.function) (hcell:∀y∈scope.names,y.2≠.cell) (hnames:∀y∈scope.names,y.2=.local->scope.names.lookup y.1=some .local)
  (hfr:∀y∈scope.names,y.2=.free->X.env.kindOf y.1=some .cell \/ X.env.kindOf y.1=some .free) (hcap:zgS X.N N' caps scope)
  (hi:PI X tg iter wi) (hg:∀cl C s₀ H₀ ex,PG (cxC X scope N' cl C s₀ H₀ ex) tg g) (ht:∀cl C s₀ H₀ ex,PTL (cxC X scope N' cl C s₀ H₀ ex) ifs tc) (he:∀cl C s₀ H₀ ex,PE (cxC X scope N' cl C s₀ H₀ ex) elt te)
  (hs:∀x,foldedSetIterable iter X.env x=pure x) {pins:List (Addr×Obj)} {s:Shared} {σ:St} {H:Hp} {Q:VK} (I:Inv X pins σ H s) (h:tLC wi caps g tc te σ H Q)
  (fin:∀(D C:Addr) (H':Hp) (s4:Shared) (f:Flow),Left X pins σ H' s4 C->Q (.ref D) H'->compPost (model X.prog X.w) X.A X.xe use R (.ref D) C (.ok f) s4) :
  wpAny (model X.prog X.w) X.A (comprehension (.ListComp elt [⟨tg,iter,ifs,0⟩] scope pos) scope X.env pp (newList []) (firstAsync [⟨tg,iter,ifs,0⟩]) (firstIter [⟨tg,iter,ifs,0⟩] X.env) use) R X.xe s:=by
 have hcl:∀y∈scope.names,y.2=.free->∃c,X.env.cells.lookup y.1=some c:=fun y hy e=>I.ok.has y.1 (hfr y hy e);refine wpAny_comprehension_free (use:=use) rfl hs (zcX hcl) hk hnames ?_;refine thn (hi pins s σ H _ I h) fun xv s1 h1=>thn h1 fun itv s2 h2=>?_;obtain⟨it,fp,tn,J,H2,e,I2,T,st2,f2,q⟩:=h2;subst e;have hf2:H2 s2.heap.objs.size=none:=I2.hok.fresh (Af _);obtain⟨W,⟨m0,w0⟩,turn⟩:=q s2.heap.objs.size hf2;refine AO (wpAny_newFunctionEnv hcell (by intro y hy; simp at hy) (fun h₁ hns₁ hsb₁=>?_) hk);dsimp only at hns₁ hsb₁ ⊢;generalize hD:s2.heap.objs.size=D at *;obtain⟨s3,e3⟩:∃s3:Shared,s3={ s2 with heap:=s2.heap.push { cls:=.type "list",dict:=none,data:=.seq ([]:List Value).toArray } }:=⟨_,rfl⟩;have h3:s3.heap=s2.heap.push { cls:=.type "list",dict:=none,data:=.seq ([]:List Value).toArray }:=by rw[e3]
 rw[<- h3] at hns₁ hsb₁ ⊢;have hD3:s3.heap.objs.size=D+1:=by rw[h3,Heap.size_push,hD]
 have I3:Inv X pins σ (upd H2 D (.lst [])) s3:=by
  rw[e3,<- hD];exact I2.lnew (t':=s2.toks) (ys:=[]) .nil (AV _)
 obtain⟨Xc,eX⟩:∃Xc,Xc=cxC X scope N' (clOf X.env.cells scope.names []) s3.heap.objs.size s3 (upd H2 D (.lst [])) fp:=⟨_,rfl⟩;have hg':PG Xc tg g:=by rw[eX]; exact hg _ _ _ _ _
 have ht':PTL Xc ifs tc:=by rw[eX]; exact ht _ _ _ _ _
 have he':PE Xc elt te:=by rw[eX]; exact he _ _ _ _ _
 have xP:Xc.prog=X.prog:=by rw[eX]; rfl
 have xw:Xc.w=X.w:=by rw[eX]; rfl
 have xK:Xc.K=X.K:=by rw[eX]; rfl
 have xA:Xc.A=X.A:=by rw[eX]; rfl
 have xc:Xc.calm=true:=by rw[eX]; exact hc
 have xe:Xc.env=compEnvC scope (clOf X.env.cells scope.names []) s3.heap.objs.size X.env:=by rw[eX]; rfl
 have xE:Xc.xe=fun _ _=>False:=by rw[eX]; rfl
 have hcin:∀x c,(clOf X.env.cells scope.names []).lookup x=some c->X.env.cells.lookup x=some c:=fun x c e=>ze8 hcl (fun p hp=>absurd hp (by simp)) e;have hfd:∀b∈fp,b≠D/\b<D:=fun b hb=>by
  obtain⟨ob,eb,_⟩:=T.obj 0 _ st2 b hb;have:=Ah eb;rw[hD] at this;exact⟨An this,this⟩
 have hfs:∀b∈frs X.stack,b<D:=fun b hb=>by
  obtain⟨_,ob,eb,_⟩:=I2.stack.mem hb;have:=Ah eb;rw[hD] at this;exact this
 have hold:∀b o,s3.heap.get? b=some o->h₁.get? b=some o:=fun b o e=>by
  have hb:b≠s3.heap.objs.size:=An (Ah e);exact (hsb₁.2 b hb).trans (Ad _ e)
 have hCf:(upd H2 D (.lst [])) s3.heap.objs.size=none:=I3.hok.fresh (Af _);have Ic:Inv Xc pins (zdC caps σ) (upd H2 D (.lst [])) { s3 with heap:=h₁ }:=by
  have okc:Xc.Ok:=by
   rw[eX];refine⟨I.ok.mod,hk,I.ok.glob,I.ok.blt,Af _,fun x y c a b=>I.ok.inj x y c (hcin x c a) (hcin y c b),fun x hx=>?_,(fun x c a=>absurd a Au),I.ok.hd,I.ok.frames,.inl rfl,fun b hb=>⟨?_,fun x c e=>?_⟩,fun b o e=>?_,?_,fun b o e z=>?_,fun b hb z=>?_,?_,fun b hb=>?_⟩
   ·have hx':(relabel scope X.env).names.lookup x=some .cell \/ (relabel scope X.env).names.lookup x=some .free:=hx
    have key:∃k',scope.names.lookup x=some k'/\(k'=.free \/ k'=.cell):=by
     rcases hx' with q | q
     ·obtain⟨k',e1,e2⟩:=zaE q
      rcases e2 with e2 | ⟨e2,_⟩
      ·exact⟨k',e1,.inr e2.symm⟩
      ·exact⟨k',e1,.inl e2⟩
     ·obtain⟨k',e1,e2⟩:=zaE q
      rcases e2 with e2 | ⟨e2,_⟩
      ·exact⟨k',e1,.inl e2.symm⟩
      ·exact⟨k',e1,.inl e2⟩
    obtain⟨k',e1,e2⟩:=key;have hm:=A3 e1;rcases e2 with rfl | rfl
    ·obtain⟨c,hc'⟩:=zbl (cells:=X.env.cells) (acc:=[]) (.inl hm)
     exact zJ hc'
    ·exact absurd rfl (hcell _ hm)
   ·show b≠s3.heap.objs.size
    exact An (by rw[hD3]; exact AL (hfd b hb).2)
   ·exact (f2 b hb).2.2.2.2.1 x c (hcin x c e)
   ·exact I3.bs b o e
   ·exact AF I.ok.bsz I3.sz
   ·obtain⟨f,_,_,fx,_,_⟩:=f2 b z
    rcases fx with fx | fx
    ·exact I.ok.noex b o e fx
    ·have:=AD (Ah e) I.ok.bsz
     omega
   ·rcases List.mem_cons.mp (I2.stkSub b z) with r | r
    ·exact (f2 b hb).2.1 r
    ·exact (f2 b hb).2.2.1 r
   ·exact I3.stack
   ·exact I3.stkFree b hb
  refine⟨okc,(by rw[eX]; rfl),I3.bare,?_,?_,fun x c e=>?_,?_,fun x c e=>?_,fun p hp=>?_,?_,?_⟩
  ·rw[eX]
   exact Un.kept hold
  ·rw[xe]
   refine⟨_,hns₁,fun i x v e1 e2 e3=>?_⟩;obtain⟨c1,c2⟩:=hcap;unfold zdC at e2;rw[Ap] at e2;cases e4:caps[i]? with
   | none=>rw[e4] at e2; cases e2
   | some cc=>
    rw[e4] at e2;cases cc with
    | none=>cases e2
    | some j=>
     obtain⟨y,d1,d2,d3⟩:=c2 i j e4;have e1':N'[i]?=some x:=by rw[eX] at e1; exact e1
     rw[d1] at e1';have exy:y=x:=Ao e1';subst exy;have e5:σ[j]?=some (some v):=by
      simp only[Option.map_some,Option.some.injEq] at e2;cases e6:σ[j]? with
      | none=>rw[e6] at e2; cases e2
      | some ov=>rw[e6] at e2; simp only[Option.getD_some] at e2; rw[e2]
     have hm:=A3 d3;have vis:Vis X.env.scope y:=by
      rcases hfr _ hm rfl with q | q
      ·exact .inr (.inl q)
      ·exact .inr (.inr q)
     obtain⟨m,_,hl⟩:=I3.loc;obtain⟨u,ru,lk⟩:=hl j y v d2 e5 vis;refine⟨u,ru,?_⟩;have lk2:∃c,X.env.cells.lookup y=some c/\s3.heap.IsCell c (some u):=by
      rcases lk with ⟨k1,_⟩ | ⟨_,c,k2,k3⟩
      ·rcases hfr _ hm rfl with q | q
       ·rw[k1] at q; cases q
       ·rw[k1] at q; cases q
      ·exact⟨c,k2,k3⟩
     obtain⟨c,k2,k3⟩:=lk2;obtain⟨d,hd'⟩:=zbl (cells:=X.env.cells) (acc:=[]) (.inl hm);obtain⟨d',hd2⟩:=zJ hd';have:c=d':=by
      have:=hcin y d' hd2;rw[k2] at this;exact Ao this
     subst this;refine .inr ⟨?_,c,hd2,k3.keeps hold⟩;have rl:=zaz (scope:=scope) (env:=X.env) (x:=y) (names:=scope.names) (.inl d3);rcases rl with q | q
     ·exact .inr q
     ·exact .inl q
  ·rw[xe] at e
   obtain⟨v,k3⟩:=I3.cell x c (hcin x c e);exact⟨v,k3.keeps hold⟩
  ·rw[xe]; exact hCf
  ·rw[xe] at e
   exact I3.freeC x c (hcin x c e)
  ·have hp':p∈X.pn++pins:=by rw[eX] at hp; exact hp
   obtain⟨a1,a2,a3,a4,a5⟩:=I3.pin p hp';refine⟨hold _ _ a1,a2,?_,?_,a5⟩
   ·rw[xe]
    show p.1≠s3.heap.objs.size;exact An (Ah a1)
   ·rw[eX]
    intro z;rcases List.mem_cons.mp (I3.stkSub p.1 z) with r | r
    ·exact a3 r
    ·exact a4 r
  ·rw[xP,xw]
   exact I3.hok.kept hold
  ·unfold zdC
   rw[Ab,hcap.1,eX]
   rfl
 have leave:∀{σ':St} {H':Hp} {s4:Shared} {h':Heap},Inv Xc pins σ' H' s4->A2 s3.heap.objs.size s4.heap h'->Inv X pins σ H' { s4 with heap:=h' }:=fun {σ' H' s4 h'} I4 hs'=>by
  have hlt:∀b o,s2.heap.get? b=some o->b≠D/\b≠s3.heap.objs.size:=fun b o e=>by
   have hb:=Ah e;rw[hD] at hb;exact⟨An hb,An (by rw[hD3]; exact AL hb)⟩
  have up3:∀b o,s2.heap.get? b=some o->s3.heap.get? b=some o:=fun b o e=>by rw[h3]; exact Ad _ e
  have base:Un (frs X.stack) fp (upd H2 D (.lst [])) H' s3.heap s4.heap:=by
   have:=I4.base;rw[eX] at this;exact this
  have hCn:H' s3.heap.objs.size=none:=by
   have:=I4.free;rw[xe] at this;exact this
  have os4:s4.os=s2.os:=by
   have:=I4.os;rw[eX] at this;rw[this];show s3.os=s2.os;rw[e3]
  refine I2.call' (s':={ s4 with heap:=h' }) (ch:=fp) os4 ⟨fun b o q n hb hx=>?_,fun b o q n hb hx=>?_,fun b o q n hx=>?_,fun b o q hx=>?_,fun b xs q=>?_,fun b o u q=>?_,fun b ps q=>?_⟩ ?_ I4.bare fun b hb=>?_
  ·obtain⟨n1,n2⟩:=hlt b o q
   exact (hs'.2 b n2).trans (base.keep b o (up3 b o q) (by rw[zk n1]; exact n) hb hx)
  ·obtain⟨n1,n2⟩:=hlt b o q
   obtain⟨sl,e⟩:=base.slot b o (up3 b o q) (by rw[zk n1]; exact n) hb hx;exact⟨sl,(hs'.2 b n2).trans e⟩
  ·obtain⟨n1,n2⟩:=hlt b o q
   exact base.free b o (up3 b o q) (by rw[zk n1]; exact n) hx
  ·obtain⟨n1,n2⟩:=hlt b o q
   obtain⟨o',e⟩:=base.there b o (up3 b o q) hx;exact⟨o',(hs'.2 b n2).trans e⟩
  ·exact base.tups b xs (by rw[zk (zg q hf2)]; exact q)
  ·exact base.frzs b o u (by rw[zk (zg q hf2)]; exact q)
  ·exact base.tbls b ps (by rw[zk (zg q hf2)]; exact q)
  ·intro b u e
   have hk4:=I4.hok b u e;rw[xP,xw] at hk4;refine hk4.stay (fun c v hc q=>(hs'.2 c ?_).trans q) (fun _ q=>q) fun _ _ q=>q;rintro rfl;rcases hc with z | z
   ·rw[<- z,hCn] at e; cases e
   ·rw[hCn] at z; cases z
  ·obtain⟨f0,f1,f3,f4,f5,f6⟩:=f2 b hb
   exact⟨f4,f1,f5,f6⟩
 have stat:∀{H':Hp},(∀b∈fp,H' b=none)->∀b∈fp,FpOk Xc pins H' b:=fun {H'} hn b hb=>by
  obtain⟨f0,f1,f3,f4,f5,f6⟩:=f2 b hb;refine⟨hn b hb,?_,?_,.inl (by rw[eX]; exact hb),fun x c e=>?_,fun p hp=>?_⟩
  ·rw[xe]
   show b≠s3.heap.objs.size;exact An (by rw[hD3]; exact AL (hfd b hb).2)
  ·rw[eX]
   intro z;rcases List.mem_cons.mp (I2.stkSub b z) with r | r
   ·exact f1 r
   ·exact f3 r
  ·rw[xe] at e
   exact f5 x c (hcin x c e)
  ·rw[eX] at hp
   exact f6 p hp
 subst eX;have loop:∀n s',(∃i σ' H',Inv (cxC X scope N' (clOf X.env.cells scope.names []) s3.heap.objs.size s3 (upd H2 D (.lst [])) fp) pins σ' H' s'/\tn i s'.heap/\(∀b∈fp,H' b=none)/\W i n σ' H')->
   codeAny (model X.prog X.w) X.A (.compLoop (.ListComp elt [⟨tg,iter,ifs,0⟩] scope pos) 0 (.ref it) (.ref D) (compEnvC scope (clOf X.env.cells scope.names []) s3.heap.objs.size X.env)) (compPost (model X.prog X.w) X.A X.xe use R (.ref D) s3.heap.objs.size) s':=by
  intro n0 s0' hI0;refine codeAny_loop rfl (fun n s'=>∃i σ' H',Inv (cxC X scope N' (clOf X.env.cells scope.names []) s3.heap.objs.size s3 (upd H2 D (.lst [])) fp) pins σ' H' s'/\tn i s'.heap/\(∀b∈fp,H' b=none)/\W i n σ' H') (fun n s' hI=>?_) n0 hI0;obtain⟨i,σ',H',I',st',fr',w'⟩:=hI;show wpAny _ X.A ((compTurn (.ListComp elt [⟨tg,iter,ifs,0⟩] scope pos) 0 (.ref it) (.ref D) (compEnvC scope (clOf X.env.cells scope.names []) s3.heap.objs.size X.env)).onRaise (fun x=>do noteFrame x (compEnvC scope (clOf X.env.cells scope.names []) s3.heap.objs.size X.env); theTreesLotGoes x)) _ _ s';refine wpAny_noted ?_;rw[compTurn_list];refine Aa (wpAny_standAt (Aa ?_));rcases turn i n σ' H' w' with ⟨stop,qn⟩ | ⟨go,step⟩
  ·refine thn (T.done (cxC X scope N' (clOf X.env.cells scope.names []) s3.heap.objs.size s3 (upd H2 D (.lst [])) fp) rfl rfl rfl hc i pins s' σ' H' _ I' (stat fr') st' stop) fun r s4 ⟨hr,I4⟩=>?_
   subst hr;refine Ac ?_;obtain⟨m,hn,_⟩:=id I4.loc;refine fin D _ H' s4 _ ⟨⟨m,hn⟩,I3.sz,fun e=>?_,fun x c e=>?_,fun p hp=>An (Ah (I3.pin p hp).1),I4.free,fun h' hs'=>leave I4 hs'⟩ qn
   ·obtain⟨m3,hn3,_⟩:=I3.loc
    obtain⟨o3,_,_,ho3,_⟩:=hn3;exact absurd e.symm (An (Ah ho3))
   ·obtain⟨v,hv⟩:=I3.cell x c e
    obtain⟨o3,ho3,_⟩:=hv;exact An (Ah ho3)
  ·refine thn (T.item (cxC X scope N' (clOf X.env.cells scope.names []) s3.heap.objs.size s3 (upd H2 D (.lst [])) fp) rfl rfl rfl hc i pins s' σ' H' _ I' (stat fr') st' go) fun r s4 ⟨u,hr,h4⟩=>?_
   subst hr;refine Aa (thn h4 fun _ s5 ⟨x,H5,I5,r5,y5,st5,fr5⟩=>?_);have I5':=I5.pinned (stat fr5) (T.obj _ _ st5);refine Aa (Ba (hg' _ s5 σ' H5 x u _ I5' r5 (step x H5 y5)) (fun _ s6 h6=>?_) fun _ _ z=>z.elim);obtain⟨σ6,H6,I6,q6⟩:=h6;refine Aa (Ba (ht' _ s6 σ6 H6 _ I6 q6) (fun ok s7 h7=>?_) fun _ _ z=>z.elim);obtain⟨H7,I7,q7⟩:=h7;have again:∀{σ8:St} {H8:Hp} {s8:Shared} {m':Nat},Inv (cxC X scope N' (clOf X.env.cells scope.names []) s3.heap.objs.size s3 (upd H2 D (.lst [])) fp) (pins++zc5 fp s5.heap) σ8 H8 s8->m'<n->W (i+1) m' σ8 H8->
     ∃m,m<n/\∃i σ' H',Inv (cxC X scope N' (clOf X.env.cells scope.names []) s3.heap.objs.size s3 (upd H2 D (.lst [])) fp) pins σ' H' s8/\tn i s8.heap/\(∀b∈fp,H' b=none)/\W i m σ' H':=fun {σ8 H8 s8 m'} I8 hm w8=>by
    refine⟨m',hm,i+1,σ8,H8,I8.unpinned,T.keep _ _ _ st5 fun b hb o e=>(I8.pin (b,o) (AT _ (AT _ (zav hb e)))).1,fun b hb=>?_,w8⟩;obtain⟨o,e,d⟩:=T.obj _ _ st5 b hb;exact (I8.pin (b,o) (AT _ (AT _ (zav hb e)))).2.1
   cases ok with
   | false=>
    obtain⟨m',hm,w7⟩:=q7;exact Ac ⟨rfl,again I7 hm w7⟩
   | true=>
    refine Aa (Aa (Ba (he' _ s7 σ6 H7 _ I7 q7) (fun v s8 h8=>?_) fun _ _ z=>z.elim));obtain⟨y,H8,I8,r8,ys,m',hD8,hl8,hm8,w8⟩:=h8;refine Aa (Ba (zax (X:=cxC X scope N' (clOf X.env.cells scope.names []) s3.heap.objs.size s3 (upd H2 D (.lst [])) fp) _ s8 σ6 H8 (.ref D) [y] (.ref D) [v] (fun _ H9=>H9=upd H8 D (.lst (ys++[y]))) I8 rfl (.cons r8 .nil) ⟨D,ys,y,rfl,rfl,hD8,hl8,rfl⟩) (fun _ s9 h9=>?_) fun _ _ z=>z.elim);obtain⟨_,H9,I9,_,e9⟩:=h9;subst e9;exact Ac (Ac ⟨rfl,again I9 hm8 w8⟩)
 have start:∃i σ' H',Inv (cxC X scope N' (clOf X.env.cells scope.names []) s3.heap.objs.size s3 (upd H2 D (.lst [])) fp) pins σ' H' { s3 with heap:=h₁ }/\tn i ({ s3 with heap:=h₁ }:Shared).heap/\(∀b∈fp,H' b=none)/\W i m0 σ' H':=by
  refine⟨0,zdC caps σ,upd H2 D (.lst []),Ic,T.keep 0 _ _ st2 fun b hb o e=>hold b o (by rw[h3]; exact Ad _ e),fun b hb=>?_,w0⟩;rw[zk (hfd b hb).1];exact (f2 b hb).1
 have es:({ s2 with heap:=h₁,toks:=s2.toks+([]:List (Str×Value)).length }:Shared)={ s3 with heap:=h₁ }:=by rw[e3]; rfl
 show codeAny (model X.prog X.w) X.A _ _ ({ s2 with heap:=h₁,toks:=s2.toks+([]:List (Str×Value)).length }:Shared);rw[es];refine codeAny_compStart_list (loop m0 _ start) (T.self _ 0 _ _ _ ?_ (loop m0 _ start));exact T.keep 0 _ _ st2 fun b hb o e=>hold b o (by rw[h3]; exact Ad _ e)
theorem zkQ (hc:X.calm=true) (hk:scope.kind=.function) (hcell:∀y∈scope.names,y.2≠.cell) (hnames:∀y∈scope.names,y.2=.local->scope.names.lookup y.1=some .local)
  (hfr:∀y∈scope.names,y.2=.free->X.env.kindOf y.1=some .cell \/ X.env.kindOf y.1=some .free) (hcap:zgS X.N N' caps scope)
  (hi:PI X tg iter wi) (hg:∀cl C s₀ H₀ ex,PG (cxC X scope N' cl C s₀ H₀ ex) tg g) (ht:∀cl C s₀ H₀ ex,PTL (cxC X scope N' cl C s₀ H₀ ex) ifs tc) (he:∀cl C s₀ H₀ ex,PE (cxC X scope N' cl C s₀ H₀ ex) elt te)
  (hs:∀x,foldedSetIterable iter X.env x=pure x:=by intro _; rfl):PE X (.ListComp elt [⟨tg,iter,ifs,0⟩] scope pos) (tLC wi caps g tc te):=by
 intro pins s σ H Q I h;rw[eval_ListComp];refine zeg (use:=none) hc hk hcell hnames hfr hcap hi hg ht he hs I h fun D C H' s4 f L q=>?_;obtain⟨m,hn⟩:=L.ns;exact⟨m,hn,fun h' hs'=>⟨.ref D,H',L.back h' hs',rfl,q⟩⟩
end
end L2
end
section
namespace Zp
open PySem PySem.Spec PyProof.Rows
section
variable {prog:Program}{w:World}{A:Around}{E:Value->Shared->Prop}{s:Shared}
theorem zjn {it t:Addr}{i:Nat}{items:Array Value}{x:Value}{Q:Value->Shared->Prop} (hit:s.heap.IsTupleIter it t i) (ht:s.heap.IsTuple t items) (hx:items[i]?=some x)
  (hQ:∀h',h'.IsTupleIter it t (i+1)->A2 it s.heap h'->Q x { s with heap:=h' }):wpAny (model prog w) A (Builtin.SmallTypes.nextOf (.ref it)) Q E s:=by
 obtain⟨o,ho,hc,hd⟩:=id hit;obtain⟨ol,hol,_,nl,hdl⟩:=ht;unfold Builtin.SmallTypes.nextOf;refine Aa (AX (name:=Str.ofString "__next__") hit.typeIs F.slot_tuple_iterator_next (AR F.slot_tuple_iterator_next hit.typeIs F.entry_tuple_iterator_next ?_ (F.args_tuple_iterator_next_1 _)));show wpAny _ _ (field (.ref it) 0 >>= _) _ _ s;refine Aa (AU ho hd (x:=.ref t) rfl ?_);show wpAny _ _ (if (Value.ref t == Value.none)=true then _ else _) _ _ s;rw[if_neg (show ¬ ((Value.ref t == Value.none)=true) from Au)];show wpAny _ _ (field (.ref it) 1 >>= _) _ _ s;refine Aa (AU ho hd (x:=.int i 0) rfl ?_);show wpAny _ _ (seqItems? (.ref t) >>= _) _ _ s;refine Aa (wpAny_seqItems hol hdl ?_);simp only[Int.toNat_natCast,hx];refine Aa (wpAny_setField ho hd (by simp) (Ac ⟨x,rfl,Ac (hQ _ ?_ (AZ ..))⟩));exact⟨_,Heap.get?_update_self _ ho (Obj.isFreed_of_fields (A8 hd _)),(Obj.cls_mapFields ..).trans hc,by
  rw[A8 hd]; simp[rawInt]⟩
theorem zkR {it t:Addr}{i:Nat}{items:Array Value}{Q:Value->Shared->Prop} (hh:A.handled=none) (hit:s.heap.IsTupleIter it t i) (ht:s.heap.IsTuple t items) (hx:items[i]?=none)
  (hE:∀h' e,Heap.ExtBut it s.heap h'->(∃o,h'.get? e=some o/\o.cls=.type "StopIteration")->E (.ref e) { s with heap:=h' }):wpAny (model prog w) A (Builtin.SmallTypes.nextOf (.ref it)) Q E s:=by
 obtain⟨o,ho,hc,hd⟩:=id hit;obtain⟨ol,hol,_,nl,hdl⟩:=ht;unfold Builtin.SmallTypes.nextOf;refine Aa (AX (name:=Str.ofString "__next__") hit.typeIs F.slot_tuple_iterator_next (AR F.slot_tuple_iterator_next hit.typeIs F.entry_tuple_iterator_next ?_ (F.args_tuple_iterator_next_1 _)));show wpAny _ _ (field (.ref it) 0 >>= _) _ _ s;refine Aa (AU ho hd (x:=.ref t) rfl ?_);show wpAny _ _ (if (Value.ref t == Value.none)=true then _ else _) _ _ s;rw[if_neg (show ¬ ((Value.ref t == Value.none)=true) from Au)];show wpAny _ _ (field (.ref it) 1 >>= _) _ _ s;refine Aa (AU ho hd (x:=.int i 0) rfl ?_);show wpAny _ _ (seqItems? (.ref t) >>= _) _ _ s;refine Aa (wpAny_seqItems hol hdl ?_);simp only[Int.toNat_natCast,hx];refine Aa (wpAny_rule (Aa (wpAny_setField ho hd (by simp) ?_)));show wpAny _ _ (newExc (.type "StopIteration") [] >>= _) _ _ _;refine Aa ?_;simp only[newExc,newTuple];refine Aa (AO ?_ (by size_fits));refine Aa (m:=firstArgMember _ _) (wpAny_of_eq (a:=Value.none) (by first | rfl | (simp only[firstArgMember]; rfl)) ?_);refine AO ?_ (by size_fits);simp only[raiseNew];refine Aa (wpAny_handled ?_)
 first | rw[show A.in1.handled=none from hh] | rw[hh]
 refine Aa (Ac (wpAny_throw ?_));exact hE _ _ (((AZ ..).extBut.push _).push _) ⟨_,Al _ rfl,rfl⟩
end
theorem ziK {h h':Heap}{a:Addr}{items:Array Value} (x:h.IsTuple a items) (e:∀o,h.get? a=some o->h'.get? a=some o):h'.IsTuple a items:=let ⟨o,ho,r⟩:=x; ⟨o,e o ho,r⟩
theorem zd0 {prog:Program}{w:World}{A:Around} (hh:A.handled=none) (it t:Addr) (hne:t≠it) (items:Array Value) :
  Draws prog w A it [it,t] items.size (fun i v=>items[i]?=some v) (fun i h=>h.IsTupleIter it t i/\h.IsTuple t items) where
 live:=fun _ _ st=>let ⟨o,ho,_⟩:=st.1; ⟨o,ho⟩
 frame:=fun _ _ _ st hk=>⟨st.1.at fun o e=>hk it (by simp) o e,ziK st.2 fun o e=>hk t (by simp) o e⟩
 item:=fun i s Q E hi st hQ=>by
  refine zjn st.1 st.2 (x:=items[i]) (by simp[hi]) fun h' hit' hs'=>?_;exact hQ _ h' s.toks (by simp[hi]) ⟨hit',st.2.extBut hs'.extBut hne⟩ hs'
 done:=fun s Q E st hE=>zkR hh st.1 st.2 (by simp) hE
structure Apart (z TI TO i1 i2:Addr) (fp1 fp2:List Addr):Prop where
 z1:z∉fp1
 z2:z∉fp2
 o1:TO∉fp1
 o2:TO∉fp2
 m1:i1∈fp1
 m2:i2∈fp2
 x12:i1∉fp2
 x21:i2∉fp1
 TIz:TI≠z
 TOz:TO≠z
 TITO:TI≠TO
 TIi1:TI≠i1
 TIi2:TI≠i2
section
variable {prog:Program}{w:World}{A:Around}{E:Value->Shared->Prop}{s:Shared}{z TI TO i1 i2:Addr}{fp1 fp2:List Addr}{n1 n2 i:Nat}{P1 P2:Nat->Value->Prop}{S1 S2:Nat->Heap->Prop}{a b:Value}
theorem zje {Q:Value->Shared->Prop} (D1:Draws prog w A i1 fp1 n1 P1 S1) (D2:Draws prog w A i2 fp2 n2 P2 S2) (D:Apart z TI TO i1 i2 fp1 fp2)
  (hz:IsZip s.heap z TI TO .none) (hTI:IsPair s.heap TI (.ref i1) (.ref i2)) (hTO:IsPair s.heap TO a b) (h1:S1 i s.heap) (h2:S2 i s.heap) (l1:i<n1) (l2:i<n2)
  (hQ:∀x y h' tk,P1 i x->P2 i y->IsZip h' z TI TO (rawInt s.heap.objs.size)->IsPair h' TO x y->S1 (i+1) h'->S2 (i+1) h'->IsPair h' s.heap.objs.size x y->h'.objs.size=s.heap.objs.size+1->
   (∀c o,c≠z->c≠TO->c≠i1->c≠i2->s.heap.get? c=some o->h'.get? c=some o)->Q (.ref s.heap.objs.size) { s with heap:=h',toks:=tk }) :
  wpAny (model prog w) A (Builtin.«zip.__next__» ⟨[.ref z],[]⟩) (fun fin s'=>∃v,fin=.done (.ret v)/\Q v s') E s:=by
 have ne1:∀c∈fp1,c≠z:=fun c hc e=>D.z1 (e ▸ hc);have ne2:∀c∈fp2,c≠z:=fun c hc e=>D.z2 (e ▸ hc);have no1:∀c∈fp1,c≠TO:=fun c hc e=>D.o1 (e ▸ hc);have no2:∀c∈fp2,c≠TO:=fun c hc e=>D.o2 (e ▸ hc);have n12:∀c∈fp2,c≠i1:=fun c hc e=>D.x12 (e ▸ hc);have n21:∀c∈fp1,c≠i2:=fun c hc e=>D.x21 (e ▸ hc);have i1z:i1≠z:=ne1 _ D.m1;have i2z:i2≠z:=ne2 _ D.m2;have TOi1:TO≠i1:=(no1 _ D.m1).symm;have TOi2:TO≠i2:=(no2 _ D.m2).symm;show wpAny _ _ (field (.ref z) 2 >>= _) _ _ _;refine Aa (AU hz rfl (x:=.bool false) rfl ?_);show wpAny _ _ (field (.ref z) 3 >>= _) _ _ _;refine Aa (AU hz rfl (x:=.ref TI) rfl ?_);refine Aa (wpAny_seqItems hTI rfl ?_);show wpAny _ _ (Builtin.SmallTypes.ownedTupleIsFree (.ref z) >>= _) _ _ _;refine Aa ?_;unfold Builtin.SmallTypes.ownedTupleIsFree;refine Aa (AU hz rfl (x:=.none) rfl (Ac ?_));simp only[if_true];refine Aa (wpAny_rule ?_);refine Aa (AU hz rfl (x:=.ref TO) rfl ?_);refine Aa (wpAny_setField_rec hz (by simp) fun g1 hz1 k1=>?_);replace hz1:IsZip g1 z TI TO .ellipsis:=hz1;refine Aa ?_;simp only[List.zipIdx_cons,List.zipIdx_nil,List.forIn_cons,List.forIn_nil];refine Aa (Aa (wpAny_onRaise ?_));show wpAny _ _ (Builtin.SmallTypes.nextOf (.ref i1) >>= _) _ _ _;refine Aa (D1.item i _ _ _ l1 (D1.frame _ _ _ h1 fun c hc o e=>k1.extBut c o (ne1 c hc) e) fun x g2 tk2 px s2 k2=>Ac ?_);have t2:IsPair g2 TO a b:=k2.extBut _ _ TOi1 (k1.extBut _ _ D.TOz hTO);refine Aa (wpAny_seqItems t2 rfl ?_);refine Aa (wpAny_updateSeq_pair t2 fun g3 t3 k3=>?_);replace t3:IsPair g3 TO x b:=t3;refine Aa (wpAny_letGo (Ac ?_));refine Aa (Aa (wpAny_onRaise ?_));show wpAny _ _ (Builtin.SmallTypes.nextOf (.ref i2) >>= _) _ _ _;refine Aa (D2.item i _ _ _ l2 (D2.frame _ _ _ h2 fun c hc o e=>k3.extBut c o (no2 c hc) (k2.extBut c o (n12 c hc) (k1.extBut c o (ne2 c hc) e))) fun y g4 tk4 py s4 k4=>Ac ?_);have t4:IsPair g4 TO x b:=k4.extBut _ _ TOi2 t3;refine Aa (wpAny_seqItems t4 rfl ?_);refine Aa (wpAny_updateSeq_pair t4 fun g5 t5 k5=>?_);replace t5:IsPair g5 TO x y:=t5;refine Aa (wpAny_letGo (Ac (Ac ?_)));refine Aa (wpAny_seqItems t5 rfl ?_);refine Aa (wpAny_newTuple ?_);have hsz:g5.objs.size=s.heap.objs.size:=by rw[k5.1,k4.1,k3.1,k2.1,k1.1]
 have z5:IsZip g5 z TI TO .ellipsis:=k5.extBut _ _ D.TOz.symm (k4.extBut _ _ i2z.symm (k3.extBut _ _ D.TOz.symm (k2.extBut _ _ i1z.symm hz1)));have kk:∀c o,c≠z->c≠TO->c≠i1->c≠i2->s.heap.get? c=some o->g5.get? c=some o:=fun c o c1 c2 c3 c4 e=>
  k5.extBut _ _ c2 (k4.extBut _ _ c4 (k3.extBut _ _ c2 (k2.extBut _ _ c3 (k1.extBut _ _ c1 e))))
 have d1:S1 (i+1) g5:=D1.frame _ _ _ s2 fun c hc o e=>k5.extBut c o (no1 c hc) (k4.extBut c o (n21 c hc) (k3.extBut c o (no1 c hc) e));have d2:S2 (i+1) g5:=D2.frame _ _ _ s4 fun c hc o e=>k5.extBut c o (no2 c hc) e;have zlt:z<g5.objs.size:=Ah z5;have e1:∀c∈fp1,∀o,g5.get? c=some o->c<g5.objs.size:=fun c _ o e=>Ah e;show wpAny _ _ (Builtin.SmallTypes.ownedTupleHandOut (.ref z) (.ref g5.objs.size) >>= _) _ _ _;refine Aa ?_;unfold Builtin.SmallTypes.ownedTupleHandOut;have z6:IsZip (g5.push { cls:=.type "tuple",data:=.seq #[x,y] }) z TI TO .ellipsis:=Ad _ z5;refine Aa (wpAny_setField_rec z6 (by simp) fun g7 z7 k7=>?_);replace z7:IsZip g7 z TI TO (rawInt g5.objs.size):=z7;refine wpAny_setField_rec z7 (by simp) fun g8 z8 k8=>?_;replace z8:IsZip g8 z TI TO (rawInt g5.objs.size):=z8;have up:∀c o,c≠z->g5.get? c=some o->g8.get? c=some o:=fun c o c1 e=>k8.extBut _ _ c1 (k7.extBut _ _ c1 (Ad _ e));have T8:IsPair g8 g5.objs.size x y:=k8.extBut _ _ (Nat.ne_of_gt zlt) (k7.extBut _ _ (Nat.ne_of_gt zlt) (Al _ rfl));have sz8:g8.objs.size=g5.objs.size+1:=by rw[k8.1,k7.1,Heap.size_push]
 rw[hsz] at z8 T8 sz8;refine Ac ⟨_,rfl,?_⟩;show Q (.ref g5.objs.size) _;rw[hsz];exact hQ x y g8 _ px py z8 (up _ _ D.TOz t5) (D1.frame _ _ _ d1 fun c hc o e=>up c o (ne1 c hc) e) (D2.frame _ _ _ d2 fun c hc o e=>up c o (ne2 c hc) e) T8 sz8 fun c o c1 c2 c3 c4 e=>up c o c1 (kk c o c1 c2 c3 c4 e)
theorem zk4 {Q:Fin->Shared->Prop} (D1:Draws prog w A i1 fp1 n1 P1 S1) (D2:Draws prog w A i2 fp2 n2 P2 S2) (D:Apart z TI TO i1 i2 fp1 fp2)
  (hz:IsZip s.heap z TI TO .none) (hTI:IsPair s.heap TI (.ref i1) (.ref i2)) (hTO:IsPair s.heap TO a b) (h1:S1 i s.heap) (h2:S2 i s.heap) (hend:i=n1 \/ (i<n1/\i=n2))
  (hE:∀h' e tk,(∀c o,c≠z->c≠TO->c≠i1->c≠i2->s.heap.get? c=some o->h'.get? c=some o)->(∃o,h'.get? e=some o/\o.cls=.type "StopIteration")->E (.ref e) { s with heap:=h',toks:=tk }) :
  wpAny (model prog w) A (Builtin.«zip.__next__» ⟨[.ref z],[]⟩) Q E s:=by
 have ne1:∀c∈fp1,c≠z:=fun c hc e=>D.z1 (e ▸ hc);have ne2:∀c∈fp2,c≠z:=fun c hc e=>D.z2 (e ▸ hc);have no1:∀c∈fp1,c≠TO:=fun c hc e=>D.o1 (e ▸ hc);have no2:∀c∈fp2,c≠TO:=fun c hc e=>D.o2 (e ▸ hc);have n12:∀c∈fp2,c≠i1:=fun c hc e=>D.x12 (e ▸ hc);have i1z:i1≠z:=ne1 _ D.m1;have i2z:i2≠z:=ne2 _ D.m2;have TOi1:TO≠i1:=(no1 _ D.m1).symm;show wpAny _ _ (field (.ref z) 2 >>= _) _ _ _;refine Aa (AU hz rfl (x:=.bool false) rfl ?_);show wpAny _ _ (field (.ref z) 3 >>= _) _ _ _;refine Aa (AU hz rfl (x:=.ref TI) rfl ?_);refine Aa (wpAny_seqItems hTI rfl ?_);show wpAny _ _ (Builtin.SmallTypes.ownedTupleIsFree (.ref z) >>= _) _ _ _;refine Aa ?_;unfold Builtin.SmallTypes.ownedTupleIsFree;refine Aa (AU hz rfl (x:=.none) rfl (Ac ?_));simp only[if_true];refine Aa (wpAny_rule ?_);refine Aa (AU hz rfl (x:=.ref TO) rfl ?_);refine Aa (wpAny_setField_rec hz (by simp) fun g1 hz1 k1=>?_);replace hz1:IsZip g1 z TI TO .ellipsis:=hz1;refine Aa ?_;simp only[List.zipIdx_cons,List.zipIdx_nil,List.forIn_cons,List.forIn_nil];refine Aa (Aa (wpAny_onRaise ?_));have f1:=D1.frame _ _ _ h1 fun c hc o e=>k1.extBut c o (ne1 c hc) e;rcases hend with e0 | ⟨l1,e0⟩
 ·show wpAny _ _ (Builtin.SmallTypes.nextOf (.ref i1) >>= _) _ _ _
  refine Aa (D1.done _ _ _ (e0 ▸ f1) fun g2 e k2 he=>?_);obtain⟨oe,hoe,hce⟩:=he;have z2:IsZip g2 z TI TO .ellipsis:=k2 _ _ i1z.symm hz1;have ez:e≠z:=fun x=>by subst x; rw[z2] at hoe; cases hoe; simp at hce
  refine wpAny_setField_rec z2 (by simp) fun g3 _ k3=>hE g3 e _ (fun c o c1 _ c3 _ x=>k3.extBut _ _ c1 (k2 _ _ c3 (k1.extBut _ _ c1 x))) ⟨oe,k3.extBut _ _ ez hoe,hce⟩
 ·show wpAny _ _ (Builtin.SmallTypes.nextOf (.ref i1) >>= _) _ _ _
  refine Aa (D1.item i _ _ _ l1 f1 fun x g2 tk2 px s2 k2=>Ac ?_);have t2:IsPair g2 TO a b:=k2.extBut _ _ TOi1 (k1.extBut _ _ D.TOz hTO);refine Aa (wpAny_seqItems t2 rfl ?_);refine Aa (wpAny_updateSeq_pair t2 fun g3 t3 k3=>?_);refine Aa (wpAny_letGo (Ac ?_));refine Aa (Aa (wpAny_onRaise ?_));have f2:S2 i g3:=D2.frame _ _ _ h2 fun c hc o e=>k3.extBut c o (no2 c hc) (k2.extBut c o (n12 c hc) (k1.extBut c o (ne2 c hc) e));show wpAny _ _ (Builtin.SmallTypes.nextOf (.ref i2) >>= _) _ _ _;refine Aa (D2.done _ _ _ (e0 ▸ f2) fun g4 e k4 he=>?_);obtain⟨oe,hoe,hce⟩:=he;have z4:IsZip g4 z TI TO .ellipsis:=k4 _ _ i2z.symm (k3.extBut _ _ D.TOz.symm (k2.extBut _ _ i1z.symm hz1));have ez:e≠z:=fun x=>by subst x; rw[z4] at hoe; cases hoe; simp at hce
  refine wpAny_setField_rec z4 (by simp) fun g5 _ k5=>hE g5 e _ (fun c o c1 c2 c3 c4 x=>k5.extBut _ _ c1 (k4 _ _ c4 (k3.extBut _ _ c2 (k2.extBut _ _ c3 (k1.extBut _ _ c1 x))))) ⟨oe,k5.extBut _ _ ez hoe,hce⟩
end
theorem zhS {prog:Program}{w:World}{A:Around}{z TI TO i1 i2:Addr}{fp1 fp2:List Addr}{n1 n2:Nat}{P1 P2:Nat->Value->Prop}{S1 S2:Nat->Heap->Prop}
  (D1:Draws prog w A.in1 i1 fp1 n1 P1 S1) (D2:Draws prog w A.in1 i2 fp2 n2 P2 S2) (D:Apart z TI TO i1 i2 fp1 fp2) :
  WalksT prog w A z (z::TI::TO::(fp1++fp2)) [z,TO,i1,i2] (min n1 n2) (fun i vals=>∃x y,P1 i x/\P2 i y/\vals=#[x,y])
   (fun i h=>IsZip h z TI TO .none/\IsPair h TI (.ref i1) (.ref i2)/\(∃a b,IsPair h TO a b)/\S1 i h/\S2 i h)
   (fun i T h=>IsZip h z TI TO (rawInt T)/\IsPair h TI (.ref i1) (.ref i2)/\(∃a b,IsPair h TO a b)/\S1 (i+1) h/\S2 (i+1) h/\T≠z/\T≠TO/\T≠i1/\T≠i2) where
 sub:=fun c hc=>by
  simp at hc ⊢;rcases hc with rfl | rfl | rfl | rfl
  ·simp
  ·simp
  ·exact .inr (.inr (.inr (.inl D.m1)))
  ·exact .inr (.inr (.inr (.inr D.m2)))
 frame:=fun i h h' hst hk=>by
  obtain⟨hz,hTI,⟨a,b,hTO⟩,h1,h2⟩:=hst;exact⟨hk z (by simp) _ hz,hk TI (by simp) _ hTI,⟨a,b,hk TO (by simp) _ hTO⟩,D1.frame _ _ _ h1 fun c hc o e=>hk c (by simp[hc]) o e,D2.frame _ _ _ h2 fun c hc o e=>hk c (by simp[hc]) o e⟩
 item:=fun i s Q E hi hst hQ=>by
  obtain⟨hz,hTI,⟨a,b,hTO⟩,h1,h2⟩:=hst;have hT:s.TypeIs (.ref z) "zip":=⟨_,hz,rfl⟩;unfold pyNext;refine Aa (wpAny_attempt (AX (name:=Str.ofString "__next__") hT F.slot_zip_next (AR F.slot_zip_next hT F.entry_zip_next
   (zje D1 D2 D hz hTI hTO h1 h2 (AD hi (Nat.min_le_left ..)) (AD hi (Nat.min_le_right ..)) fun x y h' tk px py a1 a2 a3 a4 a5 a6 hk=>Ac ?_) (F.args_zip_next_1 _))))
  have lt:∀{c o},s.heap.get? c=some o->s.heap.objs.size≠c:=fun e=>Nat.ne_of_gt (Ah e);obtain⟨o1,l1⟩:=D1.live _ _ h1;obtain⟨o2,l2⟩:=D2.live _ _ h2;exact hQ s.heap.objs.size #[x,y] h' tk ⟨_,_,px,py,rfl⟩ (Af _) ⟨_,a5,rfl,_,rfl⟩ ⟨a1,hk _ _ D.TIz D.TITO D.TIi1 D.TIi2 hTI,⟨_,_,a2⟩,a3,a4,lt hz,lt hTO,lt l1,lt l2⟩
   fun c o hc e=>hk c o (fun x=>hc (by simp[x])) (fun x=>hc (by simp[x])) (fun x=>hc (by simp[x])) (fun x=>hc (by simp[x])) e
 go:=fun elts k pos i T s Q E hm hQ=>by
  obtain⟨hz,hTI,⟨a,b,hTO⟩,h1,h2,_⟩:=hm;refine wpAny_letOwnedTupleGo_zip hz fun h' hz' hs'=>hQ h' ⟨hz',hs'.extBut _ _ D.TIz hTI,⟨a,b,hs'.extBut _ _ D.TOz hTO⟩,
   D1.frame _ _ _ h1 fun c hc o e=>hs'.extBut c o (fun q=>D.z1 (q ▸ hc)) e,D2.frame _ _ _ h2 fun c hc o e=>hs'.extBut c o (fun q=>D.z2 (q ▸ hc)) e⟩ fun c o hc e=>hs'.extBut _ _ (fun x=>hc (by simp[x])) e
 apart:=fun i T h hm hT=>by
  obtain⟨_,_,_,_,_,t1,t2,t3,t4⟩:=hm;simp at hT;rcases hT with rfl | rfl | rfl | rfl
  ·exact t1 rfl
  ·exact t2 rfl
  ·exact t3 rfl
  ·exact t4 rfl
 done:=fun s Q E hst hQ=>by
  obtain⟨hz,hTI,⟨a,b,hTO⟩,h1,h2⟩:=hst;have hT:s.TypeIs (.ref z) "zip":=⟨_,hz,rfl⟩;have hend:min n1 n2=n1 \/ (min n1 n2<n1/\min n1 n2=n2):=by omega
  unfold pyNext;refine Aa (wpAny_attempt (AX (name:=Str.ofString "__next__") hT F.slot_zip_next
   (AR F.slot_zip_next hT F.entry_zip_next (zk4 D1 D2 D hz hTI hTO h1 h2 hend fun h' e tk hk he=>?_) (F.args_zip_next_1 _))))
  obtain⟨o,ho,hc⟩:=he;refine Aa (wpAny_isInstance (T:="StopIteration") (b:=true) ⟨o,ho,hc⟩ isSubtype_stop ?_);exact Ac (hQ _ tk fun c o hc e=>hk c o (fun x=>hc (by simp[x])) (fun x=>hc (by simp[x])) (fun x=>hc (by simp[x])) (fun x=>hc (by simp[x])) e)
 self:=fun i s Q E hst hQ=>wpAny_pyIter_zip hst.1 hQ
end Zp
end
section
namespace L2
open PySem PySem.Spec PyProof.Rows
section
variable {X:Cx}{pins:List (Addr×Obj)}{σ:St}{H:Hp}{s:Shared}{h':Heap}
theorem Inv.turneds {t':Nat}{ch:List Addr} (I:Inv X pins σ H s) (hf:∀b∈ch,FpOk X pins H b) (k:∀b o,b∉ch->s.heap.get? b=some o->h'.get? b=some o):Inv X pins σ H { s with heap:=h',toks:=t' }:=by
 have nit:∀b u,H b=some u->b∉ch:=fun b u e z=>by have:=(hf b z).1; rw[this] at e; cases e
 refine I.step (g':=s.gens) (d':=s.drawn) (ch:=ch) (fun b hb=>?_) (fun b o _ _ hc e _=>k b o hc e) (fun b o _ _ hc e _=>⟨o.slots,k b o hc e⟩) (fun _ _ _ _ n=>n)
  (fun b o hc e=>⟨o,k b o hc e⟩) (fun _ _ e=>e) (fun _ _ _ e=>e) (fun b ps e=>⟨#[],by rw[e]; simp⟩) (fun m hm=>?_) (fun b u e=>?_) I.bare
 ·obtain⟨f0,f1,f2,f3,f4,f5⟩:=hf b hb
  exact⟨f3,f1,f4,f5⟩
 ·obtain⟨o,es,ep,ho,r⟩:=hm
  exact⟨o,es,ep,k _ o (fun z=>(hf _ z).2.1 rfl) ho,r⟩
 ·refine (I.hok b u e).stay (fun c v hc q=>k c v ?_ q) (fun _ q=>q) fun _ _ q=>q
  rcases hc with z | z
  ·rw[z]; exact nit b u e
  ·exact nit c _ z
theorem Inv.adopt {a:Addr}{o:HO} (I:Inv X pins σ H s) (hn:H a=none) (h1:X.s₀.heap.objs.size<=a) (h2:a≠X.env.locals) (h3:∀x c,X.env.cells.lookup x=some c->c≠a) (h4:∀p∈X.pn++pins,p.1≠a)
  (new:zF X.prog X.w (upd H a o) s.heap a o):Inv X pins σ (upd H a o) s:=by
 refine I.step (h':=s.heap) (g':=s.gens) (t':=s.toks) (d':=s.drawn) (ch:=[a]) (fun b hb=>?_) (fun b o _ _ hc e _=>e) (fun b o _ _ hc e _=>⟨o.slots,e⟩) (fun b o hc e n=>?_)
  (fun b o hc e=>⟨o,e⟩) (fun b xs e=>?_) (fun b o u e=>?_) (fun b ps e=>⟨#[],?_⟩) (fun m hm=>hm) (fun b u e=>?_) I.bare
 ·have e:b=a:=by simpa using hb
  subst e;exact⟨.inr h1,h2,h3,h4⟩
 ·rw[zk (fun z=>hc (by simp[z]))]; exact n
 ·rw[zk (zg e hn)]; exact e
 ·rw[zk (zg e hn)]; exact e
 ·rw[zk (zg e hn),e]; simp
 ·by_cases hb:b=a
  ·subst hb; rw[upd_same] at e; cases e; exact new
  ·rw[zk hb] at e
   exact (I.hok b u e).stay (fun _ _ _ q=>q) (fun c q=>by rw[zk (zg q hn)]; exact q) fun c xs q=>by rw[zk (zg q hn)]; exact q
theorem Inv.grown {t':Nat}{ch:List Addr}{a:Addr}{o:HO} (I:Inv X pins σ H s) (hf:∀b∈ch,FpOk X pins H b) (k:∀b o,b∉ch->s.heap.get? b=some o->h'.get? b=some o) (hp:s.heap.objs.size<=a)
  (new:zF X.prog X.w (upd H a o) h' a o):Inv X pins σ (upd H a o) { s with heap:=h',toks:=t' }:=by
 have I1:Inv X pins σ H { s with heap:=h',toks:=t' }:=I.turneds hf k;obtain⟨f0,f1,f2,f3,f4,f5⟩:=I.fpOk hp (I.hok.fresh hp);exact I1.adopt f0 (AF I.sz hp) f1 f4 f5 new
theorem zkK {b t:Addr}{o:Obj} (I:Inv X pins σ H s) (f:FpOk X pins H b) (hk:X.K.lookup t=some o):t≠b:=by
 intro z;subst z;have e:=I.ok.mod.kin t o hk;rcases f.2.2.2.1 with q | q
 ·exact I.ok.noex t o e q
 ·exact absurd (AD (Ah (I.ok.bs t o e).1) q) (Nat.lt_irrefl _)
theorem zjP {b t:Addr}{xs:List V} (I:Inv X pins σ H s) (f:FpOk X pins H b) (h:SqT X.K H t xs):t≠b:=by
 rcases h with (h | ⟨o,h⟩) | ⟨o,_,_,hk,_⟩
 ·exact zg h f.1
 ·exact zg h f.1
 ·exact zkK I f hk
end
theorem zi3 {P:Program}{w:World}{K:Ae}{J:It}{fp wr:List Addr}{it:Addr}{tn:Nat->Heap->Prop}{elts:List Expr}{k:Nat}{pos:Pos} (mem:it∈fp)
  (obj:∀i h,tn i h->∀b∈fp,∃o,h.get? b=some o/\∀v,o.data≠.cell v) (keep:∀i h h',tn i h->(∀b∈fp,∀o,h.get? b=some o->h'.get? b=some o)->tn i h') (hw:∀b∈wr,b∈fp)
  (W:∀(X:Cx),X.prog=P->X.w=w->X.K=K->X.calm=true->∀(i:Nat) (pins:List (Addr×Obj)) (s:Shared) (σ:St) (H:Hp),Inv X pins σ H s->(∀b∈fp,FpOk X pins H b)->tn i s.heap->(J.go i H \/ J.stop i H)->
   ∃(fp':List Addr) (n:Nat) (Pt:Nat->Array Value->Prop) (S:Nat->Heap->Prop) (Mid:Nat->Addr->Heap->Prop),WalksT P w X.A it fp' wr n Pt S Mid/\S i s.heap/\(∀j h,S j h->tn j h)/\
    (J.go i H->i<n/\∀vals,Pt i vals->∃xs:List V,Vals xs vals.toList/\xs.length<=sizeLine/\∀p,H p=none->J.yld i H (.ref p) (upd H p (.tup xs)))/\(J.stop i H->i=n))
  (self:∀(A:Around) (i:Nat) (s:Shared) (Q:Value->Shared->Prop) (E:Value->Shared->Prop),tn i s.heap->Q (.ref it) s->wpAny (model P w) A (pyIter (.ref it)) Q E s) :
  Turn P w K (.Tuple elts k pos) J fp it tn where
 mem:=mem
 obj:=obj
 keep:=keep
 item:=by
  intro X hP hw' hK hc i pins s σ H E I hf st hg;obtain⟨fp',n,Pt,S,Mid,WT,st',tnS,g,_⟩:=W X hP hw' hK hc i pins s σ H I hf st (.inl hg);obtain⟨hi,hv⟩:=g hg;subst hP hw' hK;refine WT.item i s _ _ hi st' fun T vals h' tk hp hT htup hm hk=>⟨.ref T,rfl,?_⟩;obtain⟨xs,rv,hz,hy⟩:=hv vals hp;have I1:Inv X pins σ (upd H T (.tup xs)) { s with heap:=h',toks:=tk }:=I.grown (ch:=wr) (fun b hb=>hf b (hw b hb)) hk hT (show zF X.prog X.w _ h' T (.tup xs) from ⟨hz,vals.toList,rv,by have q:IsTup h' T vals:=htup; simpa using q⟩);have ltT:∀b∈fp,b≠T:=fun b hb=>by
   obtain⟨o,e,_⟩:=obj i _ st b hb;exact An (AD (Ah e) hT)
  have hf1:∀b∈fp,FpOk X pins (upd H T (.tup xs)) b:=fun b hb=>by
   obtain⟨f0,fr⟩:=hf b hb;exact⟨by rw[zk (ltT b hb)]; exact f0,fr⟩
  refine WT.go elts k pos i T _ _ _ hm fun h'' st'' hk''=>?_;have I2:Inv X pins σ (upd H T (.tup xs)) { s with heap:=h'',toks:=tk }:=I1.turneds (s:={ s with heap:=h',toks:=tk }) (t':=tk) (ch:=wr) (fun b hb=>hf1 b (hw b hb)) hk'';exact⟨.ref T,_,I2,rfl,hy T (I.hok.fresh hT),tnS _ _ st'',fun b hb=>(hf1 b hb).1⟩
 done:=by
  intro X hP hw' hK hc i pins s σ H E I hf st hg;obtain⟨fp',n,Pt,S,Mid,WT,st',tnS,_,g⟩:=W X hP hw' hK hc i pins s σ H I hf st (.inr hg);subst hP hw' hK;have e:=g hg;subst e;exact WT.done s _ _ st' fun h' tk hk=>⟨rfl,I.turneds (ch:=wr) (fun b hb=>hf b (hw b hb)) hk⟩
 self:=self
def Itz (K:Ae) (t1 t2:Addr):It:=
 ⟨fun i H=>∃xs ys,SqT K H t1 xs/\SqT K H t2 ys/\i<min xs.length ys.length,
  fun i H v H'=>∃p x y,v=.ref p/\H p=none/\H'=upd H p (.tup [x,y])/\(∀xs,SqT K H t1 xs->xs[i]?=some x)/\∀ys,SqT K H t2 ys->ys[i]?=some y,
  fun i H=>∃xs ys,SqT K H t1 xs/\SqT K H t2 ys/\i=min xs.length ys.length⟩
theorem two_line:(2:Nat)<=sizeLine:=by rw[sizeLine_eq]; decide
theorem zjh {P:Program}{w:World}{K:Ae}{elts:List Expr}{k:Nat}{pos:Pos} (t1 t2 z TI TO i1 i2:Addr) (hd:TI≠z/\TO≠z/\TI≠TO/\TI≠i1/\TI≠i2/\z≠i1/\z≠i2/\TO≠i1/\TO≠i2/\i1≠i2) :
  Turn P w K (.Tuple elts k pos) (Itz K t1 t2) [z,TI,TO,i1,i2] z (fun i h=>IsZip h z TI TO .none/\IsPair h TI (.ref i1) (.ref i2)/\(∃a b,IsPair h TO a b)/\h.IsTupleIter i1 t1 i/\h.IsTupleIter i2 t2 i):=by
 obtain⟨d1,d2,d3,d4,d5,d6,d7,d8,d9,d10⟩:=hd;refine zi3 (wr:=[z,TO,i1,i2]) (by simp) (fun i h st b hb=>?_) (fun i h h' st kk=>?_) (fun b hb=>?_) (fun X hP hw hK hc i pins s σ H I hf st hgs=>?_) fun A i s Q E st h=>wpAny_pyIter_zip st.1 h
 ·obtain⟨a1,a2,⟨a,b',a3⟩,⟨o4,a4,_,e4⟩,⟨o5,a5,_,e5⟩⟩:=st
  simp at hb;rcases hb with rfl | rfl | rfl | rfl | rfl
  ·exact⟨_,a1,fun v z=>by cases z⟩
  ·exact⟨_,a2,fun v z=>by cases z⟩
  ·exact⟨_,a3,fun v z=>by cases z⟩
  ·exact⟨_,a4,fun v z=>by rw[e4] at z; cases z⟩
  ·exact⟨_,a5,fun v z=>by rw[e5] at z; cases z⟩
 ·obtain⟨a1,a2,⟨a,b',a3⟩,a4,a5⟩:=st
  exact⟨kk z (by simp) _ a1,kk TI (by simp) _ a2,⟨a,b',kk TO (by simp) _ a3⟩,a4.at fun o e=>kk i1 (by simp) o e,a5.at fun o e=>kk i2 (by simp) o e⟩
 ·simp at hb ⊢
  rcases hb with rfl | rfl | rfl | rfl <;> simp
 ·subst hP hw hK
  have hd:∃xs ys,SqT X.K H t1 xs/\SqT X.K H t2 ys:=by
   rcases hgs with ⟨xs,ys,a,b,_⟩ | ⟨xs,ys,a,b,_⟩
   ·exact⟨xs,ys,a,b⟩
   ·exact⟨xs,ys,a,b⟩
  obtain⟨xs,ys,q1,q2⟩:=hd;obtain⟨us,r1,p1,_⟩:=I.tuple q1;obtain⟨ws,r2,p2,_⟩:=I.tuple q2;have hl1:=r1.length;have hl2:=r2.length;have hh:=I.ok.hd hc;obtain⟨a1,a2,a3,a4,a5⟩:=st;have f:=fun b hb=>zjP I (hf b hb) q1;have f':=fun b hb=>zjP I (hf b hb) q2;have AP:Zp.Apart z TI TO i1 i2 [i1,t1] [i2,t2]:=by
   refine⟨?_,?_,?_,?_,by simp,by simp,?_,?_,d1,d2,d3,d4,d5⟩
   ·simp; exact⟨d6,(f z (by simp)).symm⟩
   ·simp; exact⟨d7,(f' z (by simp)).symm⟩
   ·simp; exact⟨d8,(f TO (by simp)).symm⟩
   ·simp; exact⟨d9,(f' TO (by simp)).symm⟩
   ·simp; exact⟨d10,(f' i1 (by simp)).symm⟩
   ·simp; exact⟨d10.symm,(f i2 (by simp)).symm⟩
  have WZ:=Zp.zhS (prog:=X.prog) (w:=X.w) (A:=X.A) (Zp.zd0 (A:=X.A.in1) hh i1 t1 (f i1 (by simp)) us.toArray) (Zp.zd0 (A:=X.A.in1) hh i2 t2 (f' i2 (by simp)) ws.toArray) AP;refine⟨_,_,_,_,_,WZ,⟨a1,a2,a3,⟨a4,p1⟩,⟨a5,p2⟩⟩,fun j h st=>⟨st.1,st.2.1,st.2.2.1,st.2.2.2.1.1,st.2.2.2.2.1⟩,fun g=>?_,fun g=>?_⟩
  ·obtain⟨xs',ys',q1',q2',hi⟩:=g
   have e1:=I.tuple_inj q1' q1;have e2:=I.tuple_inj q2' q2;subst e1 e2;refine⟨by simpa[<- hl1,<- hl2] using hi,fun vals hp=>?_⟩;obtain⟨x,y,px,py,rfl⟩:=hp;have px':us[i]?=some x:=by simpa using px
   have py':ws[i]?=some y:=by simpa using py
   have lx:i<xs'.length:=by omega
   have ly:i<ys'.length:=by omega
   have gx:xs'[i]?=some xs'[i]:=by simp[lx]
   have gy:ys'[i]?=some ys'[i]:=by simp[ly]
   obtain⟨u,e3,ru⟩:=r1.get gx;obtain⟨u',e4,ru'⟩:=r2.get gy;rw[px'] at e3; cases e3;rw[py'] at e4; cases e4;refine⟨[xs'[i],ys'[i]],.cons ru (.cons ru' .nil),two_line,fun p hp=>⟨p,_,_,rfl,hp,rfl,fun zs hz=>?_,fun zs hz=>?_⟩⟩
   ·rw[I.tuple_inj hz q1]; exact gx
   ·rw[I.tuple_inj hz q2]; exact gy
  ·obtain⟨xs',ys',q1',q2',hi⟩:=g
   have e1:=I.tuple_inj q1' q1;have e2:=I.tuple_inj q2' q2;subst e1 e2
   simpa[<- hl1,<- hl2] using hi
theorem ziP (l1 l2:Addr) (xs ys:Array Value) :
  Meets (Builtin.«zip.__new__» ⟨[.type "zip",.ref l1,.ref l2],[]⟩) (fun _ R s=>s.heap.IsTuple l1 xs/\s.heap.IsTuple l2 ys/\
   ∀h',IsZip h' (s.heap.objs.size+4) (s.heap.objs.size+2) (s.heap.objs.size+3) .none->IsPair h' (s.heap.objs.size+2) (.ref s.heap.objs.size) (.ref (s.heap.objs.size+1))->
   IsPair h' (s.heap.objs.size+3) .none .none->h'.IsTupleIter s.heap.objs.size l1 0->h'.IsTupleIter (s.heap.objs.size+1) l2 0->
   (∀c o,s.heap.get? c=some o->h'.get? c=some o)->R (.ok (.ret (.ref (s.heap.objs.size+4)))) { s with heap:=h' }):=
 .of_wp fun prog w A R s h=>by
  obtain⟨hp,g,d,tk,os⟩:=s; obtain⟨hl1,hl2,h⟩:=h;have hsub:=sub_zip;have hL1:Heap.IsTuple (Shared.heap ⟨hp,g,d,tk,os⟩) l1 xs:=hl1;have hL2:Heap.IsTuple (Shared.heap ⟨hp.push { cls:=.type "tuple_iterator",data:=.fields #[.ref l1,.int 0 0] },g,d,tk,os⟩) l2 ys:=Heap.IsTuple.push hl2 _
  wp_walk using wpAny_pyIter_tuple hL1,wpAny_pyIter_tuple hL2
  refine⟨_,rfl,?_⟩;dsimp only at h ⊢;have z1:∀(h:Heap) (o:Obj),(h.push o).objs.size=h.objs.size+1:=fun h o=>Heap.size_push ..;simp only[z1,Nat.add_assoc,Nat.reduceAdd];refine h _ ?_ ?_ ?_ ?_ ?_ fun c o x=>Ad _ (Ad _ (Ad _ (Ad _ (Ad _ x))))
  ·exact Heap.get?_push_at (by simp only[z1]) rfl
  ·exact Ad _ (Ad _ (Heap.get?_push_at (by simp only[z1]) rfl))
  ·exact Ad _ (Heap.get?_push_at (by simp only[z1]) rfl)
  ·exact⟨_,Ad _ (Ad _ (Ad _ (Ad _ (Al _ rfl)))),rfl,rfl⟩
  ·exact⟨_,Ad _ (Ad _ (Ad _ (Heap.get?_push_at (by simp only[z1]) rfl))),rfl,rfl⟩
section
variable {X:Cx}{elts:List Expr}{k:Nat}{tpos:Pos}
def iZip (K:Ae) (ta:TA):TI:=fun σ H R=>ta σ H fun vs H1=>∃t1 t2,vs=[.ref t1,.ref t2]/\(∃xs,SqT K H1 t1 xs)/\(∃ys,SqT K H1 t2 ys)/\R (Itz K t1 t2) H1
theorem zmo {a b:Expr}{ta:TA}{p pos:Pos} (hg:Gl X "zip") (hm:X.mg "zip"=none) (hv:A5 "zip"=some (.type "zip")) (ha:PA X [a,b] ta) (hs:starEach [a,b] X.env=[(false,eval a X.env),(false,eval b X.env)]:=by rfl) (hs2:starEach [b] X.env=[(false,eval b X.env)]:=by rfl) :
  PI X (.Tuple elts k tpos) (.Call (.Name "zip" p) [a,b] [] pos) (iZip X.K ta):=by
 intro pins s σ H R I h;refine Call_ (zcr I hg hm hv (PyProof.Rows.callWith_type1 (thn (ha pos pins s σ H _ I h) fun us s1 ⟨vs,H1,I1,r1,q1⟩=>?_) (by rw[hs,hs2]) (by rw[hs2]; rfl)));obtain⟨t1,t2,e,⟨xs,q1⟩,⟨ys,q2⟩,q⟩:=q1;subst e;obtain⟨u,u',rfl,ru,ru'⟩:=vals2 r1;cases ru;cases ru';obtain⟨is1,_,p1,_⟩:=I1.tuple q1;obtain⟨is2,_,p2,_⟩:=I1.tuple q2;refine callType_new F.called_zip (by decide) (F.typeCall_zip_2 _ _) (F.newCall_zip_2 _ _) (fun obj=>F.args_object_init_3 obj _ _) F.entry_zip_new (ziP t1 t2 is1.toArray is2.toArray) ⟨p1,p2,fun h' a1 a2 a3 a4 a5 kk=>?_⟩;refine⟨⟨_,a1,rfl⟩,wpAny_pyIter_zip a1 ?_⟩;have I2:Inv X pins σ H1 { s1 with heap:=h' }:=I1.kept (t':=s1.toks) kk;refine⟨s1.heap.objs.size+4,[s1.heap.objs.size+4,s1.heap.objs.size+2,s1.heap.objs.size+3,s1.heap.objs.size,s1.heap.objs.size+1],_,_,H1,rfl,I2,zjh t1 t2 _ _ _ _ _ (by refine⟨?_,?_,?_,?_,?_,?_,?_,?_,?_,?_⟩ <;> (intro z; have z':(_:Nat)=_:=z; omega)),⟨a1,a2,⟨_,_,a3⟩,a4,a5⟩,fun b hb=>?_,q⟩;have hb':s1.heap.objs.size<=b:=by
  simp only[List.mem_cons,List.not_mem_nil,or_false] at hb;rcases hb with rfl | rfl | rfl | rfl | rfl
  ·exact Nat.le_add_right _ _
  ·exact Nat.le_add_right _ _
  ·exact Nat.le_add_right _ _
  ·exact Af _
  ·exact Nat.le_add_right _ _
 exact I1.fpOk hb' (I1.hok.fresh hb')
end
end L2
end
section
namespace L2
open PySem PySem.Spec PyProof.Rows
section
variable {X:Cx}{elts:List Expr}{k:Nat}{tpos:Pos}
theorem bools_of:∀{bs:List Bool}{us:List Value},Vals (bs.map V.bl) us->LSm.BoolsAre us bs
 | [],_,.nil=>.nil
 | b::bs,_,.cons r t=>by cases r; exact .cons b (bools_of t)
theorem zbm (hc:X.calm=true):zat X (.builtin "all") (fun xs H Q=>∃(l:Addr) (bs:List Bool),xs=[.ref l]/\SqL X.K H l (bs.map V.bl)/\Q (.bl (bs.all id)) H):=by
 intro pins s σ H xs us Q I r h;obtain⟨l,bs,rfl,hq,q⟩:=h;obtain⟨u,rfl,ru⟩:=vals1 r;cases ru;obtain⟨its,r1,p1,_⟩:=I.list hq;have hh:=I.ok.hd hc;have hl:=p1.isList;have hb:=bools_of r1;have hlt:l<s.heap.objs.size:=by obtain⟨_,e,_⟩:=hl; exact Ah e
 refine call_all_walk (wpAny_pyIter_list hl ?_);refine⟨s.heap.objs.size,[s.heap.objs.size,l],[s.heap.objs.size],its.toArray.size,_,_,fun i=>(bs[i]?).getD true,rfl,Walks.list (A:=X.A.in1) hh _ l (An hlt) its.toArray,
  ⟨⟨_,Al _ rfl,rfl,rfl⟩,hl.push _⟩,fun i v s' Q' E' hP hQ=>?_,fun h' tk hk=>?_⟩
 ·obtain⟨b,e,rfl⟩:=hb.get i v (by simpa using hP)
  simp only[e,Option.getD_some] at hQ;exact wpAny_truthy_bool hQ
 ·have e:((Bc its.toArray.size).all fun i=>(bs[i]?).getD true)=bs.all id:=by
   rw[Ai,hb.length]; exact LSm.range_all bs
  rw[e];exact⟨.bl _,H,I.kept (LSm.kept_iter hk),rfl,q⟩
end
section
variable {K:Ae}{a:Addr}{xs:List V}{g:TG}{tc:TT}{te:TE}{σ:St}{H1:Hp}{Q:VK}{D:Addr}
def CWd (n:Nat) (Pv:Nat->St->List V->Hp->Prop) (i m:Nat) (σ:St) (H:Hp):Prop:=m=n - i/\i<=n/\∃ys,ys.length<=i/\Pv i σ ys H
def CPut (n:Nat) (Pv:Nat->St->List V->Hp->Prop) (D:Addr) (i:Nat) (σ3:St):VK:=fun y H6=>∃ys m',H6 D=some (.lst ys)/\ys.length<sizeLine/\m'<n - i/\CWd n Pv (i+1) m' σ3 (upd H6 D (.lst (ys++[y])))
def CSkip (n:Nat) (Pv:Nat->St->List V->Hp->Prop) (i:Nat) (σ3:St) (H5:Hp):Prop:=∃m',m'<n - i/\CWd n Pv (i+1) m' σ3 H5
theorem cput {n:Nat}{Pv:Nat->St->List V->Hp->Prop}{i:Nat}{σ3:St}{ys:List V}{y:V}{H6:Hp} (hn:n<=sizeLine) (hi:i<n) (hl:ys.length<=i) (e:H6 D=some (.lst ys)) (p:Pv (i+1) σ3 (ys++[y]) (upd H6 D (.lst (ys++[y])))):CPut n Pv D i σ3 y H6:=
 ⟨ys,n - (i+1),e,by omega,by omega,rfl,hi,ys++[y],by simp; omega,p⟩
theorem cskip {n:Nat}{Pv:Nat->St->List V->Hp->Prop}{i:Nat}{σ3:St}{ys:List V}{H5:Hp} (hi:i<n) (hl:ys.length<=i) (p:Pv (i+1) σ3 ys H5):CSkip n Pv i σ3 H5:=
 ⟨n - (i+1),by omega,rfl,hi,ys,by omega,p⟩
theorem zbY {J:It} (n:Nat) (Pv:Nat->St->List V->Hp->Prop) (h0:Pv 0 σ [] (upd H1 D (.lst [])))
  (hstop:∀σ ys H,Pv n σ ys H->J.stop n H) (hgo:∀i σ ys H,i<n->Pv i σ ys H->J.go i H)
  (hs:∀i σ ys H x H',i<n->ys.length<=i->Pv i σ ys H->J.yld i H x H'->g x σ H' fun σ3 H4=>tc σ3 H4 fun b H5=>if b=true then te σ3 H5 (CPut n Pv D i σ3) else CSkip n Pv i σ3 H5)
  (hd:∀σ ys H,Pv n σ ys H->Q (.ref D) H):zaf J g tc te σ H1 D Q:=by
 refine⟨CWd n Pv,⟨n,by simp,AV _,[],Af _,h0⟩,?_⟩;rintro i m σ2 H2 ⟨rfl,hi,ys,hl,p⟩
 by_cases hlt:i<n
 ·exact .inr ⟨hgo i σ2 ys H2 hlt p,fun x H3 y=>hs i σ2 ys H2 x H3 hlt hl p y⟩
 ·have e:i=n:=by omega
  subst e;exact .inl ⟨hstop σ2 ys H2 p,hd σ2 ys H2 p⟩
theorem zH (Pv:Nat->St->List V->Hp->Prop) (h0:Pv 0 σ [] (upd H1 D (.lst []))) (hl:∀i σ ys H,Pv i σ ys H->SqL K H a xs)
  (hs:∀i σ ys H x,xs[i]?=some x->i<xs.length->ys.length<=i->Pv i σ ys H->g x σ H fun σ3 H4=>tc σ3 H4 fun b H5=>if b=true then te σ3 H5 (CPut xs.length Pv D i σ3) else CSkip xs.length Pv i σ3 H5)
  (hd:∀σ ys H,Pv xs.length σ ys H->Q (.ref D) H):zaf (Itl K a) g tc te σ H1 D Q:=by
 refine zbY xs.length Pv h0 (fun σ ys H p=>⟨xs,hl _ _ _ _ p,Af _⟩) (fun i σ ys H hi p=>⟨xs,xs[i],hl _ _ _ _ p,by simp[hi]⟩) (fun i σ ys H x H' hi hy p y=>?_) hd;obtain⟨e,y⟩:=y;subst e;exact hs i σ ys _ x (y xs (hl _ _ _ _ p)) hi hy p
theorem zcl (Pv:Nat->St->List V->Hp->Prop) (h0:Pv 0 σ [] (upd H1 D (.lst []))) (hl:∀i σ ys H,Pv i σ ys H->SqT K H a xs)
  (hs:∀i σ ys H x,xs[i]?=some x->i<xs.length->ys.length<=i->Pv i σ ys H->g x σ H fun σ3 H4=>tc σ3 H4 fun b H5=>if b=true then te σ3 H5 (CPut xs.length Pv D i σ3) else CSkip xs.length Pv i σ3 H5)
  (hd:∀σ ys H,Pv xs.length σ ys H->Q (.ref D) H):zaf (Itt K a) g tc te σ H1 D Q:=by
 refine zbY xs.length Pv h0 (fun σ ys H p=>⟨xs,hl _ _ _ _ p,Af _⟩) (fun i σ ys H hi p=>⟨xs,xs[i],hl _ _ _ _ p,by simp[hi]⟩) (fun i σ ys H x H' hi hy p y=>?_) hd;obtain⟨e,y⟩:=y;subst e;exact hs i σ ys _ x (y xs (hl _ _ _ _ p)) hi hy p
theorem zgr {lo:Int}{n:Nat} (Pv:Nat->St->List V->Hp->Prop) (h0:Pv 0 σ [] (upd H1 D (.lst [])))
  (hs:∀i σ ys H,i<n->ys.length<=i->Pv i σ ys H->g (.int (lo+i)) σ H fun σ3 H4=>tc σ3 H4 fun b H5=>if b=true then te σ3 H5 (CPut n Pv D i σ3) else CSkip n Pv i σ3 H5)
  (hd:∀σ ys H,Pv n σ ys H->Q (.ref D) H):zaf (Itr lo n) g tc te σ H1 D Q:=by
 refine zbY n Pv h0 (fun σ ys H p=>Af _) (fun i σ ys H hi p=>hi) (fun i σ ys H x H' hi hy p y=>?_) hd;obtain⟨e,y⟩:=y;subst e y;exact hs i σ ys _ hi hy p
theorem zi2 {t1 t2:Addr}{ys:List V} (Pv:Nat->St->List V->Hp->Prop) (h0:Pv 0 σ [] (upd H1 D (.lst []))) (hl:∀i σ zs H,Pv i σ zs H->SqT K H t1 xs/\SqT K H t2 ys)
  (hs:∀i σ zs H p x y,xs[i]?=some x->ys[i]?=some y->i<min xs.length ys.length->zs.length<=i->Pv i σ zs H->H p=none->g (.ref p) σ (upd H p (.tup [x,y])) fun σ3 H4=>tc σ3 H4 fun b H5=>if b=true then te σ3 H5 (CPut (min xs.length ys.length) Pv D i σ3) else CSkip (min xs.length ys.length) Pv i σ3 H5)
  (hd:∀σ zs H,Pv (min xs.length ys.length) σ zs H->Q (.ref D) H):zaf (Itz K t1 t2) g tc te σ H1 D Q:=by
 refine zbY (min xs.length ys.length) Pv h0 (fun σ zs H p=>⟨xs,ys,(hl _ _ _ _ p).1,(hl _ _ _ _ p).2,rfl⟩) (fun i σ zs H hi p=>⟨xs,ys,(hl _ _ _ _ p).1,(hl _ _ _ _ p).2,hi⟩) (fun i σ zs H v H' hi hy p y=>?_) hd;obtain⟨pp,x,y',rfl,hp,rfl,y1,y2⟩:=y;exact hs i σ zs H pp x y' (y1 xs (hl _ _ _ _ p).1) (y2 ys (hl _ _ _ _ p).2) hi hy p hp
end
end L2
end
section
namespace Dk
open PySem PySem.Spec PyProof.Rows
def IsD (h:Heap) (d:Addr) (es:Array DictEntry) (ep:Nat):Prop:=∃o,h.get? d=some o/\o.ExactDict/\o.data=.dict es ep
theorem IsD.at {h h':Heap}{d:Addr}{es:Array DictEntry}{ep:Nat} (x:IsD h d es ep) (k:∀o,h.get? d=some o->h'.get? d=some o):IsD h' d es ep:=let ⟨o,ho,r⟩:=x; ⟨o,k o ho,r⟩
theorem IsD.lt {h:Heap}{d:Addr}{es:Array DictEntry}{ep:Nat} (x:IsD h d es ep):d<h.objs.size:=let ⟨_,ho,_⟩:=x; Ah ho
section
variable {prog:Program}{w:World}{A:Around}{E:Value->Shared->Prop}{s:Shared}{it d:Addr}{i ep:Nat}{es:Array DictEntry}
theorem IsD.typeIs (x:IsD s.heap d es ep):s.TypeIs (.ref d) "dict":=let ⟨o,ho,r⟩:=x; ⟨o,ho,r.1.1⟩
theorem iter {Q:Value->Shared->Prop} (hd:(d == sysModules)=false) (hm:IsD s.heap d es ep)
  (hQ:Q (.ref s.heap.objs.size) { s with heap:=s.heap.push { cls:=.type "dict_keyiterator",data:=.fields #[.ref d,.int 0 0,.int es.size 0,.int ep 0] } }):wpAny (model prog w) A (pyIter (.ref d)) Q E s:=by
 have hT:=hm.typeIs;obtain⟨o,ho,hc,hdat⟩:=id hm;refine wpAny_pyIter_slot hT PySem.F.slot_dict_iter (AR PySem.F.slot_dict_iter hT PySem.F.entry_dict_iter ?_ (PySem.F.args_dict_iter_1 _));unfold Builtin.«dict.__iter__»;refine Aa ?_;unfold Builtin.Dict.dictSlotNone;refine Aa (wpAny_notOrdered_dict hT ?_);show wpAny _ _ (pure (Value.ref d)) _ _ s;refine Ac ?_;show wpAny _ _ (Builtin.Dict.showsAll d >>= _) _ _ s;unfold Builtin.Dict.showsAll;rw[if_neg (by rw[hd]; exact Au)];refine Aa (Ac ?_);refine Aa (wpAny_dictEntries ho hdat ?_);refine Aa (wpAny_dictEpoch ho hdat ?_);refine Aa (AO (Ac ⟨_,rfl,"dict_keyiterator",_,⟨_,Al _ rfl,rfl⟩,PySem.F.slot_dict_keyiterator_next.lookup,?_⟩))
 simpa[rawInt] using hQ
theorem item {Q:Option Value->Shared->Prop} (hit:s.heap.IsKeyIter it d i es.size ep) (hm:IsD s.heap d es ep) (hx:i<es.size)
  (hQ:∀h',h'.IsKeyIter it d (i+1) es.size ep->A2 it s.heap h'->Q (some es[i].key) { s with heap:=h' }):wpAny (model prog w) A (pyNext (.ref it)) Q E s:=by
 obtain⟨o,ho,hc,hd⟩:=id hit;obtain⟨od,hod,hcd,hdd⟩:=id hm;unfold pyNext;refine Aa (wpAny_attempt (AX (name:=Str.ofString "__next__") hit.typeIs PySem.F.slot_dict_keyiterator_next
  (AR PySem.F.slot_dict_keyiterator_next hit.typeIs PySem.F.entry_dict_keyiterator_next ?_ (PySem.F.args_dict_keyiterator_next_1 _))))
 refine Aa (Ac ?_);refine Aa ?_;refine Aa ?_
 first | refine Aa (wpAny_typeNameOfWhole_keyiter hit.typeIs (Ac ?_)) | refine Aa (wpAny_typeNameOf_keyiter hit.typeIs (Ac ?_))
 refine Aa (wpAny_fieldsOf ho hd ?_);have hown:Builtin.Dict_items.ownsTuple "dict_keyiterator"=false:=by decide
 simp only[hown,Aj,if_false];show wpAny _ _ (if (Value.ref d == Value.none)=true then _ else _) _ _ s;rw[if_neg (show ¬ ((Value.ref d == Value.none)=true) from Au)];refine Aa (Ac ?_);refine Aa (wpAny_dictEntries hod hdd ?_);rw[if_neg (by simp)];refine Aa (Ac ?_);refine Aa (wpAny_dictEpoch hod hdd ?_);rw[if_neg (by simp)];refine Ac ?_;simp only[show ¬ ((i:Int)<0) from by omega,if_false,Int.toNat_natCast,Array.getElem?_eq_getElem hx];refine Aa ?_
 first | refine Aa (wpAny_typeNameOfWhole_keyiter hit.typeIs (Ac ?_)) | refine Aa (wpAny_typeNameOf_keyiter hit.typeIs (Ac ?_))
 refine Aa (wpAny_isOneOf_keyiter hit.typeIs ?_);show wpAny _ _ (setField (.ref it) 1 (rawInt ((i:Int)+1)) >>= _) _ _ s;refine Aa (wpAny_setField ho hd (by simp) ?_);have hit':(s.heap.update it (Obj.mapFields (·.setIfInBounds 1 (rawInt ((i:Int)+1))))).IsKeyIter it d (i+1) es.size ep:=
  ⟨_,Heap.get?_update_self _ ho (Obj.isFreed_of_fields (A8 hd _)),(Obj.cls_mapFields ..).trans hc,by rw[A8 hd]; simp[rawInt]⟩
 refine Aa (AJ ?_);refine Aa (wpAny_isOneOf_keyiter (s:={ s with heap:=s.heap.update it (Obj.mapFields (·.setIfInBounds 1 (rawInt ((i:Int)+1)))) }) hit'.typeIs ?_);show wpAny _ _ (pure es[i].key) _ _ _;exact Ac (Ac ⟨_,rfl,Ac (hQ _ hit' (AZ ..))⟩)
theorem done {Q:Option Value->Shared->Prop} (hh:A.handled=none) (hit:s.heap.IsKeyIter it d es.size es.size ep) (hm:IsD s.heap d es ep)
  (hQ:∀h',Heap.ExtBut it s.heap h'->Q none { s with heap:=h' }):wpAny (model prog w) A (pyNext (.ref it)) Q E s:=by
 obtain⟨o,ho,hc,hd⟩:=id hit;obtain⟨od,hod,hcd,hdd⟩:=id hm;unfold pyNext;refine Aa (wpAny_attempt (AX (name:=Str.ofString "__next__") hit.typeIs PySem.F.slot_dict_keyiterator_next
  (AR PySem.F.slot_dict_keyiterator_next hit.typeIs PySem.F.entry_dict_keyiterator_next ?_ (PySem.F.args_dict_keyiterator_next_1 _))))
 refine Aa (Ac ?_);refine Aa ?_;refine Aa ?_
 first | refine Aa (wpAny_typeNameOfWhole_keyiter hit.typeIs (Ac ?_)) | refine Aa (wpAny_typeNameOf_keyiter hit.typeIs (Ac ?_))
 refine Aa (wpAny_fieldsOf ho hd ?_);have hown:Builtin.Dict_items.ownsTuple "dict_keyiterator"=false:=by decide
 simp only[hown,Aj,if_false];show wpAny _ _ (if (Value.ref d == Value.none)=true then _ else _) _ _ s;rw[if_neg (show ¬ ((Value.ref d == Value.none)=true) from Au)];refine Aa (Ac ?_);refine Aa (wpAny_dictEntries hod hdd ?_);rw[if_neg (by simp)];refine Aa (Ac ?_);refine Aa (wpAny_dictEpoch hod hdd ?_);rw[if_neg (by simp)];refine Ac ?_;simp only[show ¬ ((es.size:Int)<0) from by omega,if_false,Int.toNat_natCast,Array.getElem?_eq_none (Af es.size)];refine Aa ?_
 first | refine Aa (wpAny_typeNameOfWhole_keyiter hit.typeIs (Ac ?_)) | refine Aa (wpAny_typeNameOf_keyiter hit.typeIs (Ac ?_))
 show wpAny _ _ (setField (.ref it) 0 .none >>= _) _ _ s;refine Aa (wpAny_setField ho hd (by simp) ?_);show wpAny _ _ (newExc (.type "StopIteration") [] >>= _) _ _ _;refine Aa ?_;simp only[newExc,newTuple];refine Aa (AO ?_ (by size_fits));refine Aa (m:=firstArgMember _ _) (wpAny_of_eq (a:=Value.none) (by first | rfl | (simp only[firstArgMember]; rfl)) ?_);refine AO ?_ (by size_fits);simp only[raiseNew];refine Aa (wpAny_handled ?_);rw[show A.in1.handled=none from hh];refine Aa (Ac (wpAny_throw ?_));refine Aa (wpAny_isInstance (T:="StopIteration") (b:=true) ⟨_,Al _ rfl,rfl⟩ isSubtype_stop ?_);exact Ac (hQ _ (((AZ ..).extBut.push _).push _))
theorem walks (hh:A.handled=none) (I d:Addr) (hne:d≠I) (es:Array DictEntry) (ep:Nat) :
  Walks prog w A I [I,d] [I] es.size (fun i v=>∃e,es[i]?=some e/\v=e.key) (fun i h=>h.IsKeyIter I d i es.size ep/\IsD h d es ep) where
 sub:=fun b hb=>by simp at hb ⊢; exact .inl hb
 frame:=fun i h h' st k=>⟨let ⟨o,ho,r⟩:=st.1; ⟨o,k I (by simp) o ho,r⟩,st.2.at fun o e=>k d (by simp) o e⟩
 item:=fun i s Q E hi st hQ=>item st.1 st.2 hi fun h' st' sb=>hQ _ h' s.toks ⟨es[i],by simp[hi],rfl⟩ ⟨st',st.2.at fun o e=>(sb.2 d hne).trans e⟩ fun b o hb e=>(sb.2 b (fun z=>hb (by simp[z]))).trans e
 done:=fun s Q E st hQ=>done hh st.1 st.2 fun h' eb=>hQ h' s.toks fun b o hb e=>eb b o (fun z=>hb (by simp[z])) e
 self:=fun i s Q E st hQ=>wpAny_pyIter_keyiter st.1 hQ
theorem src (lo:(d == sysModules)=false):PySem.W.KdlSrc prog w "dict" d d es.size (fun i v=>∃e,es[i]?=some e/\v=e.key) (fun h=>IsD h d es ep) where
 type:=fun _ hm=>hm.typeIs
 there:=fun _ hm=>⟨hm.lt,hm.lt⟩
 keep:=fun _ _ hm hk=>hm.at fun o e=>hk d (.inl rfl) o e
 notList:=by decide
 notTuple:=by decide
 hint:=fun _ _ _ _ hm hq=>PySem.W.kdl_hint_dict hm.typeIs hq
 iter:=fun _ s hh hm=>⟨_,_,(fun _ _ hq=>iter lo hm hq),walks hh _ d (An hm.lt) es ep,⟨⟨_,Al _ rfl,rfl,rfl⟩,hm.at fun o e=>Ad _ e⟩⟩
end
end Dk
namespace L2
open PySem PySem.Spec PyProof.Rows
section
variable {X:Cx}
theorem zj9 {P:Program}{w:World}{k:Key}{u:Value} (h:(zq P w).is k u=true):RelV (kV k) u:=by
 rcases keyIs_shape h with ⟨i,t,rfl,rfl⟩ | ⟨x,t,rfl,rfl⟩
 ·exact⟨t,rfl⟩
 ·exact⟨t,rfl⟩
theorem zca (hc:X.calm=true):zat X (.type "list") (fun xs H Q=>∃a kvs,xs=[.ref a]/\H a=some (.dT kvs)/\
  ∀(bs:List Addr),Paired (fun (p:List Key×V) b=>H b=some (.tup (p.1.map kV))) kvs bs->∀l,H l=none->Q (.ref l) (upd H l (.lst (bs.map V.ref)))):=by
 intro pins s σ H xs us Q I r h;obtain⟨a,kvs,rfl,hq,q⟩:=h;obtain⟨u,rfl,ru⟩:=vals1 r;cases ru;obtain⟨z,y,ys,rel,o,es,ep,h1,h2,h3,h4,h5⟩:=(show zF X.prog X.w H s.heap a (.dT kvs) from I.hok a _ hq);have hl:es.size=kvs.length:=by
  have:=congrArg List.length h4;rw[Ab,<- Paired.length rel] at this
  simpa using this
 refine PySem.W.kdl_call (Dk.src (ep:=ep) (es:=es) y) (I.ok.hd hc) ⟨o,h1,h2,h3⟩ (by rw[hl]; exact z) fun h' tk acc c' kk e it=>?_;obtain⟨n1,n2⟩:=it;have pb:Paired (fun (p:List Key×V) b=>H b=some (.tup (p.1.map kV))) kvs (ys.map (·.2.1)):=by
  have:∀{l:List (List Key×V)} {m:List (List Key×Addr×Value)},KT H l m->Paired (fun (p:List Key×V) b=>H b=some (.tup (p.1.map kV))) l (m.map (·.2.1)):=by
   intro l m q
   induction q with
   | nil=>exact .nil
   | cons hq t ih=>exact .cons hq.2.1 ih
  exact this rel
 have ea:acc.toList=(ys.map (·.2.1)).map Value.ref:=by
  apply List.ext_getElem?;intro i;have hy:ys.length=acc.size:=by rw[n1,hl]; exact (Paired.length rel).symm
  by_cases hi:i<acc.size
  ·obtain⟨e',g1,g2⟩:=n2 i acc[i] (by simp[hi])
   have g3:es.toList[i]?=some e':=by simpa using g1
   rw[h4,Ap] at g3;have g4:ys[i]?=some ys[i]:=by simp[hy,hi]
   rw[g4] at g3;simp only[Option.map_some,Option.some.injEq] at g3;simp only[Ap,g4,Option.map_some,AH,Array.getElem?_eq_getElem hi];rw[g2,<- g3]
   rfl
  ·have g1:acc.toList.length<=i:=by simp; omega
   have g2:((ys.map (·.2.1)).map Value.ref).length<=i:=by simp[hy]; omega
   rw[List.getElem?_eq_none g1,List.getElem?_eq_none g2]
 have vv:Vals ((ys.map (·.2.1)).map V.ref) acc.toList:=by
  rw[ea];generalize ys.map (·.2.1)=bs
  induction bs with
  | nil=>exact .nil
  | cons b bs ih=>exact .cons rfl ih
 refine⟨.ref s.heap.objs.size,_,I.laid kk (Af _) (show zF X.prog X.w _ h' _ (.lst ((ys.map (·.2.1)).map V.ref)) from ⟨?_,acc.toList,c',vv,by simpa using e⟩),rfl,q _ pb _ (I.hok.fresh (Af _))⟩;simp only[Ab];rw[<- Paired.length rel];exact z
theorem zbg (hc:X.calm=true):zat X (.type "list") (fun xs H Q=>∃a kvs,xs=[.ref a]/\H a=some (.dK kvs)/\∀l,H l=none->Q (.ref l) (upd H l (.lst (kvs.map fun kv=>kV kv.1)))):=by
 intro pins s σ H xs us Q I r h;obtain⟨a,kvs,rfl,hq,q⟩:=h;obtain⟨u,rfl,ru⟩:=vals1 r;cases ru;obtain⟨z,y,vs,rel,dd⟩:=zhR I.hok hq;obtain⟨ep,dd⟩:=dd.dictAt;have hl:=rel.length;refine PySem.W.kdl_call (PySem.W.kdl_dict (knd:=zq X.prog X.w) (kvs:=vs) (ep:=ep) y) (I.ok.hd hc) dd (by rw[<- hl]; exact z) fun h' tk acc c' kk e it=>?_;obtain⟨n1,n2⟩:=it;have vv:Vals (kvs.map fun kv=>kV kv.1) acc.toList:=by
  have key:∀{l:List (Key×V)} {m:List (Key×Value)} {as:List Value},KV l m->as.length=m.length->(∀(i:Nat) v,as[i]?=some v->∃k x,m[i]?=some (k,x)/\(zq X.prog X.w).is k v=true)->Vals (l.map fun kv=>kV kv.1) as:=by
   intro l m as q
   induction q generalizing as with
   | nil=>intro h1 _; cases as with
    | nil=>exact .nil
    | cons _ _=>simp at h1
   | @cons p q' ps qs hq t ih=>
    intro h1 h2;cases as with
    | nil=>simp at h1
    | cons v as=>
     obtain⟨k,x,g1,g2⟩:=h2 0 v rfl;simp only[List.getElem?_cons_zero,Option.some.injEq] at g1;refine .cons ?_ (ih (by simpa using h1) fun i v e=>by simpa using h2 (i+1) v (by simpa using e));have:p.1=k:=by rw[hq.1,g1]
     show RelV (kV p.1) v;rw[this];exact zj9 g2
  exact key rel (by simpa using n1) fun i v e=>n2 i v (by simpa using e)
 refine⟨.ref s.heap.objs.size,_,I.laid kk (Af _) (show zF X.prog X.w _ h' _ (.lst (kvs.map fun kv=>kV kv.1)) from ⟨?_,acc.toList,c',vv,by simpa using e⟩),rfl,q _ (I.hok.fresh (Af _))⟩
 simpa using z
end
end L2
end
section
namespace L2
open PySem PySem.Spec PyProof.Rows
def Tp (H:Hp) (a:Addr) (ps:List Int):Prop:=H a=some (.tup (ps.map V.int))
abbrev Tps (H:Hp) (as:List Addr) (pss:List (List Int)):Prop:=Paired (fun a ps=>Tp H a ps) as pss
theorem Same.tp {H H':Hp}{a:Addr}{ps:List Int} (e:Same H H') (h:Tp H a ps):Tp H' a ps:=e _ _ h
theorem Same.tps {H H':Hp}{as:List Addr}{pss:List (List Int)} (e:Same H H') (h:Tps H as pss):Tps H' as pss:=Paired.mapP h fun _ _ q=>e.tp q
theorem Same.new {H:Hp}{a:Addr}{o:HO} (h:H a=none):Same H (upd H a o):=fun b u e=>by rw[zk (zg e h)]; exact e
theorem Same.then {H H1:Hp}{a:Addr}{o:HO} (e:Same H H1) (h:H a=none):Same H (upd H1 a o):=fun b u q=>by rw[zk (zg q h)]; exact e b u q
theorem Tps.length {H:Hp}{as:List Addr}{pss:List (List Int)} (h:Tps H as pss):as.length=pss.length:=Paired.length h
theorem Tps.get {H:Hp}:∀{as:List Addr}{pss:List (List Int)}{i:Nat}{a:Addr},Tps H as pss->as[i]?=some a->∃ps,pss[i]?=some ps/\Tp H a ps
 | _,_,_,_,.nil,e=>by simp at e
 | _,_,0,_,.cons r _,e=>by simp at e; subst e; exact⟨_,rfl,r⟩
 | _,_,i+1,a,.cons _ t,e=>by
  obtain⟨u,h1,h2⟩:=Tps.get (i:=i) (a:=a) t (by simpa using e);exact⟨u,by simpa using h1,h2⟩
theorem Tps.snoc {H:Hp}{as:List Addr}{pss:List (List Int)}{a:Addr}{ps:List Int} (h:Tps H as pss) (q:Tp H a ps):Tps H (as++[a]) (pss++[ps]):=by
 induction h with
 | nil=>exact .cons q .nil
 | cons r t ih=>exact .cons r ih
theorem Tps.append {H:Hp}{as bs:List Addr}{pss qss:List (List Int)} (h:Tps H as pss) (q:Tps H bs qss):Tps H (as++bs) (pss++qss):=by
 induction h with
 | nil=>exact q
 | cons r t ih=>exact .cons r ih
theorem Tps.take {H:Hp}:∀{as:List Addr}{pss:List (List Int)} (n:Nat),Tps H as pss->Tps H (as.take n) (pss.take n)
 | _,_,0,_=>.nil
 | _,_,_+1,.nil=>.nil
 | _,_,n+1,.cons r t=>.cons r (Tps.take n t)
theorem Tps.drop {H:Hp}:∀{as:List Addr}{pss:List (List Int)} (n:Nat),Tps H as pss->Tps H (as.drop n) (pss.drop n)
 | _,_,0,r=>r
 | _,_,_+1,.nil=>.nil
 | _,_,n+1,.cons _ t=>Tps.drop n t
theorem vals_refs:∀{as:List Addr}{us:List Value},Vals (as.map V.ref) us->us=as.map Value.ref
 | [],_,.nil=>rfl
 | a::as,_,.cons r t=>by cases r; rw[vals_refs t]; rfl
theorem zfc {α:Type} (f:α->Addr):∀l:List α,Vals (l.map fun q=>V.ref (f q)) (l.map fun q=>Value.ref (f q))
 | []=>.nil
 | a::l=>.cons rfl (zfc f l)
section
variable {X:Cx}
theorem zfB {prog:Program}{w:World}{h:Heap}{c:Addr}{cs:List Value}{qs:List Int} (hc:IsTup h c cs.toArray) (hi:IntsAre cs qs):AW (zq prog w) h (qs.map Sum.inl) c:=by
 obtain⟨o,e,hcl,k,d⟩:=hc;refine⟨o,cs.toArray,k,e,hcl,d,?_⟩;have:∀{cs:List Value} {qs:List Int},IntsAre cs qs->ItemsAre (zq prog w) (qs.map Sum.inl) cs:=by
  intro cs qs hi
  induction hi with
  | nil=>exact .nil
  | cons n t h ih=>exact .cons (zbA prog w n t) ih
 simpa using this hi
theorem zgC {ps qs:List Int}:(ps.map Sum.inl:List Key)=qs.map Sum.inl ↔ ps=qs:=
 ⟨fun z=>(List.map_inj_right (f:=(Sum.inl:Int->Key)) (fun x y h=>Sum.inl.inj h)).mp z,fun z=>by rw[z]⟩
theorem zkM {pins:List (Addr×Obj)}{σ:St}{H:Hp}{s:Shared}{A:Around}{a b:Addr}{ps qs:List Int} (I:Inv X pins σ H s) (ha:Tp H a ps) (hb:Tp H b qs) (hu:A.units<cLine) :
  SeqAt.EqAt A s (.ref a) (.ref b) (decide (ps=qs)):=by
 intro prog w E Q h;obtain⟨its,r1,p1,_⟩:=I.tuple (SqT.of ha);obtain⟨its2,r2,p2,_⟩:=I.tuple (SqT.of hb);refine wpAny_eqBool_tuple (knd:=zq prog w) hu (zfB p1 (intsAre_of r1)) (zfB p2 (intsAre_of r2)) ?_;rw[show decide ((ps.map Sum.inl:List Key)=qs.map Sum.inl)=decide (ps=qs) from by simp only[zgC]];exact h
def zlg:R2:=fun x y H Q=>∃a b xs ys,x=.ref a/\y=.ref b/\H a=some (.tup xs)/\H b=some (.tup ys)/\xs.length+ys.length<=sizeLine/\∀p H',Same H H'->H' p=some (.tup (xs++ys))->Q (.ref p) H'
theorem zfe:OpR X (binaryOp .Add) zlg:=by
 intro pins s σ H x y v u Q I rx ry h;obtain⟨a,b,xs,ys,rfl,rfl,ha,hb,hz,q⟩:=h;cases rx;cases ry;obtain⟨its,r1,p1,_⟩:=I.tuple (SqT.of ha);obtain⟨its2,r2,p2,_⟩:=I.tuple (SqT.of hb)
 by_cases hx:xs=[]
 ·subst hx
  have e1:=r1.nil_iff.mpr rfl;subst e1;obtain⟨⟨cls,dd,data,sl⟩,ho,hc,n,hd⟩:=id p1;obtain⟨⟨cls2,dd2,data2,sl2⟩,ho2,hc2,n2,hd2⟩:=id p2;simp only at hc hd hc2 hd2;subst hc hd hc2 hd2;exact concat_meets ⟨_,ho,rfl⟩ ⟨_,ho2,rfl⟩ noFill_tuple_add seq_tuple_add PySem.F.slot_tuple_add PySem.F.entry_tuple_add (PySem.F.args_tuple_add_2 _ _)
   (tuple_addW0 a b (List.toArray []) its2.toArray n n2 dd dd2 sl sl2 (by simp)) ⟨ho,ho2,.ref b,H,I,rfl,q b H (Same.refl H) (by simpa using hb)⟩
 ·refine HT.zkO p1 p2 (fun z=>hx (r1.nil_iff.mp z)) (fun z=>⟨.ref a,H,I,rfl,q a H (Same.refl H) ?_⟩) (fun z=>?_) (by rw[<- r1.length,<- r2.length]; exact hz)
  ·rw[r2.nil_iff.mp z,List.append_nil]; exact ha
  ·have hf:=I.hok.fresh (Af s.heap.objs.size)
   refine⟨.ref s.heap.objs.size,_,I.laid (t':=s.toks) (o:=.tup (xs++ys)) (fun b ob q=>Ad _ q) (Af _) ?_,rfl,q _ _ (Same.new hf) upd_same⟩;exact⟨by rw[At]; exact hz,_,r1.append r2,IsTup.new _ _⟩
def rInT (neg:Bool) (K:Ae):R2:=fun x y H Q=>∃a l ps as pss,x=.ref a/\y=.ref l/\Tp H a ps/\SqL K H l (as.map V.ref)/\Tps H as pss/\Q (.bl (if neg then !decide (ps∈pss) else decide (ps∈pss))) H
def eqH (H:Hp) (ps:List Int) (u:Value):Bool:=match u with
 | .ref b=>(match H b with | some (.tup xs)=>decide (xs=ps.map V.int) | _=>false)
 | _=>false
theorem zjz {ps qs:List Int}:(ps.map V.int:List V)=qs.map V.int ↔ ps=qs:=
 ⟨fun z=>(List.map_inj_right (f:=V.int) (fun x y h=>V.int.inj h)).mp z,fun z=>by rw[z]⟩
theorem zj2 {H:Hp}{b:Addr}{ps qs:List Int} (h:Tp H b qs):eqH H ps (.ref b)=decide (qs=ps):=by
 show (match H b with | some (.tup xs)=>decide (xs=ps.map V.int) | _=>false)=_;rw[show H b=some (.tup (qs.map V.int)) from h];simp only[zjz]
theorem zg7 {H:Hp}{ps:List Int}{as:List Addr}{pss:List (List Int)} (h:Tps H as pss):(as.map Value.ref).any (eqH H ps)=decide (ps∈pss):=by
 induction h with
 | nil=>simp
 | @cons a qs as pss r t ih=>
  rw[AK,List.any_cons,ih,zj2 r]
  by_cases e:qs=ps
  ·subst e; simp
  ·have:¬ ps=qs:=fun z=>e z.symm
   simp[e,this]
theorem zgE {pins:List (Addr×Obj)}{σ:St}{H:Hp}{s:Shared}{A:Around}{a:Addr}{ps:List Int} (I:Inv X pins σ H s) (ha:Tp H a ps) (hu:A.units<cLine) :
  ∀{as:List Addr} {pss:List (List Int)},Tps H as pss->∀u∈as.map Value.ref,SeqAt.EqAt A s u (.ref a) (eqH H ps u):=by
 intro as pss h
 induction h with
 | nil=>intro u hu; simp at hu
 | @cons b qs as pss r t ih=>
  intro u hm;rw[AK] at hm;rcases List.mem_cons.mp hm with rfl | hm
  ·rw[zj2 r]; exact zkM I r ha hu
  ·exact ih u hm
theorem zjS (hu:X.A.in1.units<cLine):OpR X (compareOp .In) (rInT false X.K):=by
 intro pins s σ H x y v u Q I rx ry h;obtain⟨a,l,ps,as,pss,rfl,rfl,ha,hl,hp,q⟩:=h;cases rx;cases ry;obtain⟨its,r,pl,hz⟩:=I.list hl;obtain rfl:=vals_refs r;refine SeqAt.in_listAt (eqH H ps) pl.isList (fun w hw=>zgE I ha hu hp w (by simpa using hw)) ⟨.bl _,H,I,rfl,?_⟩;rw[show (as.map Value.ref).toArray.any (eqH H ps)=(as.map Value.ref).any (eqH H ps) by simp,zg7 hp];exact q
theorem zht (hu:X.A.in1.units<cLine):OpR X (compareOp .NotIn) (rInT true X.K):=by
 intro pins s σ H x y v u Q I rx ry h;obtain⟨a,l,ps,as,pss,rfl,rfl,ha,hl,hp,q⟩:=h;cases rx;cases ry;obtain⟨its,r,pl,hz⟩:=I.list hl;obtain rfl:=vals_refs r;refine SeqAt.notIn_listAt (eqH H ps) pl.isList (fun w hw=>zgE I ha hu hp w (by simpa using hw)) ⟨.bl _,H,I,rfl,?_⟩;rw[show (as.map Value.ref).toArray.any (eqH H ps)=(as.map Value.ref).any (eqH H ps) by simp,zg7 hp];exact q
theorem zbM {pins:List (Addr×Obj)}{σ:St}{H:Hp}{s:Shared}{a:Addr}{ps:List Int} (I:Inv X pins σ H s) (ha:Tp H a ps):Reads s.heap (.ref a) (.tuple (ps.map A4)) []:=by
 obtain⟨its,r,p,_⟩:=I.tuple (SqT.of ha);obtain⟨o,ho,hc,n,hd⟩:=id p;exact .tuple ho hc hd ((PySem.W.ke_carried (intsAre_of r)).reads s.heap)
theorem zhv {pins:List (Addr×Obj)}{σ:St}{H:Hp}{s:Shared} (I:Inv X pins σ H s):∀{as:List Addr}{pss:List (List Int)},Tps H as pss->ReadsAll s.heap (as.map Value.ref) (pss.map fun ps=>PyData.tuple (ps.map A4)) []:=by
 intro as pss h
 induction h with
 | nil=>exact .nil
 | cons r t ih=>exact .cons (as:=[]) (bs:=[]) (zbM I r) ih
theorem zbh {pins:List (Addr×Obj)}{σ:St}{H:Hp}{s:Shared}{l:Addr}{as:List Addr}{pss:List (List Int)} (I:Inv X pins σ H s) (hl:SqL X.K H l (as.map V.ref)) (h:Tps H as pss) :
  Reads s.heap (.ref l) (.list (pss.map fun ps=>PyData.tuple (ps.map A4))) [l]:=by
 obtain⟨its,r,p,_⟩:=I.list hl;obtain rfl:=vals_refs r;obtain⟨o,ho,hc,n,hd⟩:=p.isList;exact .list ho hc hd (by simpa using zhv I h)
theorem zd8 (ps:List Int):PyData.canLay0 (.tuple (ps.map A4))=true:=by simp[PyData.canLay0,PySem.W.ke_canLayAll0]
theorem zfs (ps:List Int):PyData.depth (.tuple (ps.map A4))=1:=by simp[PyData.depth,PySem.W.ke_depthAll]
theorem zbT (ps:List Int):SeqAt.shaped (.tuple (ps.map A4))=true:=by
 simp[SeqAt.shaped,zd8,zfs]
theorem zei:∀pss:List (List Int),PyData.canLayAll0 (pss.map fun ps=>PyData.tuple (ps.map A4))=true
 | []=>rfl
 | ps::r=>by rw[AK,PyData.canLayAll0,zd8,zei r]; rfl
theorem zfp:∀pss:List (List Int),PyData.depthAll (pss.map fun ps=>PyData.tuple (ps.map A4))<=1
 | []=>AV _
 | ps::r=>by rw[AK,PyData.depthAll,zfs]; exact Nat.max_le.mpr ⟨Af _,zfp r⟩
theorem za7 (pss:List (List Int)):SeqAt.shaped (.list (pss.map fun ps=>PyData.tuple (ps.map A4)))=true:=by
 have:=zfp pss;have e:PyData.depth (.list (pss.map fun ps=>PyData.tuple (ps.map A4)))<=64:=by rw[PyData.depth]; omega
 unfold SeqAt.shaped;rw[decide_eq_true e,PyData.canLay0,zei]
 rfl
theorem zdp:∀pss qss:List (List Int),sameAll (pss.map fun ps=>PyData.tuple (ps.map A4)) (qss.map fun ps=>PyData.tuple (ps.map A4))=decide (pss=qss)
 | [],[]=>by simp[sameAll]
 | [],_::_=>by simp[sameAll]
 | _::_,[]=>by simp[sameAll]
 | a::r,b::t=>by
  simp only[AK,sameAll,same,PySem.W.ke_sameAll,zdp r t]
  by_cases h:a=b <;> by_cases h':r=t <;> simp[h,h']
theorem zfX (ps:List Int):(Shape.tuples .int).has (.tuple (ps.map A4))=true:=by simp[Shape.has]
theorem zc2 (pss:List (List Int)):(Shape.list (.tuples .int)).has (.list (pss.map fun ps=>PyData.tuple (ps.map A4)))=true:=by simp[Shape.has]
def rEqT (neg:Bool) (K:Ae):R2:=fun x y H Q=>(∃a b ps qs,x=.ref a/\y=.ref b/\Tp H a ps/\Tp H b qs/\Q (.bl (if neg then !decide (ps=qs) else decide (ps=qs))) H) \/
 (∃l m as bs pss qss,x=.ref l/\y=.ref m/\SqL K H l (as.map V.ref)/\Tps H as pss/\SqL K H m (bs.map V.ref)/\Tps H bs qss/\Q (.bl (if neg then !decide (pss=qss) else decide (pss=qss))) H)
theorem zj4 (hu:X.A.units+64<cLine):OpR X (compareOp .Eq) (rEqT false X.K):=by
 intro pins s σ H x y v u Q I rx ry h;rcases h with ⟨a,b,ps,qs,rfl,rfl,ha,hb,q⟩ | ⟨l,m,as,bs,pss,qss,rfl,rfl,hl,hp,hm,hq,q⟩
 ·cases rx
  cases ry;refine eq_dataH_same (zbM I ha) (zbM I hb) (zbT _) (zbT _) hu (SeqAt.noMix_of_shape (.tuples .int) rfl _ _ (zfX _) (zfX _)) ?_;rw[show same (.tuple (ps.map A4)) (.tuple (qs.map A4))=decide (ps=qs) from by simp only[same]; exact PySem.W.ke_sameAll ps qs];exact⟨.bl _,H,I,rfl,q⟩
 ·cases rx
  cases ry;refine eq_dataH_same (zbh I hl hp) (zbh I hm hq) (za7 _) (za7 _) hu (SeqAt.noMix_of_shape (.list (.tuples .int)) rfl _ _ (zc2 _) (zc2 _)) ?_;rw[show same (.list (pss.map fun ps=>PyData.tuple (ps.map A4))) (.list (qss.map fun ps=>PyData.tuple (ps.map A4)))=decide (pss=qss) from by simp only[same]; exact zdp pss qss];exact⟨.bl _,H,I,rfl,q⟩
theorem zlV (hu:X.A.units+64<cLine):OpR X (compareOp .NotEq) (rEqT true X.K):=by
 intro pins s σ H x y v u Q I rx ry h;rcases h with ⟨a,b,ps,qs,rfl,rfl,ha,hb,q⟩ | ⟨l,m,as,bs,pss,qss,rfl,rfl,hl,hp,hm,hq,q⟩
 ·cases rx
  cases ry;refine ne_dataH_same (zbM I ha) (zbM I hb) (zbT _) (zbT _) hu (SeqAt.noMix_of_shape (.tuples .int) rfl _ _ (zfX _) (zfX _)) ?_;rw[show same (.tuple (ps.map A4)) (.tuple (qs.map A4))=decide (ps=qs) from by simp only[same]; exact PySem.W.ke_sameAll ps qs];exact⟨.bl _,H,I,rfl,q⟩
 ·cases rx
  cases ry;refine ne_dataH_same (zbh I hl hp) (zbh I hm hq) (za7 _) (za7 _) hu (SeqAt.noMix_of_shape (.list (.tuples .int)) rfl _ _ (zc2 _) (zc2 _)) ?_;rw[show same (.list (pss.map fun ps=>PyData.tuple (ps.map A4))) (.list (qss.map fun ps=>PyData.tuple (ps.map A4)))=decide (pss=qss) from by simp only[same]; exact zdp pss qss];exact⟨.bl _,H,I,rfl,q⟩
def zkn:V->List V->Hp->VK->Prop:=fun x vs H Q=>∃l xs i y,x=.ref l/\vs=[.int i,y]/\H l=some (.lst xs)/\0<=i/\i<=xs.length/\xs.length<sizeLine/\Q .non (upd H l (.lst (xs.take i.toNat++y::xs.drop i.toNat)))
theorem zgG:MtM X "list.insert" zkn:=by
 intro pins s σ H x vs v us Q I rx rv h;obtain⟨l,xs,i,y,rfl,rfl,hH,h0,hi,hz,q⟩:=h;cases rx;obtain⟨u,u',rfl,ru,ru'⟩:=rv.two;obtain⟨t,rfl⟩:=ru;obtain⟨z,its,n,r,hl,e⟩:=I.lstM hH;have hzl:sizeLine<2 ^ 62:=by rw[sizeLine_eq]; decide
 have hf:Builtin.List.listFitsIndex i=true:=by
  unfold Builtin.List.listFitsIndex;simp only[AN,decide_eq_true_eq];constructor <;> omega
 refine call_meets F.slot_list_insert ⟨_,e,rfl⟩ F.entry_list_insert (F.args_list_insert_3 _ _ _) (PySem.AutoSeq1.list_insert_list_int_val_1 l its.toArray n i t u' (by simp[hf]) (by rw[Ai]; omega)) ⟨e,?_⟩;refine⟨.non,_,I.lset (its':=its.take i.toNat++u'::its.drop i.toNat) (t':=s.toks) hH e ?_ ((r.take _).append (.cons ru' (r.drop _))) ?_,rfl,q⟩
 ·have hk:(if i<0 then (i+(its.toArray.size:Int)).toNat else min i.toNat its.toArray.size)=i.toNat:=by
   rw[if_neg (by omega),Ai];omega
  dsimp only;rw[hk];simp;exact Ay (by rw[List.length_drop]; exact Af _)
 ·rw[At,As,AS,List.length_drop]
  omega
theorem zdG:zat X (.type "int") (fun xs H Q=>∃x n,xs=[.str x]/\PySem.intText? x=some n/\x.length<=640/\Q (.int n) H):=by
 intro pins s σ H xs us Q I r h;obtain⟨x,n,rfl,hn,hl,q⟩:=h;obtain⟨u,rfl,t,rfl⟩:=vals1 r;exact PySem.W.KIN.call_text hn hl ⟨.int n,H,I.tok _,⟨_,rfl⟩,q⟩
theorem zdE:zat X (.builtin "isinstance") (fun xs H Q=>∃b,xs=[.bl b,.ty "bool"]/\Q (.bl true) H):=by
 intro pins s σ H xs us Q I r h;obtain⟨b,rfl,q⟩:=h;obtain⟨u,u',rfl,ru,ru'⟩:=vals2 r;cases ru;cases ru';exact call_isinstance_yes (Tx:="bool") (T:="bool") rfl (by first | rfl | kernel_rfl | (rw[typeOf]; kernel_rfl)) (by rw[isSubtype_type]; kernel_rfl) ⟨.bl true,H,I,rfl,q⟩
end
end L2
end
section
namespace L2
open PySem PySem.Spec PyProof.Rows
section
variable {X:Cx}{pins:List (Addr×Obj)}{σ:St}{H:Hp}{s:Shared}
theorem zdU {A:Around} (h:A.units+64<cLine):A.in1.in1.units<cLine:=by show A.units+1+1<cLine; omega
theorem in1_units {A:Around} (h:A.units+64<cLine):A.in1.units<cLine:=by show A.units+1<cLine; omega
theorem zaW:zat X (.builtin "sorted") (fun xs H Q=>∃(l:Addr) (ns:List Int),xs=[.ref l]/\SqL X.K H l (ns.map V.int)/\ns.length<64/\∀(D:Addr) (ms:List Int),ms.Perm ns->ms.Pairwise (·<=·)->H D=none->Q (.ref D) (upd H D (.lst (ms.map V.int)))):=by
 intro pins s σ H xs us Q I r h;obtain⟨l,ns,rfl,hq,h64,q⟩:=h;obtain⟨u,rfl,ru⟩:=vals1 r;cases ru;obtain⟨its,r1,p1,hz⟩:=I.list hq;have hi:IntsAre its ns:=intsAre_of r1;have hlen:=r1.length;rw[Ab] at hlen hz;refine Srt.zd4 (ls:=ns.map fun n=>[n]) (good:=fun _=>True) p1.isList (Srt.zeP hi) (fun _ _=>trivial) (by omega) (by omega) fun out ho=>?_;obtain⟨ps,hp,ho,hs⟩:=ho;have all:∀p∈ps,∃n t,p.1=[n]/\p.2=Value.int n t:=fun p hp'=>by
  obtain⟨i,e⟩:=List.mem_iff_getElem?.mp (hp.mem_iff.mp hp');rw[Srt.zipget,Ap] at e;cases e1:ns[i]? with
  | none=>rw[e1] at e; simp at e
  | some n=>
   obtain⟨t,e2⟩:=hi.get i n e1;rw[e1,e2] at e;simp only[Option.map_some,Option.bind_some,Option.some.injEq] at e;subst e;exact⟨n,t,rfl,rfl⟩
 have vv:∀ps:List (List Int×Value),(∀p∈ps,∃n t,p.1=[n]/\p.2=Value.int n t)->Vals ((ps.map fun p=>p.1.headD 0).map V.int) (ps.map (·.2)):=by
  intro ps
  induction ps with
  | nil=>intro _; exact .nil
  | cons p ps ih=>
   intro h;obtain⟨n,t,e1,e2⟩:=h p AB;refine .cons ?_ (ih fun q hq=>h q (Ax _ hq));show RelV (V.int (p.1.headD 0)) p.2;rw[e1,e2];exact⟨t,rfl⟩
 have pm:(ps.map fun p=>p.1.headD 0).Perm ns:=by
  have h1:=hp.map (fun p:List Int×Value=>p.1.headD 0);have e:((ns.map fun n=>[n]).zip its).map (fun p:List Int×Value=>p.1.headD 0)=ns:=by
   rw[show (fun p:List Int×Value=>p.1.headD 0)=(fun l:List Int=>l.headD 0) ∘ Prod.fst from rfl,<- Aw,List.map_fst_zip (by rw[Ab]; omega),Aw];exact List.map_id' ns
  rw[e] at h1;exact h1
 have pw:(ps.map fun p=>p.1.headD 0).Pairwise (·<=·):=by
  rw[Bf];refine hs.imp_of_mem fun {p q} h1 h2 h3=>?_;obtain⟨n,t,e1,_⟩:=all p h1;obtain⟨m,t',e2,_⟩:=all q h2;rw[e1,e2,HT.zE] at h3;rw[e1,e2];show n<=m
  by_cases e:m=n
  ·omega
  ·rw[if_neg e] at h3
   have:=of_decide_eq_false h3;omega
 obtain⟨e,he⟩:=sortedAll_at s.heap its out;refine⟨.ref (s.heap.objs.size+1),_,I.laid (t':=s.toks) (fun _ _=>sortedAll_old) (Nat.le_succ _) (show zF X.prog X.w _ _ _ (.lst ((ps.map fun p=>p.1.headD 0).map V.int)) from ⟨?_,out.toList,e,?_,?_⟩),rfl,q _ _ pm pw (I.hok.fresh (Nat.le_succ _))⟩
 ·rw[Ab,pm.length_eq]; exact hz
 ·rw[ho]; exact vv ps all
 ·simpa using he
def PrAt (H:Hp) (p:Addr) (l:List Int):Prop:=∃n b ps,l=n::ps/\H p=some (.tup [.int n,.ref b])/\Tp H b ps
theorem zmu {p:Addr}{l:List Int} (I:Inv X pins σ H s) (h:PrAt H p l):Srt.IsPr s.heap (.ref p) l:=by
 obtain⟨n,b,ps,rfl,h1,h2⟩:=h;obtain⟨its,r1,p1,_⟩:=I.tuple (SqT.of (K:=X.K) h1);obtain⟨u,u',rfl,⟨t,rfl⟩,ru'⟩:=vals2 r1;cases ru';obtain⟨its2,r2,p2,_⟩:=I.tuple (SqT.of (K:=X.K) h2);exact⟨p,b,n,t,its2,ps,rfl,rfl,p1,p2,intsAre_of r2⟩
theorem zkt {h h':Heap}{u:Value}{l:List Int} (k:∀b o,h.get? b=some o->h'.get? b=some o) (x:Srt.IsPr h u l):Srt.IsPr h' u l:=by
 obtain⟨a,b,n,t,its,ps,e1,e2,⟨o,ho,hc⟩,⟨o',ho',hc'⟩,i⟩:=x;exact⟨a,b,n,t,its,ps,e1,e2,⟨o,k _ _ ho,hc⟩,⟨o',k _ _ ho',hc'⟩,i⟩
theorem zbf {α β:Type}{R:α->β->Prop}{l:List α}{m:List β} (p:Paired R l m):∀(i:Nat) x y,l[i]?=some x->m[i]?=some y->R x y:=by
 induction p with
 | nil=>intro i x y h; simp at h
 | cons r t ih=>
  intro i x y h1 h2;cases i with
  | zero=>simp at h1 h2; subst h1 h2; exact r
  | succ i=>exact ih i x y (by simpa using h1) (by simpa using h2)
def addrOf:Value->Addr
 | .ref a=>a
 | _=>0
theorem zcx (hu:X.A.units+64<cLine):zat X (.builtin "sorted") (fun xs H Q=>∃(l:Addr) (as:List Addr) (ls:List (List Int)),xs=[.ref l]/\SqL X.K H l (as.map V.ref)/\Paired (PrAt H) as ls/\ls.length<64/\
  ∀(D:Addr) (qs:List (List Int×Addr)),qs.Perm (ls.zip as)->qs.Pairwise (fun a b=>HT.lexLt b.1 a.1=false)->H D=none->Q (.ref D) (upd H D (.lst (qs.map fun q=>V.ref q.2)))):=by
 intro pins s σ H xs us Q I r h;obtain⟨l,as,ls,rfl,hq,hp,h64,q⟩:=h;obtain⟨u,rfl,ru⟩:=vals1 r;cases ru;obtain⟨its,r1,p1,hz⟩:=I.list hq;have hlen:=r1.length;obtain rfl:=vals_refs r1;rw[Ab] at hlen hz;have hla:=Paired.length hp;have hpr:∀h:Heap,(∀b o,s.heap.get? b=some o->h.get? b=some o)->∀(i:Nat) u l,(as.map Value.ref)[i]?=some u->ls[i]?=some l->Srt.IsPr h u l:=fun h hk i u l h1 h2=>by
  rw[Ap] at h1;cases e:as[i]? with
  | none=>rw[e] at h1; simp at h1
  | some a=>
   rw[e] at h1;obtain rfl:=Ao h1;exact zkt hk (zmu I (zbf hp i a l e h2))
 refine Srt.zd4 (ls:=ls) (good:=fun h=>∀b o,s.heap.get? b=some o->h.get? b=some o) p1.isList (Srt.zkd (by rw[Ab]; exact hla) (zdU hu) ⟨s.heap,fun _ _ e=>e⟩ hpr) (fun h' hk=>hk) (by rw[Ab]; exact hz) (by rw[Ab]; omega) fun out ho=>?_;obtain⟨ps,hpm,ho,hs⟩:=ho;have all:∀p∈ps,p.2=Value.ref (addrOf p.2):=fun p hp'=>by
  have:=(List.of_mem_zip (hpm.mem_iff.mp hp':(p.1,p.2)∈ls.zip (as.map Value.ref))).2;obtain⟨a,_,e⟩:=List.mem_map.mp this;rw[<- e]; rfl
 have pm:(ps.map fun p=>(p.1,addrOf p.2)).Perm (ls.zip as):=by
  have h1:=hpm.map (fun p:List Int×Value=>(p.1,addrOf p.2));have e:(ls.zip (as.map Value.ref)).map (fun p:List Int×Value=>(p.1,addrOf p.2))=ls.zip as:=by
   rw[List.zip_map_right,Aw];exact (List.map_congr_left fun p _=>rfl).trans (List.map_id' _)
  rw[e] at h1;exact h1
 obtain⟨e,he⟩:=sortedAll_at s.heap (as.map Value.ref) out;have ex:out.toList=((ps.map fun p=>(p.1,addrOf p.2)).map fun q=>Value.ref q.2):=by
  rw[ho,Aw];exact List.map_congr_left fun p hp'=>all p hp'
 refine⟨.ref (s.heap.objs.size+1),_,I.laid (t':=s.toks) (fun _ _=>sortedAll_old) (Nat.le_succ _) (show zF X.prog X.w _ _ _ (.lst ((ps.map fun p=>(p.1,addrOf p.2)).map fun q=>V.ref q.2)) from ⟨?_,out.toList,e,?_,?_⟩),rfl,q _ _ pm ?_ (I.hok.fresh (Nat.le_succ _))⟩
 ·rw[Ab,pm.length_eq,List.length_zip]; omega
 ·rw[ex]
  exact zfc (fun q:List Int×Addr=>q.2) _
 ·simpa using he
 ·rw[Bf]; exact hs
def ziZ:Sp:=fun vs H Q _=>∃a ps,vs=[.ref a]/\Tp H a ps/\∀p,H p=none->Q (.ref p) (upd H p (.tup [.int ps.length,.ref a]))
theorem zjF {b:Addr} (h:FpOk X pins H b):∀c∈[b],FpOk X pins H c:=fun c hc=>by rw[List.mem_singleton.mp hc]; exact h
theorem zcG {H':Hp}{b:Addr} (f:FpOk X pins H b) (hn:H' b=none):FpOk X pins H' b:=⟨hn,f.2⟩
theorem zjY {b:Addr} (I:Inv X pins σ H s) (f:FpOk X pins H b):b∉frs X.stack:=fun hb=>by
 rcases List.mem_cons.mp (I.stkSub b hb) with e | e
 ·exact f.2.1 e
 ·exact f.2.2.1 e
theorem zge {k:Nat}{f l:Addr}{fd:FuncData}{as:List Addr}{pss:List (List Int)}{x:Str}{Q:Value->Shared->Prop} (F:FnOk X.prog X.w X.K X.mg X.base CX0 k f fd [x] ziZ) (hr:Room (k+2) X.A) (hb:Binds X.K fd [x] [])
  (I:Inv X pins σ H s) (hl:SqL X.K H l (as.map V.ref)) (ht:Tps H as pss) (h64:pss.length<64)
  (h:∀D H' (qs:List (List Int×Addr)) s',Inv X pins σ H' s'->Same H H'->H D=none->H' D=some (.lst (qs.map fun q=>V.ref q.2))->qs.Perm (pss.zip as)->
   qs.Pairwise (fun a b=>HT.lexLt ((b.1.length:Int)::b.1) ((a.1.length:Int)::a.1)=false)->Q (.ref D) s') :
  wpAny (model X.prog X.w) X.A (call (.builtin "sorted") [.ref l] [(Str.ofString "key",.ref f)]) Q X.xe s:=by
 have hu:X.A.units+64<cLine:=hr.units;obtain⟨its,r1,p1,hz⟩:=I.list hl;have hlen:=r1.length;obtain rfl:=vals_refs r1;have hla:=ht.length;rw[Ab] at hlen hz;have hzm:(as.map Value.ref).length<=sizeLine:=by rw[Ab]; exact hz
 generalize hvs:as.map Value.ref=vs at p1 hzm;have hvl:vs.length=as.length:=by rw[<- hvs,Ab]
 refine call_function_entry_kw kind_sorted plain_sorted entry_sorted (ksk_s1 _ _) ?_;unfold Builtin.«sorted»;refine Aa (m:=checkCount "sorted" 1 1 _) (Ac ?_);refine Aa (collect_list p1.isList ?_ hzm);refine Aa (wpAny_newList ?_ hzm);have hsz:((s.heap.push (seqObj "list" #[] 0)).update s.heap.objs.size (AI (·++vs.toArray))).objs.size=s.heap.objs.size+1:=by
  rw[Bb,size_push']
 have hoL:(((s.heap.push (seqObj "list" #[] 0)).update s.heap.objs.size (AI (·++vs.toArray))).push (seqObj "list" vs.toArray 0)).get? (s.heap.objs.size+1)=some (seqObj "list" vs.toArray 0):=by
  rw[<- hsz]; exact Al _ rfl
 have keep:∀b o,s.heap.get? b=some o->(((s.heap.push (seqObj "list" #[] 0)).update s.heap.objs.size (AI (·++vs.toArray))).push (seqObj "list" vs.toArray 0)).get? b=some o:=fun b o q=>by
  have hlt:b<s.heap.objs.size:=Ah q;rw[Heap.get?_push_ne _ _ _ (by rw[hsz]; exact An (AL hlt)),Heap.get?_update_ne _ _ _ _ (An hlt),Heap.get?_push_ne _ _ _ (An hlt)];exact q
 show wpAny _ _ _ _ _ { s with heap:=((s.heap.push (seqObj "list" #[] 0)).update s.heap.objs.size (AI (·++vs.toArray))).push (seqObj "list" vs.toArray 0) };rw[hsz];generalize hA:((s.heap.push (seqObj "list" #[] 0)).update s.heap.objs.size (AI (·++vs.toArray))).push (seqObj "list" vs.toArray 0)=hpA at hoL keep ⊢;have I1:Inv X pins σ H { s with heap:=hpA }:=I.kept (t':=s.toks) keep;have hfD:FpOk X pins H (s.heap.objs.size+1):=I.fpOk (Nat.le_succ _) (I.hok.fresh (Nat.le_succ _));generalize hD:s.heap.objs.size+1=D at hoL hfD ⊢;have hDlt:D<hpA.objs.size:=Ah hoL;refine Aa (AJ (wpAny_call_entry_kw slot_list_sort ⟨_,hoL,rfl⟩ entry_list_sort ?body (ksk_l1 _ _)))
 case body=>
  show wpAny (model X.prog X.w) X.A.in1.in1 (Builtin.«list.sort» ⟨[.ref D],[(Str.ofString "key",.ref f)]⟩) _ _ _;rw[ksk_t1];unfold ksk_tree;refine Aa (listItems_at hoL rfl ?_);refine Aa (listUpdate_at hoL rfl ?_ (by rw[Ai]; exact hzm) (AV _));obtain⟨e1,ho1⟩:∃e1,(hpA.update D (AI fun _=>(#[]:Array Value))).get? D=some (seqObj "list" #[] e1):=⟨_,get?_update_seq hoL fun _=>#[]⟩;refine Aa (seqEpoch_at ho1 rfl ?_);refine Aa (wpAny_newTuple ?_ (by show vs.length<=_; exact hzm));refine Aa (wpAny_newList ?_ (AV _));refine AJ ?_;have I2:Inv X pins σ H { s with heap:=hpA.update D (AI fun _=>(#[]:Array Value)) }:=
   Inv.turneds (s:={ s with heap:=hpA }) (t':=s.toks) (ch:=[D]) I1 (zjF hfD) fun b o hb q=>by rw[Heap.get?_update_ne _ _ _ _ (fun z=>hb (by simp[z]))]; exact q
  have I3:Inv X pins σ H { s with heap:=((hpA.update D (AI fun _=>(#[]:Array Value))).push (seqObj "tuple" vs.toArray 0)) }:=I2.kept (t':=s.toks) fun b u q=>Ad _ q;have hfK:FpOk X pins H ((hpA.update D (AI fun _=>(#[]:Array Value))).push (seqObj "tuple" vs.toArray 0)).objs.size:=I3.fpOk (Af _) (I3.hok.fresh (Af _));have hKD:((hpA.update D (AI fun _=>(#[]:Array Value))).push (seqObj "tuple" vs.toArray 0)).objs.size≠D:=by
   rw[size_push',Bb]; omega
  have I4:Inv X pins σ H { s with heap:=(((hpA.update D (AI fun _=>(#[]:Array Value))).push (seqObj "tuple" vs.toArray 0)).push (seqObj "list" #[] 0)) }:=I3.kept (t':=s.toks) fun b u q=>Ad _ q;have hK4:(((hpA.update D (AI fun _=>(#[]:Array Value))).push (seqObj "tuple" vs.toArray 0)).push (seqObj "list" #[] 0)).get? ((hpA.update D (AI fun _=>(#[]:Array Value))).push (seqObj "tuple" vs.toArray 0)).objs.size=some (seqObj "list" #[] 0):=Al _ rfl;have hD4:(((hpA.update D (AI fun _=>(#[]:Array Value))).push (seqObj "tuple" vs.toArray 0)).push (seqObj "list" #[] 0)).get? D=some (seqObj "list" #[] e1):=Ad _ (Ad _ ho1);show wpAny (model X.prog X.w) X.A.in1.in1 (ksk_rest D (.ref f) false vs.toArray e1 (.ref ((hpA.update D (AI fun _=>(#[]:Array Value))).push (seqObj "tuple" vs.toArray 0)).objs.size)) _ _ { s with heap:=((hpA.update D (AI fun _=>(#[]:Array Value))).push (seqObj "tuple" vs.toArray 0)).push (seqObj "list" #[] 0) };generalize ((hpA.update D (AI fun _=>(#[]:Array Value))).push (seqObj "tuple" vs.toArray 0)).objs.size=kS at *;generalize ((hpA.update D (AI fun _=>(#[]:Array Value))).push (seqObj "tuple" vs.toArray 0)).push (seqObj "list" #[] 0)=hp4 at *;unfold ksk_rest;refine Aa (wpAny_rule ?_)
  first
   | rw[List.forIn_toArray]
   | (rw[<- Array.forIn_toList]; simp only[List.toList_toArray])
  refine Aa (ksk_fold (fun i s'=>∃Hk kA e ks,Inv X pins σ Hk s'/\Same H Hk/\Hk D=none/\Hk kS=none/\s'.heap.get? kS=some (seqObj "list" kA e)/\s'.heap.get? D=some (seqObj "list" #[] e1)/\kA.toList=ks.map Value.ref/\ks.length=i/\
    ∀(j:Nat) p,ks[j]?=some p->∃a ps,as[j]?=some a/\pss[j]?=some ps/\Hk p=some (.tup [.int ps.length,.ref a])) vs 0 _
   ⟨H,#[],0,[],I4,Same.refl H,hfD.1,hfK.1,hK4,hD4,rfl,rfl,fun j p e=>by simp at e⟩ ?step ?done)
  case step=>
   rintro j v s' hv ⟨Hk,kA,e,ks,Ik,sk,hkD,hkK,nk,na,ekA,hj,hks⟩;simp only[Nat.zero_add] at hj ⊢;have hjl:j<as.length:=by rw[<- hvl]; exact (List.getElem?_eq_some_iff.mp hv).1
   have ea:as[j]?=some as[j]:=Ag hjl;obtain⟨ps,eps,hps⟩:=ht.get ea;have ev:v=.ref as[j]:=by
    rw[<- hvs,Ap,ea] at hv;exact (Ao hv).symm
   subst ev;refine Aa (wpAny_attempt (wpAny_call (codeAny_mono (F.run X.A.in1.in1 X.stack s' Hk ⟨[.ref as[j]],[]⟩ [.ref as[j]] [.ref as[j]] (fun v H'=>∃p,v=.ref p/\Hk p=none/\H'=upd Hk p (.tup [.int ps.length,.ref as[j]])) E0
    (Room.in1 (Room.in1 hr)) Ik.env0.in1.in1 (hb s' [.ref as[j]] Ik.kIn rfl) (.cons rfl .nil) ⟨as[j],ps,rfl,sk.tp hps,fun p hp=>⟨p,rfl,hp,rfl⟩⟩) fun r s'' hq=>?_)))
   cases r with
   | error e=>exact False.elim hq
   | ok fl=>
    cases fl with
    | next=>exact False.elim hq
    | brk=>exact False.elim hq
    | cont=>exact False.elim hq
    | ret u=>
     obtain⟨v,H',os,bare,un,hok,ru,p,rfl,hp,rfl⟩:=hq;cases ru;have I5:Inv X pins σ (upd Hk p (.tup [.int ps.length,.ref as[j]])) s'':=Ik.call' os un hok bare (fun b z=>nomatch z);have fD:=zcG hfD hkD;have fK:=zcG hfK hkK;have na':=un.keep D _ na hkD (zjY Ik fD) (by simp);have nk':=un.keep kS _ nk hkK (zjY Ik fK) (by simp);have hD':=un.free D _ na hkD (by simp);have hK':=un.free kS _ nk hkK (by simp)
     try dsimp only
     have hkz:kA.size=j:=by rw[<- Az,ekA,Ab,hj]
     obtain⟨c2,hc2⟩:∃c2,(s''.heap.update kS (AI (·.push (.ref p)))).get? kS=some (seqObj "list" (kA.push (.ref p)) c2):=⟨_,get?_update_seq nk' (·.push (.ref p))⟩;have s1:=AZ s''.heap kS (AI (·.push (.ref p)));have fK':=zcG hfK hK';have I6:Inv X pins σ (upd Hk p (.tup [.int ps.length,.ref as[j]])) { s'' with heap:=s''.heap.update kS (AI (·.push (.ref p))) }:=
      I5.turneds (t':=s''.toks) (ch:=[kS]) (zjF fK') fun b o hb q=>(s1.2 b (fun z=>hb (by simp[z]))).trans q
     refine Aa (listUpdate_at nk' rfl ?_ (by omega) (AF (Nat.le_of_eq (Array.size_push ..)) (by omega)));refine Ac ⟨rfl,_,kA.push (.ref p),c2,ks++[p],I6,sk.then (by exact sk.free hp),hD',hK',hc2,(s1.2 D hKD.symm).trans na',by rw[Array.toList_push,ekA,Ak]; rfl,by rw[At,hj]; rfl,fun i p' e'=>?_⟩
     by_cases hi:i<ks.length
     ·rw[List.getElem?_append_left hi] at e'
      obtain⟨a,ps',x1,x2,x3⟩:=hks i p' e';exact⟨a,ps',x1,x2,by rw[zk (zg x3 hp)]; exact x3⟩
     ·rw[List.getElem?_append_right (by omega)] at e'
      have h0:i - ks.length=0:=by
       rcases Nat.eq_zero_or_pos (i - ks.length) with z | z
       ·exact z
       ·rw[List.getElem?_eq_none (by simp only[As,List.length_nil]; omega)] at e'; cases e'
      rw[h0] at e';obtain rfl:p=p':=by simpa using e'
      have hij:i=j:=by omega
      subst hij;exact⟨_,ps,ea,eps,upd_same⟩
  case done=>
   rintro s' ⟨Hk,kA,e,ks,Ik,sk,hkD,hkK,nk,na,ekA,hj,hks⟩;simp only[Nat.zero_add] at hj
   try dsimp only
   refine Aa (listItems_at nk rfl ?_);unfold ksk_end
   try dsimp only
   simp only[Aj,if_false];have ekl:kA=(ks.map Value.ref).toArray:=by rw[<- ekA,Array.toArray_toList]
   subst ekl;have hpr:∀(i:Nat) u l,(ks.map Value.ref)[i]?=some u->(pss.map fun ps=>(ps.length:Int)::ps)[i]?=some l->Srt.IsPr s'.heap u l:=fun i u l h1 h2=>by
    rw[Ap] at h1 h2;cases ek:ks[i]? with
    | none=>rw[ek] at h1; simp at h1
    | some p=>
     obtain⟨a,ps,x1,x2,x3⟩:=hks i p ek;rw[ek] at h1;rw[x2] at h2;obtain rfl:=Ao h1;obtain rfl:=Ao h2;obtain⟨ps',y1,y2⟩:=ht.get x1;rw[x2] at y1;obtain rfl:=Ao y1;exact zmu Ik ⟨_,a,ps,rfl,x3,sk.tp y2⟩
   refine Srt.zfy (us:=ks.map Value.ref) (vs:=vs) (ls:=pss.map fun ps=>(ps.length:Int)::ps) (good:=fun h=>h=s'.heap) (Srt.zkd (by rw[Ab,Ab,hj,hvl]; exact hla) (zdU hu) ⟨_,rfl⟩ (by rintro h rfl; exact hpr)) (by rw[Ab,hj]) (by omega) rfl fun st' ho hst hf=>?_;refine Srt.zkq (ls:=pss.map fun ps=>(ps.length:Int)::ps) (vs:=vs) nk na hKD (by rw[Ai,Ab]; omega) ho hst hzm hf fun h' out c kk hDo hKo hOut hsz'=>⟨_,rfl,?_⟩;refine Ac ⟨_,rfl,?_⟩;obtain⟨ps,hpm,hout,hs⟩:=hOut;subst hvs;have I7:Inv X pins σ Hk { s' with heap:=h' }:=Ik.turneds (t':=s'.toks) (ch:=[kS,D]) (fun b hb=>by
     simp only[List.mem_cons,List.not_mem_nil,or_false] at hb;rcases hb with rfl | rfl
     ·exact zcG hfK hkK
     ·exact zcG hfD hkD) fun b o hb q=>kk b o (fun z=>hb (by simp[z])) (fun z=>hb (by simp[z])) q
   have all:∀p∈ps,∃a qs,p.2=Value.ref a/\p.1=((qs:List Int).length:Int)::qs:=fun p hp'=>by
    obtain⟨h1,h2⟩:=List.of_mem_zip (hpm.mem_iff.mp hp':(p.1,p.2)∈_);obtain⟨a,_,ea⟩:=List.mem_map.mp h2;obtain⟨qs,_,eq⟩:=List.mem_map.mp h1;exact⟨a,qs,ea.symm,eq.symm⟩
   have pm:(ps.map fun p=>(p.1.tail,addrOf p.2)).Perm (pss.zip as):=by
    have h1:=hpm.map (fun p:List Int×Value=>(p.1.tail,addrOf p.2));have e:((pss.map fun ps=>(ps.length:Int)::ps).zip (as.map Value.ref)).map (fun p:List Int×Value=>(p.1.tail,addrOf p.2))=pss.zip as:=by
     rw[List.zip_map,Aw];exact (List.map_congr_left fun p _=>rfl).trans (List.map_id' _)
    rw[e] at h1;exact h1
   have ex:out.toList=((ps.map fun p=>(p.1.tail,addrOf p.2)).map fun q=>Value.ref q.2):=by
    rw[hout,Aw];refine List.map_congr_left fun p hp'=>?_;obtain⟨a,qs,e1,_⟩:=all p hp';show p.2=Value.ref (addrOf p.2);rw[e1]; rfl
   have vv:Vals ((ps.map fun p=>(p.1.tail,addrOf p.2)).map fun q=>V.ref q.2) out.toList:=by
    rw[ex];exact zfc (fun q:List Int×Addr=>q.2) _
   obtain⟨f0,f1,f2,f3,f4,f5⟩:=hfD;have hDs:X.s₀.heap.objs.size<=D:=by rw[<- hD]; exact AF I.sz (Nat.le_succ _)
   have I8:Inv X pins σ (upd Hk D (.lst ((ps.map fun p=>(p.1.tail,addrOf p.2)).map fun q=>V.ref q.2))) { s' with heap:=h' }:=by
    refine I7.adopt hkD hDs f1 f4 f5 ⟨?_,out.toList,c,vv,?_⟩
    ·rw[Ab,pm.length_eq,List.length_zip]; omega
    ·simpa using hDo
   refine h D _ _ _ I8 (sk.then f0) f0 upd_same pm ?_;rw[Bf];refine hs.imp_of_mem fun {p q} h1 h2 h3=>?_;obtain⟨_,qs,_,e1⟩:=all p h1;obtain⟨_,qs',_,e2⟩:=all q h2;rw[e1,e2] at h3;rw[e1,e2];exact h3
end
section
variable {X:Cx}{a:Expr}{ta:TA}{p p2 pos kpos:Pos}{k:Nat}{f:Addr}{fd:FuncData}{x y:Str}
def zmc (K:Ae) (ta:TA):TE:=fun σ H Q=>ta σ H fun vs H1=>∃(l:Addr) (as:List Addr) (pss:List (List Int)),vs=[.ref l]/\SqL K H1 l (as.map V.ref)/\Tps H1 as pss/\pss.length<64/\
 ∀D H2 (qs:List (List Int×Addr)),Same H1 H2->H1 D=none->H2 D=some (.lst (qs.map fun q=>V.ref q.2))->qs.Perm (pss.zip as)->qs.Pairwise (fun a b=>HT.lexLt ((b.1.length:Int)::b.1) ((a.1.length:Int)::a.1)=false)->Q (.ref D) H2
theorem zgp (F:FnOk X.prog X.w X.K X.mg X.base CX0 k f fd [x] ziZ) (hr:Room (k+2) X.A) (hb:Binds X.K fd [x] []) (hg:Gl X "sorted") (hm:X.mg "sorted"=none) (hv:A5 "sorted"=some (.builtin "sorted")) (hgf:Gl X y) (hmf:X.mg y=some (.ref f)) (ha:PA X [a] ta)
  (hdb:(y == ("__debug__":Str))=false:=by decide) (he:starEach [a] X.env=[(false,eval a X.env)]:=by rfl) :
  PE X (.Call (.Name "sorted" p) [a] [⟨some "key",.Name y p2,kpos⟩] pos) (zmc X.K ta):=by
 intro pins s σ H Q I h;refine wpAny_Call_Name_kw (zcr I hg hm hv ?_);refine callWith_kw ?_ (by rw[he]; rfl) (by rw[he]; rfl) rfl rfl;refine thn (ha pos pins s σ H _ I h) fun us s1 ⟨vs,H1,I1,r1,q1⟩=>?_;obtain⟨l,as,pss,rfl,hl,ht,h64,q⟩:=q1;obtain⟨u,rfl,ru⟩:=vals1 r1;cases ru;refine kws_cons (zcv I1 hgf hmf (kws_nil ?_) hdb);show wpAny (model X.prog X.w) X.A (call (.builtin "sorted") [.ref l] [(Str.ofString "key",.ref f)]) _ _ s1;exact zge F hr hb I1 hl ht h64 fun D H' qs s' I' sm hD hD' hp hs=>⟨.ref D,H',I',rfl,q D H' qs sm hD hD' hp hs⟩
end
end L2
end
section
namespace STb
open PySem PySem.SetTable
def Ris (xs:Array Nat):Prop:=∀(i j a b:Nat),xs[i]?=some a->xs[j]?=some b->i<j->a<b
theorem Ris.inj {xs:Array Nat} (h:Ris xs) {i j a:Nat} (h1:xs[i]?=some a) (h2:xs[j]?=some a):i=j:=by
 rcases Nat.lt_trichotomy i j with q | q | q
 ·exact absurd (h i j a a h1 h2 q) (Nat.lt_irrefl _)
 ·exact q
 ·exact absurd (h j i a a h2 h1 q) (Nat.lt_irrefl _)
theorem ze4 {xs:Array Nat}{j:Nat} (hr:Ris xs):∀(fuel lo hi:Nat),hi - lo<=fuel->lo<=hi->hi<=xs.size->(∀i a,xs[i]?=some a->i<lo->a<j)->(∀i a,xs[i]?=some a->hi<=i->j<=a)->
  below.go xs j fuel lo hi<=xs.size/\(∀i a,xs[i]?=some a->i<below.go xs j fuel lo hi->a<j)/\(∀i a,xs[i]?=some a->below.go xs j fuel lo hi<=i->j<=a)
 | 0,lo,hi,h0,h1,h2,h3,h4=>by
  have e:lo=hi:=by omega
  subst e;exact⟨h2,h3,h4⟩
 | fuel+1,lo,hi,h0,h1,h2,h3,h4=>by
  have eg0:below.go xs j (fuel+1) lo hi=if lo<hi then (if xs.getD ((lo+hi) / 2) j<j then below.go xs j fuel ((lo+hi) / 2+1) hi else below.go xs j fuel lo ((lo+hi) / 2)) else lo:=rfl;rw[eg0]
  by_cases hlt:lo<hi
  ·rw[if_pos hlt]
   have hm:(lo+hi) / 2<xs.size:=by omega
   have em:xs[(lo+hi) / 2]?=some xs[(lo+hi) / 2]:=getElem?_pos xs _ hm;have eg:xs.getD ((lo+hi) / 2) j=xs[(lo+hi) / 2]:=by simp[Array.getD,hm]
   rw[eg]
   by_cases hc:xs[(lo+hi) / 2]<j
   ·rw[if_pos hc]
    refine ze4 hr fuel _ _ (by omega) (by omega) h2 (fun i a e hi'=>?_) h4;rcases Nat.lt_or_eq_of_le (Nat.lt_succ_iff.mp hi') with q | q
    ·exact Nat.lt_trans (hr _ _ _ _ e em q) hc
    ·subst q; rw[em] at e; cases e; exact hc
   ·rw[if_neg hc]
    refine ze4 hr fuel _ _ (by omega) (by omega) (by omega) h3 (fun i a e hi'=>?_);rcases Nat.lt_or_eq_of_le hi' with q | q
    ·have:=hr _ _ _ _ em e q
     omega
    ·subst q; rw[em] at e; cases e; omega
  ·rw[if_neg hlt]
   have e:lo=hi:=by omega
   subst e;exact⟨h2,h3,h4⟩
theorem zaM {xs:Array Nat} (hr:Ris xs) (j:Nat):below xs j<=xs.size/\(∀i a,xs[i]?=some a->i<below xs j->a<j)/\(∀i a,xs[i]?=some a->below xs j<=i->j<=a):=
 ze4 hr xs.size 0 xs.size (by omega) (by omega) (Af _) (fun _ _ _ h=>absurd h (Nat.not_lt_zero _)) (fun i a e h=>by have:=(Array.getElem?_eq_some_iff.mp e).1; omega)
theorem below_at {xs:Array Nat} (hr:Ris xs) {i j:Nat} (e:xs[i]?=some j):below xs j=i:=by
 obtain⟨h1,h2,h3⟩:=zaM hr j;rcases Nat.lt_trichotomy (below xs j) i with q | q | q
 ·have hb:below xs j<xs.size:=Nat.lt_trans q (Array.getElem?_eq_some_iff.mp e).1
  have e2:=getElem?_pos xs (below xs j) hb;have a1:=h3 _ _ e2 (Af _);have a2:=hr _ _ _ _ e2 e q;omega
 ·exact q
 ·exact absurd (h2 i j e q) (Nat.lt_irrefl _)
theorem zag {α:Type} (xs:Array α) (p:Nat) (x:α) (hp:p<=xs.size) (i:Nat):(insertAt xs p x)[i]?=if i<p then xs[i]? else if i=p then some x else xs[i - 1]?:=by
 unfold insertAt;have hs:((xs.extract 0 p).push x).size=p+1:=by rw[Array.size_push,Array.size_extract]; omega
 by_cases h1:i<p
 ·rw[if_pos h1,Array.getElem?_append_left (by omega),Array.getElem?_push_lt (by rw[Array.size_extract]; omega)]
  simp[Array.getElem_extract,h1]
 ·rw[if_neg h1]
  by_cases h2:i=p
  ·subst h2
   rw[if_pos rfl,Array.getElem?_append_left (by omega)];have e:(xs.extract 0 i).size=i:=by rw[Array.size_extract]; omega
   have:=Array.getElem?_push_size (xs:=xs.extract 0 i) (x:=x);rw[e] at this;exact this
  ·rw[if_neg h2,Array.getElem?_append_right (by omega),hs,Array.getElem?_extract]
   by_cases h3:i - (p+1)<xs.size - p
   ·rw[if_pos (by omega)]
    congr 1
    omega
   ·rw[if_neg (by omega)]
    exact (Array.getElem?_eq_none (by omega)).symm
theorem zbO {α:Type} (xs:Array α) (p:Nat) (x:α) (hp:p<=xs.size):(insertAt xs p x).size=xs.size+1:=by
 unfold insertAt;rw[Array.size_append,Array.size_push,Array.size_extract,Array.size_extract];omega
theorem zkC {xs:Array Nat} (hr:Ris xs) {j:Nat} (hn:∀i:Nat,xs[i]?≠some j):Ris (insertAt xs (below xs j) j):=by
 obtain⟨h1,h2,h3⟩:=zaM hr j;intro a b x y ea eb hab;rw[zag _ _ _ h1] at ea eb
 by_cases a1:a<below xs j
 ·rw[if_pos a1] at ea
  by_cases b1:b<below xs j
  ·rw[if_pos b1] at eb; exact hr _ _ _ _ ea eb hab
  ·rw[if_neg b1] at eb
   by_cases b2:b=below xs j
   ·rw[if_pos b2] at eb; cases eb; exact h2 _ _ ea a1
   ·rw[if_neg b2] at eb; exact hr _ _ _ _ ea eb (by omega)
 ·rw[if_neg a1] at ea
  rw[if_neg (by omega)] at eb
  by_cases a2:a=below xs j
  ·rw[if_pos a2] at ea; cases ea
   rw[if_neg (by omega)] at eb;have:=h3 _ _ eb (by omega);rcases Nat.lt_or_eq_of_le this with q | q
   ·exact q
   ·subst q; exact absurd eb (hn _)
  ·rw[if_neg a2] at ea
   rw[if_neg (by omega)] at eb;exact hr _ _ _ _ ea eb (by omega)
def nxt (mask:Nat) (p:Probe):Probe:=
 if p.more > 0 then { p with j:=p.j+1,more:=p.more - 1 } else
 { p with j:=(leap mask p.i p.perturb).1,more:=runEnd mask (leap mask p.i p.perturb).1 - (leap mask p.i p.perturb).1,i:=(leap mask p.i p.perturb).1,perturb:=(leap mask p.i p.perturb).2 }
def first (mask:Nat) (h:Int):Probe:={ j:=bits h % (mask+1),more:=runEnd mask (bits h % (mask+1)) - bits h % (mask+1),i:=bits h % (mask+1),perturb:=bits h,dummy:=none }
def pr (mask:Nat) (h:Int):Nat->Probe
 | 0=>first mask h
 | n+1=>nxt mask (pr mask h n)
def pos (mask:Nat) (h:Int) (n:Nat):Nat:=(pr mask h n).j
theorem zfG (mask:Nat) (h:Int):∀n,(pr mask h n).dummy=none
 | 0=>rfl
 | n+1=>by
  show (nxt mask (pr mask h n)).dummy=none;unfold nxt;split <;> exact zfG mask h n
def lp (mask:Nat) (h:Int):Nat->Nat×Nat
 | 0=>(bits h % (mask+1),bits h)
 | r+1=>leap mask (lp mask h r).1 (lp mask h r).2
theorem zmy (mask i:Nat):runEnd mask i - i<=9:=by unfold runEnd; split <;> omega
theorem zch (mask:Nat) (h:Int) {n r:Nat} (e:pr mask h n={ j:=(lp mask h r).1,more:=runEnd mask (lp mask h r).1 - (lp mask h r).1,i:=(lp mask h r).1,perturb:=(lp mask h r).2,dummy:=none }) :
  ∀k,k<=runEnd mask (lp mask h r).1 - (lp mask h r).1->pr mask h (n+k)={ j:=(lp mask h r).1+k,more:=runEnd mask (lp mask h r).1 - (lp mask h r).1 - k,i:=(lp mask h r).1,perturb:=(lp mask h r).2,dummy:=none }
 | 0,_=>e
 | k+1,hk=>by
  have ih:=zch mask h e k (by omega);show nxt mask (pr mask h (n+k))=_;rw[ih];unfold nxt;rw[if_pos (by show runEnd mask (lp mask h r).1 - (lp mask h r).1 - k > 0; omega)]
  congr 1
theorem zjW (mask:Nat) (h:Int):∀r,∃n,n<=10*r/\pr mask h n={ j:=(lp mask h r).1,more:=runEnd mask (lp mask h r).1 - (lp mask h r).1,i:=(lp mask h r).1,perturb:=(lp mask h r).2,dummy:=none }
 | 0=>⟨0,Af _,rfl⟩
 | r+1=>by
  obtain⟨n,hn,e⟩:=zjW mask h r;have hl:=zmy mask (lp mask h r).1;refine⟨n+(runEnd mask (lp mask h r).1 - (lp mask h r).1)+1,by omega,?_⟩;show nxt mask (pr mask h (n+(runEnd mask (lp mask h r).1 - (lp mask h r).1)))=_;rw[zch mask h e _ (Af _)];unfold nxt;rw[if_neg (by show ¬ (runEnd mask (lp mask h r).1 - (lp mask h r).1 - (runEnd mask (lp mask h r).1 - (lp mask h r).1) > 0); omega)]
  rfl
theorem zkr (h:Int):bits h<2 ^ 64:=by
 unfold bits;have h1:(0:Int)<=h % (2 ^ 64:Int):=Int.emod_nonneg _ (by decide);have h2:h % (2 ^ 64:Int)<2 ^ 64:=Int.emod_lt_of_pos _ (by decide);omega
theorem zkh (mask:Nat) (h:Int):∀r,(lp mask h r).2=bits h / 32 ^ r
 | 0=>by simp[lp]
 | r+1=>by
  show (lp mask h r).2 / 32=_;rw[zkh mask h r,Nat.div_div_eq_div_mul,Nat.pow_succ]
theorem zlX (mask:Nat) (h:Int) {r:Nat} (hr:13<=r):(lp mask h r).2=0:=by
 rw[zkh];have h1:=zkr h;have h2:32 ^ 13<=32 ^ r:=Nat.pow_le_pow_right (by decide) hr;exact Nat.div_eq_of_lt (AD h1 (AF (by decide) h2))
theorem zlY (mask:Nat) (h:Int):∀r,(lp mask h r).1<=mask
 | 0=>Nat.lt_succ_iff.mp (Nat.mod_lt _ (Nat.succ_pos _))
 | r+1=>Nat.lt_succ_iff.mp (Nat.mod_lt _ (Nat.succ_pos _))
def f5 (mask x:Nat):Nat:=(x*5+1) % (mask+1)
def it5 (mask:Nat):Nat->Nat->Nat
 | 0,x=>x
 | k+1,x=>f5 mask (it5 mask k x)
theorem zkj (mask:Nat) (h:Int):∀k,(lp mask h (13+k)).1=it5 mask k (lp mask h 13).1
 | 0=>rfl
 | k+1=>by
  show ((lp mask h (13+k)).1*5+1+(lp mask h (13+k)).2 / 32) % (mask+1)=f5 mask (it5 mask k (lp mask h 13).1);rw[zlX mask h (by omega),zkj mask h k]
  rfl
def Cov (mask:Nat):Prop:=∀i s,i<=mask->s<=mask->∃k,k<=mask/\it5 mask k i=s
def orb (mask:Nat):Nat->Nat->List Nat
 | 0,_=>[]
 | n+1,x=>x::orb mask n (f5 mask x)
theorem zgX (mask:Nat):∀(n x k:Nat),k<n->(orb mask n x)[k]?=some (it5 mask k x)
 | 0,_,_,h=>absurd h (Nat.not_lt_zero _)
 | n+1,x,0,_=>rfl
 | n+1,x,k+1,h=>by
  have ih:=zgX mask n (f5 mask x) k (by omega);show (orb mask n (f5 mask x))[k]?=_;rw[ih]
  congr 1
  have sh:∀k x,it5 mask k (f5 mask x)=f5 mask (it5 mask k x):=by
   intro k
   induction k with
   | zero=>intro x; rfl
   | succ k ih=>intro x; show f5 mask (it5 mask k (f5 mask x))=_; rw[ih]; rfl
  exact sh k x
theorem zeK (mask:Nat):∀n x,(orb mask n x).length=n
 | 0,_=>rfl
 | n+1,x=>by show (orb mask n (f5 mask x)).length+1=_; rw[zeK mask n]
theorem zdu (mask:Nat):∀(a b x:Nat),it5 mask (a+b) x=it5 mask a (it5 mask b x)
 | 0,b,x=>by rw[Nat.zero_add]; rfl
 | a+1,b,x=>by
  rw[Nat.add_right_comm];show f5 mask (it5 mask (a+b) x)=_;rw[zdu mask a b x]
  rfl
theorem zdR {mask:Nat} (h:((Bc (mask+1)).all fun s=>(orb mask (mask+1) 0).contains s)=true) (hp:it5 mask (mask+1) 0=0):Cov mask:=by
 have all:∀s,s<=mask->∃k,k<=mask/\it5 mask k 0=s:=fun s hs=>by
  have h2:=List.all_eq_true.mp h s (List.mem_range.mpr (by omega));obtain⟨k,hk,e⟩:=List.mem_iff_getElem.mp (List.contains_iff_mem.mp h2);rw[zeK] at hk;refine⟨k,by omega,?_⟩;have e2:=zgX mask (mask+1) 0 k hk;rw[Ag (by rw[zeK]; exact hk),e] at e2;exact (Ao e2).symm
 intro i s hi hs;obtain⟨a,ha,ea⟩:=all i hi;obtain⟨b,hb,eb⟩:=all s hs;rcases Nat.lt_or_ge b a with q | q
 ·refine⟨mask+1 - a+b,by omega,?_⟩
  rw[<- ea,<- zdu,show mask+1 - a+b+a=b+(mask+1) by omega,zdu,hp,eb]
 ·refine⟨b - a,by omega,?_⟩
  rw[<- ea,<- zdu,show b - a+a=b by omega,eb]
theorem cov7:Cov 7:=zdR (by decide +kernel) (by decide +kernel)
theorem cov31:Cov 31:=zdR (by decide +kernel) (by decide +kernel)
theorem cov63:Cov 63:=zdR (by decide +kernel) (by decide +kernel)
theorem cov255:Cov 255:=zdR (by decide +kernel) (by decide +kernel)
theorem cov127:Cov 127:=zdR (by decide +kernel) (by decide +kernel)
theorem reach {mask:Nat} (hc:Cov mask) (h:Int) {x:Nat} (hx:x<=mask):∃n,n<10*turns mask/\pos mask h n=x:=by
 obtain⟨k,hk,e⟩:=hc (lp mask h 13).1 x (zlY mask h 13) hx;obtain⟨n,hn,e2⟩:=zjW mask h (13+k);refine⟨n,by unfold turns; omega,?_⟩;show (pr mask h n).j=x;rw[e2];show (lp mask h (13+k)).1=x;rw[zkj,e]
theorem pos_le (mask:Nat) (h:Int) (n:Nat):pos mask h n<=mask:=by
 have key:∀n,(pr mask h n).i<=mask/\(pr mask h n).j+(pr mask h n).more<=mask:=by
  intro n;have er:∀i,i<=mask->i+(runEnd mask i - i)<=mask:=fun i hi=>by unfold runEnd; split <;> omega
  induction n with
  | zero=>
   have q:bits h % (mask+1)<=mask:=Nat.lt_succ_iff.mp (Nat.mod_lt _ (Nat.succ_pos _));exact⟨q,er _ q⟩
  | succ n ih=>
   show (nxt mask (pr mask h n)).i<=mask/\(nxt mask (pr mask h n)).j+(nxt mask (pr mask h n)).more<=mask;unfold nxt;split
   ·exact⟨ih.1,by show (pr mask h n).j+1+((pr mask h n).more - 1)<=mask; omega⟩
   ·have q:(leap mask (pr mask h n).i (pr mask h n).perturb).1<=mask:=Nat.lt_succ_iff.mp (Nat.mod_lt _ (Nat.succ_pos _))
    exact⟨q,er _ q⟩
 have:=(key n).2;unfold pos;omega
end STb
end
section
namespace STb
open PySem PySem.SetTable
structure Tb (t:SetTable) (hs:Array Int):Prop where
 ris:Ris t.place
 dum:t.dummies=#[]
 size:t.place.size=hs.size
 le:∀(i j:Nat),t.place[i]?=some j->j<=t.mask
 cov:Cov t.mask
 odd:t.mask % 2=1
 room:hs.size<=t.mask
 path:∀(k j:Nat) (h:Int),hs[k]?=some h->t.place[k]?=some j->∃n,pos t.mask h n=j/\∀m,m<n->∃k':Nat,t.place[k']?=some (pos t.mask h m)
def Occ (t:SetTable) (j:Nat):Prop:=∃i:Nat,t.place[i]?=some j
section
variable {t:SetTable}{hs:Array Int}
theorem zaI (T:Tb t hs) {i j:Nat} (e:t.place[i]?=some j):t.slot j=.live i:=by
 show (if (t.place[below t.place j]? == some j)=true then Slot.live (below t.place j) else _)=_;rw[below_at T.ris e,e,if_pos (by simp)]
theorem zgf (T:Tb t hs) {j:Nat} (e:¬ Occ t j):t.slot j=.empty:=by
 show (if (t.place[below t.place j]? == some j)=true then Slot.live (below t.place j) else if has t.dummies j=true then Slot.dummy else Slot.empty)=_;have h1:¬ (t.place[below t.place j]? == some j)=true:=by
  intro q;exact e ⟨_,eq_of_beq q⟩
 have h2:has t.dummies j=false:=by
  unfold has;rw[T.dum]
  rfl
 rw[if_neg h1,h2]
 rfl
theorem zgb (T:Tb t hs):∃x,x<=t.mask/\¬ Occ t x:=by
 apply Classical.byContradiction;intro hn;have all:∀x,x<=t.mask->Occ t x:=fun x hx=>Classical.byContradiction fun q=>hn ⟨x,hx,q⟩;have sub:Bc (t.mask+1) ⊆ t.place.toList:=fun x hx=>by
  obtain⟨i,e⟩:=all x (Nat.lt_succ_iff.mp (List.mem_range.mp hx));rw[<- AH] at e;exact Aq e
 have:=(List.nodup_range (n:=t.mask+1)).length_le_of_subset sub;rw[List.length_range,Az,T.size] at this;have:=T.room;omega
theorem least {P:Nat->Prop} (n:Nat) (h:P n):∃m,m<=n/\P m/\∀k,k<m->¬ P k:=by
 induction n using Nat.strongRecOn with
 | ind n ih=>
  by_cases q:∃k,k<n/\P k
  ·obtain⟨k,hk,pk⟩:=q
   obtain⟨m,h1,h2,h3⟩:=ih k hk pk;exact⟨m,by omega,h2,h3⟩
  ·exact⟨n,Af _,h,fun k hk pk=>q ⟨k,hk,pk⟩⟩
theorem zc3 (T:Tb t hs) (h:Int):∃ne,ne<10*turns t.mask/\¬ Occ t (pos t.mask h ne)/\∀m,m<ne->Occ t (pos t.mask h m):=by
 obtain⟨x,hx,fx⟩:=zgb T;obtain⟨n,hn,e⟩:=reach T.cov h hx;obtain⟨m,h1,h2,h3⟩:=least (P:=fun m=>¬ Occ t (pos t.mask h m)) n (by rw[e]; exact fx);exact⟨m,by omega,h2,fun k hk=>Classical.byContradiction fun q=>h3 k hk q⟩
theorem zev (T:Tb t hs) {hashAt:Nat->Int}{h:Int}:∀(d fuel n:Nat),(∀m,n<=m->m<n+d->∃i:Nat,t.place[i]?=some (pos t.mask h m)/\hashAt i≠h)->probe.go t hashAt h (fuel+d) (pr t.mask h n)=probe.go t hashAt h fuel (pr t.mask h (n+d))
 | 0,fuel,n,_=>rfl
 | d+1,fuel,n,hm=>by
  obtain⟨i,e1,e2⟩:=hm n (Af _) (by omega);have es:t.slot (pr t.mask h n).j=.live i:=zaI T e1;have ih:=zev T d fuel (n+1) (fun m h1 h2=>hm m (by omega) (by omega));rw[show fuel+(d+1)=(fuel+d)+1 by omega,show n+(d+1)=n+1+d by omega,<- ih];show (match t.slot (pr t.mask h n).j with
   | .empty=>some (Met.empty (pr t.mask h n).j (pr t.mask h n).dummy)
   | .dummy=>probe.go t hashAt h (fuel+d) (t.advance { (pr t.mask h n) with dummy:=some (pr t.mask h n).j })
   | .live i=>if hashAt i == h then some (Met.candidate (pr t.mask h n).j i (t.advance (pr t.mask h n))) else probe.go t hashAt h (fuel+d) (t.advance (pr t.mask h n)))=_
  rw[es];dsimp only;rw[if_neg (by simpa using e2)]
  rfl
theorem probe_spec (T:Tb t hs) {hashAt:Nat->Int}{h:Int}{ne n:Nat} (hne:ne<10*turns t.mask) (he:¬ Occ t (pos t.mask h ne)) (hm:∀m,m<ne->Occ t (pos t.mask h m)) (hn:n<=ne) :
  (t.probe hashAt h (pr t.mask h n)=some (.empty (pos t.mask h ne) none)/\∀m i,n<=m->m<ne->t.place[i]?=some (pos t.mask h m)->hashAt i≠h) \/
  ∃(N i:Nat),n<=N/\N<ne/\t.place[i]?=some (pos t.mask h N)/\hashAt i=h/\t.probe hashAt h (pr t.mask h n)=some (.candidate (pos t.mask h N) i (pr t.mask h (N+1)))/\∀m i',n<=m->m<N->t.place[i']?=some (pos t.mask h m)->hashAt i'≠h:=by
 by_cases q:∃N,n<=N/\N<ne/\∃i:Nat,t.place[i]?=some (pos t.mask h N)/\hashAt i=h
 ·right
  obtain⟨N₀,hN₀⟩:=q;obtain⟨N,h1,⟨h2,h3,i,h4,h5⟩,h6⟩:=least (P:=fun N=>n<=N/\N<ne/\∃i:Nat,t.place[i]?=some (pos t.mask h N)/\hashAt i=h) N₀ hN₀;have bef:∀m i',n<=m->m<N->t.place[i']?=some (pos t.mask h m)->hashAt i'≠h:=fun m i' a b c d=>h6 m b ⟨a,by omega,i',c,d⟩;refine⟨N,i,h2,h3,h4,h5,?_,bef⟩;obtain⟨fuel,hf⟩:∃fuel,10*turns t.mask=(fuel+1)+(N - n):=⟨10*turns t.mask - (N - n) - 1,by omega⟩;unfold SetTable.probe;rw[hf,zev T (N - n) (fuel+1) n (fun m a b=>?_),show n+(N - n)=N by omega]
  ·show (match t.slot (pr t.mask h N).j with
    | .empty=>some (Met.empty (pr t.mask h N).j (pr t.mask h N).dummy)
    | .dummy=>probe.go t hashAt h fuel (t.advance { (pr t.mask h N) with dummy:=some (pr t.mask h N).j })
    | .live i=>if hashAt i == h then some (Met.candidate (pr t.mask h N).j i (t.advance (pr t.mask h N))) else probe.go t hashAt h fuel (t.advance (pr t.mask h N)))=_
   rw[show t.slot (pr t.mask h N).j=.live i from zaI T h4];dsimp only;rw[if_pos (by simpa using h5)]
   rfl
  ·obtain⟨i',e⟩:=hm m (by omega)
   exact⟨i',e,bef m i' a (by omega) e⟩
 ·left
  have bef:∀m i,n<=m->m<ne->t.place[i]?=some (pos t.mask h m)->hashAt i≠h:=fun m i a b c d=>q ⟨m,a,b,i,c,d⟩;refine⟨?_,bef⟩;obtain⟨fuel,hf⟩:∃fuel,10*turns t.mask=(fuel+1)+(ne - n):=⟨10*turns t.mask - (ne - n) - 1,by omega⟩;unfold SetTable.probe;rw[hf,zev T (ne - n) (fuel+1) n (fun m a b=>?_),show n+(ne - n)=ne by omega]
  ·show (match t.slot (pr t.mask h ne).j with
    | .empty=>some (Met.empty (pr t.mask h ne).j (pr t.mask h ne).dummy)
    | .dummy=>probe.go t hashAt h fuel (t.advance { (pr t.mask h ne) with dummy:=some (pr t.mask h ne).j })
    | .live i=>if hashAt i == h then some (Met.candidate (pr t.mask h ne).j i (t.advance (pr t.mask h ne))) else probe.go t hashAt h fuel (t.advance (pr t.mask h ne)))=_
   rw[show t.slot (pr t.mask h ne).j=.empty from zgf T he];dsimp only;rw[zfG]
   rfl
  ·obtain⟨i',e⟩:=hm m (by omega)
   exact⟨i',e,bef m i' a (by omega) e⟩
theorem zmd (T:Tb t hs) {h:Int}{ne k j:Nat} (he:¬ Occ t (pos t.mask h ne)) (hk:hs[k]?=some h) (hj:t.place[k]?=some j):∃N,N<ne/\pos t.mask h N=j:=by
 obtain⟨n,e,hm⟩:=T.path k j h hk hj;refine⟨n,?_,e⟩;rcases Nat.lt_trichotomy n ne with q | q | q
 ·exact q
 ·subst q; exact absurd ⟨k,by rw[e]; exact hj⟩ he
 ·exact absurd (hm ne q) he
theorem zjE (T:Tb t hs) {h:Int}{ne:Nat} (he:¬ Occ t (pos t.mask h ne)) (hm:∀m,m<ne->Occ t (pos t.mask h m)) (hr:hs.size+1<=t.mask) :
  (t.put (pos t.mask h ne)).2<=hs.size/\(t.put (pos t.mask h ne)).1.mask=t.mask/\Tb (t.put (pos t.mask h ne)).1 (insertAt hs (t.put (pos t.mask h ne)).2 h):=by
 have hj:∀i:Nat,t.place[i]?≠some (pos t.mask h ne):=fun i e=>he ⟨i,e⟩;obtain⟨b1,b2,b3⟩:=zaM T.ris (pos t.mask h ne);have hb:below t.place (pos t.mask h ne)<=hs.size:=by rw[<- T.size]; exact b1
 have pl:(t.put (pos t.mask h ne)).1.place=insertAt t.place (below t.place (pos t.mask h ne)) (pos t.mask h ne):=rfl;have mk:(t.put (pos t.mask h ne)).1.mask=t.mask:=rfl;have occ:∀j,Occ t j->∃k':Nat,(t.put (pos t.mask h ne)).1.place[k']?=some j:=fun j ⟨i,e⟩=>by
  by_cases q:i<below t.place (pos t.mask h ne)
  ·exact⟨i,by rw[pl,zag _ _ _ b1,if_pos q]; exact e⟩
  ·exact⟨i+1,by rw[pl,zag _ _ _ b1,if_neg (by omega),if_neg (by omega),Nat.add_sub_cancel]; exact e⟩
 refine⟨hb,mk,⟨?_,?_,?_,fun i j e=>?_,T.cov,T.odd,?_,fun k j h' e1 e2=>?_⟩⟩
 ·rw[pl]; exact zkC T.ris hj
 ·show (if has t.dummies (pos t.mask h ne)=true then _ else t.dummies)=#[]
  rw[T.dum]
  rfl
 ·rw[pl,zbO _ _ _ b1]
  show _=(insertAt hs (below t.place (pos t.mask h ne)) h).size;rw[zbO _ _ _ hb,T.size]
 ·rw[pl,zag _ _ _ b1] at e
  rw[mk]
  by_cases q1:i<below t.place (pos t.mask h ne)
  ·rw[if_pos q1] at e; exact T.le _ _ e
  ·rw[if_neg q1] at e
   by_cases q2:i=below t.place (pos t.mask h ne)
   ·rw[if_pos q2] at e; cases e; exact pos_le _ _ _
   ·rw[if_neg q2] at e; exact T.le _ _ e
 ·show (insertAt hs (below t.place (pos t.mask h ne)) h).size<=t.mask
  rw[zbO _ _ _ hb];exact hr
 ·have e1':(insertAt hs (below t.place (pos t.mask h ne)) h)[k]?=some h':=e1
  rw[zag _ _ _ hb] at e1';rw[pl,zag _ _ _ b1] at e2;rw[mk]
  by_cases q1:k<below t.place (pos t.mask h ne)
  ·rw[if_pos q1] at e1' e2
   obtain⟨n,a,b⟩:=T.path k j h' e1' e2;exact⟨n,a,fun m hm'=>occ _ (b m hm')⟩
  ·rw[if_neg q1] at e1' e2
   by_cases q2:k=below t.place (pos t.mask h ne)
   ·rw[if_pos q2] at e1' e2
    cases e1'; cases e2;exact⟨ne,rfl,fun m hm'=>occ _ (hm m hm')⟩
   ·rw[if_neg q2] at e1' e2
    obtain⟨n,a,b⟩:=T.path (k - 1) j h' e1' e2;exact⟨n,a,fun m hm'=>occ _ (b m hm')⟩
end
theorem zfu (finger moves:Nat) (led:Bool):Tb (SetTable.fresh finger moves led) #[]:=
 ⟨fun i j a b h=>by simp[SetTable.fresh] at h,rfl,rfl,fun i j h=>by simp[SetTable.fresh] at h,cov7,show 7 % 2=1 from rfl,show 0<=7 from AV _,fun k j h e=>by simp at e⟩
end STb
end
section
namespace STb
open PySem PySem.SetTable
def Own (owner:Array (Option Nat)) (j:Nat):Prop:=∃q,owner[j]?=some (some q)
def stt (mask:Nat) (h:Int):Nat->Nat
 | 0=>0
 | r+1=>stt mask h r+(runEnd mask (lp mask h r).1 - (lp mask h r).1)+1
theorem ziW (mask:Nat) (h:Int) {r R:Nat} (hr:r<=R):stt mask h r<=stt mask h R:=by
 induction hr with
 | refl=>exact Af _
 | step _ ih=>exact AF ih (by show _<=stt mask h _+_+1; omega)
theorem zhO (mask:Nat) (h:Int):∀r,pr mask h (stt mask h r)={ j:=(lp mask h r).1,more:=runEnd mask (lp mask h r).1 - (lp mask h r).1,i:=(lp mask h r).1,perturb:=(lp mask h r).2,dummy:=none }
 | 0=>rfl
 | r+1=>by
  show nxt mask (pr mask h (stt mask h r+(runEnd mask (lp mask h r).1 - (lp mask h r).1)))=_;rw[zch mask h (zhO mask h r) _ (Af _)];unfold nxt;rw[if_neg (by show ¬ (runEnd mask (lp mask h r).1 - (lp mask h r).1 - (runEnd mask (lp mask h r).1 - (lp mask h r).1) > 0); omega)]
  rfl
theorem zdg {owner:Array (Option Nat)}{mask j:Nat} (hz:owner.size=mask+1) (hj:j<=mask):(owner.getD j (some 0)).isNone=true ↔ ¬ Own owner j:=by
 have hlt:j<owner.size:=by omega
 have e:owner.getD j (some 0)=owner[j]:=by simp[Array.getD,hlt]
 have e2:owner[j]?=some owner[j]:=getElem?_pos owner j hlt;rw[e];constructor
 ·intro h ⟨q,hq⟩
  rw[e2] at hq;rw[Ao hq] at h;cases h
 ·intro h
  cases c:owner[j] with
  | none=>rfl
  | some q=>exact absurd ⟨q,by rw[e2,c]⟩ h
theorem zhl {mask:Nat}{owner:Array (Option Nat)} (hz:owner.size=mask+1) (h:Int) {ne R:Nat} (he:¬ Own owner (pos mask h ne)) (hm:∀m,m<ne->Own owner (pos mask h m)) (hR:ne<=stt mask h R) :
  ∀(fuel r:Nat),stt mask h r<=ne->R<r+fuel->layClean.free mask owner fuel (lp mask h r).1 (lp mask h r).2=some (pos mask h ne):=by
 intro fuel
 induction fuel with
 | zero=>
  intro r h1 h2;have q:=ziW mask h (r:=R+1) (R:=r) (by omega);have:stt mask h (R+1)=stt mask h R+(runEnd mask (lp mask h R).1 - (lp mask h R).1)+1:=rfl;omega
 | succ fuel ih=>
  intro r hn hr;have walk:=zch mask h (zhO mask h r);have posk:∀k,k<=runEnd mask (lp mask h r).1 - (lp mask h r).1->pos mask h (stt mask h r+k)=(lp mask h r).1+k:=fun k hk=>by
   unfold pos;rw[walk k hk]
  have hge:(lp mask h r).1<=runEnd mask (lp mask h r).1:=by unfold runEnd; split <;> omega
  have ple:∀k,k<=runEnd mask (lp mask h r).1 - (lp mask h r).1->(lp mask h r).1+k<=mask:=fun k hk=>by rw[<- posk k hk]; exact pos_le _ _ _
  show (match (Bc (runEnd mask (lp mask h r).1+1 - (lp mask h r).1)).find? (fun k=>(owner.getD ((lp mask h r).1+k) (some 0)).isNone) with
   | some k=>some ((lp mask h r).1+k)
   | none=>layClean.free mask owner fuel (leap mask (lp mask h r).1 (lp mask h r).2).1 (leap mask (lp mask h r).1 (lp mask h r).2).2)=_
  by_cases hin:ne<=stt mask h r+(runEnd mask (lp mask h r).1 - (lp mask h r).1)
  ·have ef:(Bc (runEnd mask (lp mask h r).1+1 - (lp mask h r).1)).find? (fun k=>(owner.getD ((lp mask h r).1+k) (some 0)).isNone)=some (ne - stt mask h r):=by
    rw[List.find?_range_eq_some];refine⟨?_,List.mem_range.mpr (by omega),fun k hk=>?_⟩
    ·show (owner.getD ((lp mask h r).1+(ne - stt mask h r)) (some 0)).isNone=true
     rw[zdg hz (ple _ (by omega)),<- posk _ (by omega),show stt mask h r+(ne - stt mask h r)=ne by omega];exact he
    ·have q:¬ (owner.getD ((lp mask h r).1+k) (some 0)).isNone=true:=by
      rw[zdg hz (ple _ (by omega)),<- posk k (by omega)];exact fun z=>z (hm _ (by omega))
     rw[Bool.not_eq_true] at q;rw[q]
     rfl
   rw[ef];dsimp only;rw[<- posk _ (by omega),show stt mask h r+(ne - stt mask h r)=ne by omega]
  ·have ef:(Bc (runEnd mask (lp mask h r).1+1 - (lp mask h r).1)).find? (fun k=>(owner.getD ((lp mask h r).1+k) (some 0)).isNone)=none:=by
    rw[List.find?_eq_none];intro k hk;have hk':=List.mem_range.mp hk;rw[zdg hz (ple _ (by omega)),<- posk k (by omega)];exact fun z=>z (hm _ (by omega))
   rw[ef];dsimp only;refine ih (r+1) ?_ (by omega);show stt mask h r+(runEnd mask (lp mask h r).1 - (lp mask h r).1)+1<=ne;omega
structure Lay (mask:Nat) (hashes:List Int) (owner:Array (Option Nat)) (k:Nat):Prop where
 size:owner.size=mask+1
 all:∀q:Nat,q<k->∃j:Nat,owner[j]?=some (some q)
 back:∀j q:Nat,owner[j]?=some (some q)->q<k
 one:∀(i j q:Nat),owner[i]?=some (some q)->owner[j]?=some (some q)->i=j
 path:∀(j q:Nat) (h:Int),owner[j]?=some (some q)->hashes[q]?=some h->∃n,pos mask h n=j/\∀m,m<n->Own owner (pos mask h m)
theorem Lay.room {mask:Nat}{hashes:List Int}{owner:Array (Option Nat)}{k:Nat} (L:Lay mask hashes owner k) (hk:k<=mask):∃x,x<=mask/\¬ Own owner x:=by
 apply Classical.byContradiction;intro hn;have all:∀x,x<=mask->∃q,q<k/\owner[x]?=some (some q):=fun x hx=>by
  have:Own owner x:=Classical.byContradiction fun q=>hn ⟨x,hx,q⟩;obtain⟨q,e⟩:=this;exact⟨q,L.back x q e,e⟩
 have sub:((Bc (mask+1)).map fun x=>(owner.getD x none).getD 0) ⊆ Bc k:=fun y hy=>by
  obtain⟨x,hx,e⟩:=List.mem_map.mp hy;obtain⟨q,hq,e2⟩:=all x (Nat.lt_succ_iff.mp (List.mem_range.mp hx));rw[Array.getD_eq_getD_getElem?,e2] at e;subst e;exact List.mem_range.mpr hq
 have nd:((Bc (mask+1)).map fun x=>(owner.getD x none).getD 0).Nodup:=by
  refine List.nodup_iff_pairwise_ne.mpr (List.pairwise_map.mpr ?_);refine List.Pairwise.imp_of_mem ?_ (List.nodup_iff_pairwise_ne.mp (List.nodup_range (n:=mask+1)));intro a b ha hb hne e;obtain⟨q,_,e1⟩:=all a (Nat.lt_succ_iff.mp (List.mem_range.mp ha));obtain⟨p,_,e2⟩:=all b (Nat.lt_succ_iff.mp (List.mem_range.mp hb));simp only[Array.getD_eq_getD_getElem?,e1,e2,Option.getD_some] at e;subst e;exact hne (L.one a b q e1 e2)
 have:=nd.length_le_of_subset sub;rw[Ab,List.length_range,List.length_range] at this;omega
theorem zkB {owner:Array (Option Nat)}{mask j k:Nat} (hz:owner.size=mask+1) (hj:j<=mask) (i:Nat):(owner.setIfInBounds j (some k))[i]?=if i=j then some (some k) else owner[i]?:=by
 by_cases q:i=j
 ·subst q
  rw[if_pos rfl,Array.getElem?_setIfInBounds_self_of_lt (by omega)]
 ·rw[if_neg q,Array.getElem?_setIfInBounds_ne (Ne.symm q)]
theorem Lay.step {mask:Nat}{hashes:List Int}{owner:Array (Option Nat)}{k:Nat}{h:Int} (hc:Cov mask) (L:Lay mask hashes owner k) (hk:k<=mask) (hh:hashes[k]?=some h) :
  ∃j,layClean.free mask owner (turns mask) (bits h % (mask+1)) (bits h)=some j/\Lay mask hashes (owner.setIfInBounds j (some k)) (k+1):=by
 obtain⟨x,hx,fx⟩:=L.room hk;obtain⟨d,hd,e⟩:=hc (lp mask h 13).1 x (zlY mask h 13) hx;have eR:pos mask h (stt mask h (13+d))=x:=by
  unfold pos;rw[zhO];show (lp mask h (13+d)).1=x;rw[zkj,e]
 obtain⟨ne,h1,h2,h3⟩:=least (P:=fun m=>¬ Own owner (pos mask h m)) (stt mask h (13+d)) (by rw[eR]; exact fx);have hm:∀m,m<ne->Own owner (pos mask h m):=fun m q=>Classical.byContradiction fun z=>h3 m q z;refine⟨pos mask h ne,zhl L.size h h2 hm h1 (turns mask) 0 (AV _) (by unfold turns; omega),?_⟩;have hle:pos mask h ne<=mask:=pos_le _ _ _;have sg:=zkB (k:=k) L.size hle;have own:∀i,Own owner i->Own (owner.setIfInBounds (pos mask h ne) (some k)) i:=fun i ⟨q,e⟩=>by
  by_cases z:i=pos mask h ne
  ·exact⟨k,by rw[sg,if_pos z]⟩
  ·exact⟨q,by rw[sg,if_neg z]; exact e⟩
 refine⟨by rw[Array.size_setIfInBounds]; exact L.size,fun q hq=>?_,fun j q e=>?_,fun i j q e1 e2=>?_,fun j q h' e1 e2=>?_⟩
 ·by_cases z:q=k
  ·exact⟨pos mask h ne,by rw[sg,if_pos rfl,z]⟩
  ·obtain⟨j,ej⟩:=L.all q (by omega)
   refine⟨j,?_⟩;rw[sg,if_neg fun w=>h2 ⟨q,by rw[<- w]; exact ej⟩];exact ej
 ·rw[sg] at e
  by_cases z:j=pos mask h ne
  ·rw[if_pos z] at e; cases e; omega
  ·rw[if_neg z] at e; have:=L.back j q e; omega
 ·rw[sg] at e1 e2
  by_cases z1:i=pos mask h ne
  ·rw[if_pos z1] at e1; cases e1
   by_cases z2:j=pos mask h ne
   ·omega
   ·rw[if_neg z2] at e2; have:=L.back j k e2; omega
  ·rw[if_neg z1] at e1
   by_cases z2:j=pos mask h ne
   ·rw[if_pos z2] at e2; cases e2; have:=L.back i k e1; omega
   ·rw[if_neg z2] at e2; exact L.one i j q e1 e2
 ·rw[sg] at e1
  by_cases z:j=pos mask h ne
  ·rw[if_pos z] at e1; cases e1
   rw[hh] at e2; cases e2;exact⟨ne,z.symm,fun m q=>own _ (hm m q)⟩
  ·rw[if_neg z] at e1
   obtain⟨n,a,b⟩:=L.path j q h' e1 e2;exact⟨n,a,fun m q=>own _ (b m q)⟩
theorem Lay.nil (mask:Nat) (hashes:List Int):Lay mask hashes (Array.replicate (mask+1) none) 0:=by
 have no:∀(j q:Nat),(Array.replicate (mask+1) (none:Option Nat))[j]?=some (some q)->False:=fun j q e=>by
  rw[Array.getElem?_replicate] at e;split at e <;> cases e
 exact⟨by simp,fun q h=>absurd h (Nat.not_lt_zero _),fun j q e=>(no j q e).elim,fun i j q e=>(no i q e).elim,fun j q h e=>(no j q e).elim⟩
theorem zeQ {mask:Nat} (hc:Cov mask) (hashes:Array Int) (hk:hashes.size<=mask+1):∃owner,layClean mask hashes=some owner/\Lay mask hashes.toList owner hashes.size:=by
 have go:∀(rest:List Int) (owner:Array (Option Nat)) (k:Nat),Lay mask hashes.toList owner k->hashes.toList.drop k=rest->
   ∃owner',(rest.foldl (fun acc h=>do
    let (owner,k) <- acc
    let j <- layClean.free mask owner (turns mask) (bits h % (mask+1)) (bits h)
    pure (owner.setIfInBounds j (some k),k+1)) (some (owner,k)))=some (owner',k+rest.length)/\Lay mask hashes.toList owner' (k+rest.length):=by
  intro rest
  induction rest with
  | nil=>intro owner k L _; exact⟨owner,rfl,L⟩
  | cons h rest ih=>
   intro owner k L e;have hlt:k<hashes.toList.length:=by
    rcases Nat.lt_or_ge k hashes.toList.length with q | q
    ·exact q
    ·rw[List.drop_eq_nil_of_le q] at e; cases e
   have eh:hashes.toList[k]?=some h:=by
    rw[List.drop_eq_getElem_cons hlt] at e;injection e with e1 _
    rw[Ag hlt,e1]
   have er:hashes.toList.drop (k+1)=rest:=by
    rw[List.drop_eq_getElem_cons hlt] at e;injection e
   rw[Az] at hlt;obtain⟨j,ej,L'⟩:=L.step hc (by omega) eh;obtain⟨o',a,b⟩:=ih (owner.setIfInBounds j (some k)) (k+1) L' er;refine⟨o',?_,?_⟩
   ·rw[List.foldl_cons]
    show List.foldl _ (layClean.free mask owner (turns mask) (bits h % (mask+1)) (bits h) >>= fun j=>pure (owner.setIfInBounds j (some k),k+1)) rest=_;rw[ej];show List.foldl _ (some (owner.setIfInBounds j (some k),k+1)) rest=_;rw[a,As,show k+1+rest.length=k+(rest.length+1) by omega]
   ·rw[As,show k+(rest.length+1)=k+1+rest.length by omega]
    exact b
 obtain⟨o,a,b⟩:=go hashes.toList _ 0 (Lay.nil mask _) rfl;rw[Nat.zero_add,Az] at a b;refine⟨o,?_,b⟩;unfold layClean;rw[<- Array.foldl_toList,a]
 rfl
def zap (owner:Array (Option Nat)) (n:Nat):List (Nat×Nat):=(Bc n).filterMap fun j=>(owner.getD j none).map (j,·)
theorem zaA {owner:Array (Option Nat)}{n:Nat}{x:Nat×Nat}:x∈zap owner n ↔ x.1<n/\owner[x.1]?=some (some x.2):=by
 unfold zap;rw[List.mem_filterMap];constructor
 ·rintro⟨j,hj,e⟩
  rw[Option.map_eq_some_iff] at e;obtain⟨q,e1,rfl⟩:=e;refine⟨List.mem_range.mp hj,?_⟩;rw[Array.getD_eq_getD_getElem?] at e1;cases c:owner[j]? with
  | none=>rw[c] at e1; cases e1
  | some v=>rw[c] at e1; simp only[Option.getD_some] at e1; rw[e1]
 ·rintro⟨h1,h2⟩
  refine⟨x.1,List.mem_range.mpr h1,?_⟩;rw[Array.getD_eq_getD_getElem?,h2]
  rfl
theorem zfF (owner:Array (Option Nat)) (n:Nat):(zap owner n).Pairwise fun x y=>x.1<y.1:=by
 unfold zap;refine List.Pairwise.filterMap (S:=fun x y:Nat×Nat=>x.1<y.1) _ ?_ (List.pairwise_lt_range (n:=n));intro a a' h b hb b' hb';rw[Option.map_eq_some_iff] at hb hb';obtain⟨_,_,rfl⟩:=hb;obtain⟨_,_,rfl⟩:=hb';exact h
theorem zjA {mask:Nat}{hashes:List Int}{owner:Array (Option Nat)}{k:Nat} (L:Lay mask hashes owner k):(zap owner (mask+1)).length=k/\((zap owner (mask+1)).map (·.2)).Nodup:=by
 have nd:((zap owner (mask+1)).map (·.2)).Nodup:=by
  refine List.nodup_iff_pairwise_ne.mpr (List.pairwise_map.mpr ?_);refine List.Pairwise.imp_of_mem ?_ (zfF owner (mask+1));intro a b ha hb hlt e;have h1:=(zaA.mp ha).2;have h2:=(zaA.mp hb).2;rw[<- e] at h2;have:=L.one _ _ _ h1 h2;omega
 refine⟨?_,nd⟩;have s1:(zap owner (mask+1)).map (·.2) ⊆ Bc k:=fun q hq=>by
  obtain⟨x,hx,rfl⟩:=List.mem_map.mp hq;exact List.mem_range.mpr (L.back _ _ (zaA.mp hx).2)
 have s2:Bc k ⊆ (zap owner (mask+1)).map (·.2):=fun q hq=>by
  obtain⟨j,ej⟩:=L.all q (List.mem_range.mp hq);have hj:j<mask+1:=by rw[<- L.size]; exact (Array.getElem?_eq_some_iff.mp ej).1
  exact List.mem_map.mpr ⟨(j,q),zaA.mpr ⟨hj,ej⟩,rfl⟩
 have l1:=nd.length_le_of_subset s1;have l2:=(List.nodup_range (n:=k)).length_le_of_subset s2;rw[Ab,List.length_range] at l1;rw[List.length_range,Ab] at l2;omega
theorem zhU {mask:Nat} (hc:Cov mask) (ho:mask % 2=1) (finger moves:Nat) (led plain:Bool) (hashes:Array Int) (hk:hashes.size<=mask) :
  ∃t order,laid mask finger moves led plain hashes=some (t,order)/\t.mask=mask/\t.led=led/\t.plain=plain/\order.size=hashes.size/\order.toList.Nodup/\(∀q∈order.toList,q<hashes.size)/\
   Tb t (order.map fun q=>(hashes[q]?).getD 0):=by
 obtain⟨owner,e,L⟩:=zeQ hc hashes (by omega);obtain⟨ll,nd⟩:=zjA L;refine⟨_,_,by unfold laid; rw[e]; exact rfl,rfl,rfl,rfl,?_,?_,?_,?_⟩
 ·show ((zap owner (mask+1)).map (·.2)).toArray.size=_
  rw[Ai,Ab,ll]
 ·exact nd
 ·intro q hq
  obtain⟨x,hx,rfl⟩:=List.mem_map.mp (show q∈(zap owner (mask+1)).map (·.2) from hq);exact L.back _ _ (zaA.mp hx).2
 ·have pg:∀i:Nat,(((zap owner (mask+1)).map (·.1)).toArray)[i]?=((zap owner (mask+1))[i]?).map (·.1):=fun i=>by
   rw[List.getElem?_toArray,Ap]
  have og:∀i:Nat,(((zap owner (mask+1)).map (·.2)).toArray)[i]?=((zap owner (mask+1))[i]?).map (·.2):=fun i=>by
   rw[List.getElem?_toArray,Ap]
  have occ:∀j,Own owner j->∃i:Nat,(((zap owner (mask+1)).map (·.1)).toArray)[i]?=some j:=fun j ⟨q,ej⟩=>by
   have hj:j<mask+1:=by rw[<- L.size]; exact (Array.getElem?_eq_some_iff.mp ej).1
   obtain⟨i,hi,ei⟩:=List.mem_iff_getElem.mp (zaA.mpr ⟨hj,ej⟩:(j,q)∈zap owner (mask+1));exact⟨i,by rw[pg,Ag hi,ei]; rfl⟩
  refine⟨fun i j a b ha hb hij=>?_,rfl,?_,fun i j ej=>?_,hc,ho,?_,fun k j h e1 e2=>?_⟩
  ·have ha':((zap owner (mask+1))[i]?).map (·.1)=some a:=by rw[<- pg]; exact ha
   have hb':((zap owner (mask+1))[j]?).map (·.1)=some b:=by rw[<- pg]; exact hb
   obtain⟨x,ex,rfl⟩:=Option.map_eq_some_iff.mp ha';obtain⟨y,ey,rfl⟩:=Option.map_eq_some_iff.mp hb';obtain⟨hi,rfl⟩:=List.getElem?_eq_some_iff.mp ex;obtain⟨hj,rfl⟩:=List.getElem?_eq_some_iff.mp ey;exact List.pairwise_iff_getElem.mp (zfF owner (mask+1)) i j hi hj hij
  ·show ((zap owner (mask+1)).map (·.1)).toArray.size=(Array.map _ ((zap owner (mask+1)).map (·.2)).toArray).size
   rw[A0,Ai,Ai,Ab,Ab]
  ·have ej':((zap owner (mask+1))[i]?).map (·.1)=some j:=by rw[<- pg]; exact ej
   obtain⟨x,ex,rfl⟩:=Option.map_eq_some_iff.mp ej';exact Nat.lt_succ_iff.mp (zaA.mp (Aq ex)).1
  ·show (Array.map _ ((zap owner (mask+1)).map (·.2)).toArray).size<=mask
   rw[A0,Ai,Ab,ll];exact hk
  ·have e2':((zap owner (mask+1))[k]?).map (·.1)=some j:=by rw[<- pg]; exact e2
   obtain⟨x,ex,rfl⟩:=Option.map_eq_some_iff.mp e2';have e1':(Array.map (fun q=>(hashes[q]?).getD 0) ((zap owner (mask+1)).map (·.2)).toArray)[k]?=some h:=e1;rw[Array.getElem?_map,og,ex] at e1';have hx:=(zaA.mp (Aq ex)).2;have hq:=L.back _ _ hx;have eh:hashes.toList[x.2]?=some h:=by
    rw[AH];have:hashes[x.2]?=some hashes[x.2]:=getElem?_pos hashes x.2 hq;simp only[Option.map_some,this,Option.getD_some] at e1';rw[this,Ao e1']
   obtain⟨n,a,b⟩:=L.path x.1 x.2 h hx eh;exact⟨n,a,fun m hm=>occ _ (b m hm)⟩
end STb
end
section
namespace STb
open PySem PySem.SetTable
section
variable {prog:Program}{w:World}{K:Type} [DecidableEq K] {knd:KeyKind prog w K}{A:Around}{E:Value->Shared->Prop}{s:Shared}
theorem fits_of {t:SetTable}{es:Array (Int×Value)} (T:Tb t (es.map (·.1))):t.fits es.size=true:=by
 have h1:=T.size;have h2:=T.room;rw[A0] at h1 h2;unfold SetTable.fits SetTable.fill;rw[T.dum,h1];simp;exact h2
theorem zir (n:Nat) {v:Value} (h:carriedByValue v=true):ofAClassStatement n v=pure false:=by
 cases v with
 | ref a=>simp[carriedByValue] at h
 | _=>cases n <;> rfl
theorem zih {ks:List K}{b:Addr}{Q:Bool->Shared->Prop} (hk:AW knd s.heap ks b) (h:Q false s):wpAny (model prog w) A (ofAClassStatement 8 (.ref b)) Q E s:=by
 have hT:=hk.typeIs;obtain⟨o,items,n,ho,_,hd,hi⟩:=hk;unfold ofAClassStatement;refine Aa (wpAny_typeOf hT ?_);show wpAny _ _ ((if ("tuple" == "tuple")=true then pure true else isSubtype (.type "tuple") (.type "tuple")) >>= _) _ _ s;rw[if_pos (by decide)];refine Aa (Ac ?_);simp only[Bool.not_true,Aj,if_false];refine Aa (wpAny_seqItems ho hd ?_);refine Aa ?_;show wpAny _ _ (forIn items _ _) _ _ s;rw[<- Array.forIn_toList];refine wpAny_forIn_list _ (fun rest r s'=>r.1=none/\s'=s/\∀v∈rest,carriedByValue v=true) _ ?_ ?_ _ _ ⟨rfl,rfl,hi.byValue⟩
 ·rintro v rest r s' ⟨hr,rfl,hall⟩
  rw[zir _ (hall v AB)];refine Aa (Ac ?_);simp only[Aj,if_false];exact Ac ⟨rfl,rfl,fun u hu'=>hall u (Ax _ hu')⟩
 ·rintro⟨r1,r2⟩ s' ⟨hr,rfl,_⟩
  simp only at hr;subst hr;exact Ac h
theorem zg9 {ks:List K}{b:Addr}{ys:List Value}{Q:Bool->Shared->Prop} (hk:AW knd s.heap ks b) (hy:∀y∈ys,∃k' c,y=.ref c/\AW knd s.heap k' c) (h:Q false s) :
  wpAny (model prog w) A (searchCouldBeSeen (.ref b) ys) Q E s:=by
 unfold searchCouldBeSeen;refine Aa ?_;refine wpAny_forIn_list _ (fun rest r s'=>r.1=none/\s'=s/\∀y∈rest,∃k' c,y=.ref c/\AW knd s.heap k' c) _ ?_ ?_ _ _ ⟨rfl,rfl,hy⟩
 ·rintro v rest r s' ⟨hr,rfl,hall⟩
  obtain⟨k',c,rfl,hc⟩:=hall v AB;have nx:∀u∈rest,∃k' c,u=.ref c/\AW knd s'.heap k' c:=fun u hu'=>hall u (Ax _ hu');dsimp only;split
  ·exact Ac ⟨rfl,rfl,nx⟩
  ·refine Aa (wpAny_eqIsQuiet_tuple hk ?_)
   simp only[Bool.not_true,Aj,if_false];refine Aa (wpAny_eqIsQuiet_tuple hc ?_);simp only[Bool.not_true,Aj,if_false];refine Aa (zih hk ?_);simp only[Aj,if_false];refine Aa (zih hc ?_);simp only[Aj,if_false];exact Ac ⟨rfl,rfl,nx⟩
 ·rintro⟨r1,r2⟩ s' ⟨hr,rfl,_⟩
  simp only at hr;subst hr;exact Ac h
structure TS (knd:KeyKind prog w K) (h:Heap) (S:Addr) (o:Obj) (es:Array (Int×Value)) (ep:Nat) (t:SetTable) (ks:List (List K)) (B:List Addr):Prop where
 at_:h.get? S=some o
 ex:o.ExactSet
 dt:o.data=.set es ep t
 tb:Tb t (es.map (·.1))
 sz:es.size=ks.length
 nd:ks.Nodup
 el:∀e∈es.toList,∃k b,k∈ks/\e=(Av knd k,Value.ref b)/\AW knd h k b
 ke:∀k∈ks,∃b,(Av knd k,Value.ref b)∈es.toList/\AW knd h k b
 msk:(t.mask=7/\es.size<=4) \/ (t.mask=31/\es.size<=18) \/ (t.mask=127/\es.size<=76) \/ (t.mask=15/\es.size<=8) \/ (t.mask=63/\es.size<=37) \/ (t.mask=255/\es.size<=152)
 ad:∀e∈es.toList,∃b∈B,e.2=Value.ref b
 wk:w.params.followText "set-order"=true \/ (t.led=true/\t.plain=true)
theorem zgP {B:List Addr}{S:Addr}{o:Obj}{es:Array (Int×Value)}{ep:Nat}{t:SetTable}{ks:List (List K)} (X:TS knd s.heap S o es ep t ks B) (hu:A.units<cLine) {k:List K}{b:Addr} (hk:AW knd s.heap k b)
  {ne:Nat} (hne:ne<10*turns t.mask) (he:¬ Occ t (pos t.mask (Av knd k) ne)) (hm:∀m,m<ne->Occ t (pos t.mask (Av knd k) m)) {add:Bool} {Q:SetFound->Shared->Prop}
  (h1:k∈ks->∀r:Option Nat,(add=false->r.isSome=true)->Q (.there r) s) (h2:k∉ks->Q (.free (pos t.mask (Av knd k) ne) false) s) :
  ∀(fuel n:Nat) (stand:Option Probe),ne<n+fuel->n<=ne->stand.getD (t.probeStart (Av knd k))=pr t.mask (Av knd k) n->
   (∀(m i:Nat) (c:Addr),m<n->t.place[i]?=some (pos t.mask (Av knd k) m)->es[i]?=some (Av knd k,Value.ref c)->¬ AW knd s.heap k c)->
   wpAny (model prog w) A (setSearchFrom S (.ref b) (Av knd k) add fuel stand) Q E s:=by
 have T:=X.tb;have fit:=fits_of T;have hA:∀i:Nat,(es.map (·.1))[i]?=(es[i]?).map (·.1):=fun i=>Array.getElem?_map ..;intro fuel
 induction fuel with
 | zero=>intro n stand a1 a2 _ _; omega
 | succ fuel ih=>
  intro n stand a1 a2 a3 a4;unfold setSearchFrom;refine Aa (wpAny_setState_of X.at_ X.dt fit ?_);dsimp only;have gw:t.gaveWay=false:=by
   unfold SetTable.gaveWay;rw[T.odd]
   rfl
  rw[gw];simp only[Aj,if_false];rw[a3];rcases probe_spec T (hashAt:=fun i=>((es[i]?).map (·.1)).getD 0) hne he hm a2 with ⟨ep1,none_⟩ | ⟨N,i,b1,b2,b3,b4,b5,b6⟩
  ·have ep1':t.probe (fun i=>((es[i]?).map (·.1)).getD 0) (Av knd k) (pr t.mask (Av knd k) n)=some (.empty (pos t.mask (Av knd k) ne) none):=ep1
   show wpAny _ _ (match t.probe (fun i=>((es[i]?).map (·.1)).getD 0) (Av knd k) (pr t.mask (Av knd k) n) with | some met=>_ | _=>_) _ _ s;rw[ep1'];dsimp only;refine Ac (h2 fun hin=>?_);obtain⟨c,hc1,hc2⟩:=X.ke k hin;obtain⟨i,hi,ei⟩:=List.mem_iff_getElem.mp hc1;have ei':es[i]?=some (Av knd k,.ref c):=by
    rw[<- AH,Ag hi,ei]
   have hlt:i<t.place.size:=by rw[T.size,A0]; simpa using hi
   have ej:t.place[i]?=some t.place[i]:=getElem?_pos t.place i hlt;obtain⟨N,hN,eN⟩:=zmd T he (k:=i) (by rw[hA,ei']; rfl) ej;rcases Nat.lt_or_ge N n with q | q
   ·exact a4 N i c q (by rw[eN]; exact ej) ei' hc2
   ·exact none_ N i q hN (by rw[eN]; exact ej) (by show ((es[i]?).map (·.1)).getD 0=_; rw[ei']; rfl)
  ·show wpAny _ _ (match t.probe (fun i=>((es[i]?).map (·.1)).getD 0) (Av knd k) (pr t.mask (Av knd k) n) with | some met=>_ | _=>_) _ _ s
   rw[b5];dsimp only;have hi:i<es.size:=by
    have:=(Array.getElem?_eq_some_iff.mp b3).1;rw[T.size,A0] at this;exact this
   have ei:es[i]?=some es[i]:=getElem?_pos es i hi;obtain⟨k',c,hk',ee,hc⟩:=X.el es[i] (by simp);rw[ee] at ei;have eh:Av knd k'=Av knd k:=by
    have:((es[i]?).map (·.1)).getD 0=Av knd k:=b4;rw[ei] at this;exact this
   rw[eh] at ei;have sm:t.sameMemory t.moves t.mask=some true:=by unfold SetTable.sameMemory; rw[if_pos (by simp)]
   have nxt':k'≠k->wpAny (model prog w) A (setSearchFrom S (.ref b) (Av knd k) add fuel (some (pr t.mask (Av knd k) (N+1)))) Q E s:=fun eq=>by
    refine ih (N+1) _ (by omega) (by omega) rfl fun m i2 c2 q1 q2 q3 q4=>?_;rcases Nat.lt_or_ge m n with z | z
    ·exact a4 m i2 c2 z q2 q3 q4
    ·rcases Nat.lt_or_ge m N with z2 | z2
     ·exact b6 m i2 z z2 q2 (by show ((es[i2]?).map (·.1)).getD 0=_; rw[q3]; rfl)
     ·have:m=N:=by omega
      subst this;have:=T.ris.inj q2 b3;subst this;rw[ei] at q3;cases q3;exact eq (IsTupleKey.inj hc q4)
   cases led:t.led
   all_goals simp only[Bool.not_true,Bool.not_false,Aj,if_true,if_false]
   ·refine Aa (zg9 hk (fun y hy=>?_) ?_)
    ·obtain⟨e,he',rfl⟩:=List.mem_map.mp hy
     rw[Array.toList_filter] at he';obtain⟨k2,c2,_,e2,h2'⟩:=X.el e (List.mem_filter.mp he').1;exact⟨k2,c2,by rw[e2],h2'⟩
    simp only[Aj,if_false];rw[ei];refine Aa (AJ (wpAny_eqBool_tuple hu hc hk ?_));refine Aa (wpAny_setState_of X.at_ X.dt fit ?_)
    by_cases eq:k'=k
    ·subst eq
     cases add
     ·simp only[decide_true,Bool.false_and,Aj,if_false]
      rw[sm];simp only[if_true];rw[zaI T b3];dsimp only;rw[ei];refine Aa (wpAny_isSame_ref_self (Aa (Ac ?_)));simp only[if_true];exact Ac (h1 hk' _ fun _=>rfl)
     ·simp only[decide_true,Bool.and_self,if_true]
      exact Ac (h1 hk' _ fun z=>by cases z)
    ·rw[decide_eq_false eq]
     simp only[Bool.and_false,Aj,if_false];rw[sm];simp only[if_true];rw[zaI T b3];dsimp only;rw[ei];refine Aa (wpAny_isSame_ref_self (Aa (Ac ?_)));simp only[if_true];exact nxt' eq
   ·rw[ei]
    refine Aa (AJ (wpAny_eqBool_tuple hu hc hk ?_));refine Aa (wpAny_setState_of X.at_ X.dt fit ?_)
    by_cases eq:k'=k
    ·subst eq
     cases add
     ·simp only[decide_true,Bool.false_and,Aj,if_false]
      rw[sm];simp only[if_true];rw[zaI T b3];dsimp only;rw[ei];refine Aa (wpAny_isSame_ref_self (Aa (Ac ?_)));simp only[if_true];exact Ac (h1 hk' _ fun _=>rfl)
     ·simp only[decide_true,Bool.and_self,if_true]
      exact Ac (h1 hk' _ fun z=>by cases z)
    ·rw[decide_eq_false eq]
     simp only[Bool.and_false,Aj,if_false];rw[sm];simp only[if_true];rw[zaI T b3];dsimp only;rw[ei];refine Aa (wpAny_isSame_ref_self (Aa (Ac ?_)));simp only[if_true];exact nxt' eq
end
end STb
end
section
namespace STb
open PySem PySem.SetTable
section
variable {prog:Program}{w:World}{K:Type} [DecidableEq K] {knd:KeyKind prog w K}{A:Around}{E:Value->Shared->Prop}{s:Shared}
theorem zaP {h h':Heap}{S b:Addr}{k:List K}{o:Obj}{es ep t} (hk:AW knd h k b) (ho:h.get? S=some o) (hd:o.data=.set es ep t) (hs:A2 S h h'):AW knd h' k b:=by
 obtain⟨o',items,n,ho',hc,hd',hi⟩:=hk;have hne:b≠S:=by
  rintro rfl;obtain rfl:o'=o:=Ao (ho'.symm.trans ho);rw[hd] at hd'; exact nomatch hd'
 exact⟨o',items,n,(hs.2 b hne).trans ho',hc,hd',hi⟩
theorem zlE {ks:List K}{b:Addr}{Q:Bool->Shared->Prop} (hv:∀k v n,knd.is k v=true->hashByValue n v=pure true) (hk:AW knd s.heap ks b) (h:Q true s):wpAny (model prog w) A (hashByValue 8 (.ref b)) Q E s:=by
 have hT:=hk.typeIs;obtain⟨o,items,n,ho,_,hd,hi⟩:=hk;unfold hashByValue;refine Aa (wpAny_specialOf hT F.slot_tuple_hash.lookup ?_);dsimp only;refine Aa (wpAny_seqItems ho hd ?_);refine Aa ?_;show wpAny _ _ (forIn items _ _) _ _ s;rw[<- Array.forIn_toList];refine wpAny_forIn_list _ (fun rest r s'=>r.1=none/\s'=s/\∃ks',ItemsAre knd ks' rest) _ ?_ ?_ _ _ ⟨rfl,rfl,ks,hi⟩
 ·rintro v rest r s' ⟨hr,rfl,ks',hi'⟩
  cases hi' with
  | @cons k _ ks'' _ h1 h2=>
   rw[hv k v 7 h1];refine Aa (Ac ?_);simp only[Bool.not_true,Aj,if_false];exact Ac ⟨rfl,rfl,ks'',h2⟩
 ·rintro⟨r1,r2⟩ s' ⟨hr,rfl,_⟩
  simp only at hr;subst hr;exact Ac h
theorem zbk {h:Heap}{S:Addr}{o:Obj}{es:Array (Int×Value)}{ep:Nat}{t:SetTable}{es':Array (Int×Value)}{t':SetTable} (ho:h.get? S=some o) (hd:o.data=.set es ep t) :
  (h.update S (Obj.putSet es' t')).get? S=some { o with data:=.set es' (ep+1) t' }:=by
 have:=Heap.get?_update_self (Obj.putSet es' t') ho (by rw[putSet_of es' t' hd]; rfl);rw[putSet_of es' t' hd] at this;exact this
theorem zhn {α:Type}{es:Array α}:∀{l:List Nat},(∀q∈l,q<es.size)->∃l':List α,l.filterMap (es[·]?)=l'/\l'.length=l.length/\(∀x∈l',x∈es.toList)/\(∀(i q:Nat),l[i]?=some q->l'[i]?=es[q]?)
 | [],_=>⟨[],rfl,rfl,(fun x hx=>by cases hx),(fun i q e=>by cases i <;> simp at e)⟩
 | q::l,h=>by
  obtain⟨l',e1,e2,e3,e4⟩:=zhn (l:=l) fun x hx=>h x (Ax _ hx);have hq:=h q AB;refine⟨es[q]::l',?_,by rw[As,As,e2],fun x hx=>?_,fun i p e=>?_⟩
  ·rw[List.filterMap_cons,getElem?_pos es q hq,e1]
  ·rcases List.mem_cons.mp hx with rfl | hx
   ·simp
   ·exact e3 x hx
  ·cases i with
   | zero=>simp at e; subst e; simp[getElem?_pos es q hq]
   | succ i=>simp at e ⊢; exact e4 i p e
theorem ziQ {B:List Addr}{S:Addr}{o:Obj}{es:Array (Int×Value)}{ep:Nat}{t:SetTable}{ks:List (List K)}{want m2:Nat} (hat:s.heap.get? S=some o) (hex:o.ExactSet) (hd:o.data=.set es ep t) (T:Tb t (es.map (·.1)))
  (hsz:es.size=ks.length) (nd:ks.Nodup) (ad:∀e∈es.toList,∃b∈B,e.2=Value.ref b) (el:∀e∈es.toList,∃k b,k∈ks/\e=(Av knd k,Value.ref b)/\AW knd s.heap k b) (ke:∀k∈ks,∃b,(Av knd k,Value.ref b)∈es.toList/\AW knd s.heap k b)
  (hw:SetTable.sizeAbove want - 1=m2) (hw2:SetTable.sizeAbove want<=sizeLine) (hc:Cov m2) (ho:m2 % 2=1) (hr:es.size<=m2) (hz:es.size<=1000)
  (hmk:(m2=7/\es.size<=4) \/ (m2=31/\es.size<=18) \/ (m2=127/\es.size<=76) \/ (m2=15/\es.size<=8) \/ (m2=63/\es.size<=37) \/ (m2=255/\es.size<=152)) (wk:w.params.followText "set-order"=true \/ (t.led=true/\t.plain=true)) {Q:Unit->Shared->Prop}
  (h:∀h' o' es' ep' t',TS knd h' S o' es' ep' t' ks B->A2 S s.heap h'->Q () { s with heap:=h' }):wpAny (model prog w) A (setRelay S want) Q E s:=by
 have fit:=fits_of T;unfold setRelay;refine Aa (wpAny_setState_of hat hd fit ?_);dsimp only;rw[if_neg (Nat.not_lt.mpr hw2)];obtain⟨t2,order,e1,e2,e3,e4,e5,e6,e7,e8⟩:=zhU hc ho t.finger (t.movedTo m2) t.led t.plain (es.map (·.1)) (by rw[A0]; exact hr);have er:t.relaid (es.map (·.1)) want=some (t2,order):=by
  unfold SetTable.relaid;rw[hw];exact e1
 rw[A0] at e5 e7;obtain⟨l',f1,f2,f3,f4⟩:=zhn (es:=es) e7;have eo:order.filterMap (es[·]?)=l'.toArray:=by
  apply Array.toList_inj.mp;rw[Array.toList_filterMap,f1]
 have hl:l'.length=es.size:=by rw[f2,Az,e5]
 rw[er];refine Aa ?_;show wpAny _ _ (ite (((order.filterMap (es[·]?)).size != es.size)=true) _ _) _ _ _;rw[if_neg (by rw[eo,Ai,hl]; simp),eo];refine Ac ?_;dsimp only;have hes:(l'.toArray.map (·.1))=order.map fun q=>((es.map (·.1))[q]?).getD 0:=by
  apply Array.ext_getElem?;intro i;rw[Array.getElem?_map,Array.getElem?_map,List.getElem?_toArray];cases q:order[i]? with
  | none=>
   have:order.toList.length<=i:=by rw[Az]; exact Array.getElem?_eq_none_iff.mp q
   rw[List.getElem?_eq_none (by omega)]
   rfl
  | some p=>
   have e:=f4 i p (by rw[AH]; exact q);have hp:=e7 p (by rw[<- AH] at q; exact Aq q);rw[e,getElem?_pos es p hp];simp[hp]
 have T2:Tb t2 (l'.toArray.map (·.1)):=by rw[hes]; exact e8
 have hne:∀q,q<es.size->q∈order.toList:=fun q hq=>Classical.byContradiction fun z=>by
  have nd2:(q::order.toList).Nodup:=List.nodup_cons.mpr ⟨z,e6⟩;have sub:(q::order.toList) ⊆ Bc es.size:=fun x hx=>by
   rcases List.mem_cons.mp hx with rfl | hx
   ·exact List.mem_range.mpr hq
   ·exact List.mem_range.mpr (e7 x hx)
  have:=nd2.length_le_of_subset sub;rw[As,Az,e5,List.length_range] at this;omega
 refine wpAny_storeSet_of hat hd ?_ (by rw[Ai,hl,sizeLine_eq]; omega);refine h _ { o with data:=.set l'.toArray (ep+1) t2 } l'.toArray (ep+1) t2 ?_ (AZ ..);have sb:A2 S s.heap (s.heap.update S (Obj.putSet l'.toArray t2)):=AZ ..;refine⟨zbk hat hd,hex,rfl,T2,by rw[Ai,hl]; exact hsz,nd,fun e he=>?_,fun k hk=>?_,?_,fun e he=>ad e (f3 e he),by rw[e3,e4]; exact wk⟩
 ·obtain⟨k,b,a1,a2,a3⟩:=el e (f3 e he)
  exact⟨k,b,a1,a2,zaP a3 hat hd sb⟩
 ·obtain⟨b,a1,a2⟩:=ke k hk
  refine⟨b,?_,zaP a2 hat hd sb⟩;obtain⟨q,hq,eq⟩:=List.mem_iff_getElem.mp a1;rw[Az] at hq;obtain⟨i,hi,ei⟩:=List.mem_iff_getElem.mp (hne q hq);have e:=f4 i q (by rw[Ag hi,ei]);refine Aq (i:=i) ?_;rw[e,<- eq];simp[hq]
 ·rw[e2,Ai,hl]
  exact hmk
theorem ins_map {α β:Type} (f:α->β) (xs:Array α) (p:Nat) (x:α) (hp:p<=xs.size):(insertAt xs p x).map f=insertAt (xs.map f) p (f x):=by
 apply Array.ext_getElem?;intro i;rw[Array.getElem?_map,zag _ _ _ hp,zag _ _ _ (by rw[A0]; exact hp),Array.getElem?_map,Array.getElem?_map]
 by_cases h1:i<p
 ·rw[if_pos h1,if_pos h1]
 ·rw[if_neg h1,if_neg h1]
  by_cases h2:i=p
  ·rw[if_pos h2,if_pos h2]; rfl
  ·rw[if_neg h2,if_neg h2]
theorem ins_mem {α:Type}{xs:Array α}{p:Nat}{x y:α} (hp:p<=xs.size):y∈(insertAt xs p x).toList ↔ y=x \/ y∈xs.toList:=by
 constructor
 ·intro h
  obtain⟨i,hi,e⟩:=List.mem_iff_getElem.mp h;have e2:(insertAt xs p x)[i]?=some y:=by rw[<- AH,Ag hi,e]
  rw[zag _ _ _ hp] at e2
  by_cases h1:i<p
  ·rw[if_pos h1,<- AH] at e2; exact .inr (Aq e2)
  ·rw[if_neg h1] at e2
   by_cases h2:i=p
   ·rw[if_pos h2] at e2; exact .inl (Ao e2).symm
   ·rw[if_neg h2,<- AH] at e2; exact .inr (Aq e2)
 ·rintro (rfl | h)
  ·refine Aq (i:=p) ?_
   rw[AH,zag _ _ _ hp,if_neg (Nat.lt_irrefl _),if_pos rfl]
  ·obtain⟨i,hi,e⟩:=List.mem_iff_getElem.mp h
   have e2:xs[i]?=some y:=by rw[<- AH,Ag hi,e]
   by_cases h1:i<p
   ·refine Aq (i:=i) ?_
    rw[AH,zag _ _ _ hp,if_pos h1]; exact e2
   ·refine Aq (i:=i+1) ?_
    rw[AH,zag _ _ _ hp,if_neg (by omega),if_neg (by omega),Nat.add_sub_cancel]; exact e2
theorem zlA {B:List Addr}{S:Addr}{o:Obj}{es:Array (Int×Value)}{ep:Nat}{t:SetTable}{ks:List (List K)} (X:TS knd s.heap S o es ep t ks B) (hu:A.units<cLine) (hv:∀k v n,knd.is k v=true->hashByValue n v=pure true)
  {k:List K} {b:Addr} (hk:AW knd s.heap k b) (hbB:b∈B) (hn:ks.length<60) {Q:Bool->Shared->Prop}
  (h:∀(r:Bool) h' o' es' ep' t',TS knd h' S o' es' ep' t' (if k∈ks then ks else ks++[k]) B->A2 S s.heap h'->Q r { s with heap:=h' }):wpAny (model prog w) A (setAddHashed S (.ref b) (Av knd k)) Q E s:=by
 unfold setAddHashed;refine AJ ?_;have T:=X.tb;have fit:=fits_of T;have X':TS knd s.heap S o es ep t ks B:=X;unfold setAddHashedIn;refine Aa (wpAny_setState_of (s:=s) X.at_ X.dt fit ?_);dsimp only;have nb:byScan (.ref b) es=false:=rfl;rw[nb];simp only[Aj,if_false];obtain⟨ne,hne,he,hm⟩:=zc3 T (Av knd k);refine Aa ?_;unfold setSearch;refine zgP (s:=s) X' hu hk hne he hm (fun hin r0 _=>?_) (fun hout=>?_) 100000 0 none ?_ (AV _) rfl (fun m i c hm'=>absurd hm' (Nat.not_lt_zero _))
 ·dsimp only
  refine Ac (h false s.heap o es ep t ?_ (Heap.SameBut.refl ..));rw[if_pos hin];exact X
 ·dsimp only
  refine Aa (wpAny_setState_of (s:=s) X.at_ X.dt fit ?_);dsimp only;have hroom:(es.map (·.1)).size+1<=t.mask:=by
   rw[A0];rcases X.msk with ⟨a,b⟩ | ⟨a,b⟩ | ⟨a,b⟩ | ⟨a,b⟩ | ⟨a,b⟩ | ⟨a,b⟩ <;> omega
  obtain⟨p1,p2,p3⟩:=zjE T he hm hroom;rw[A0] at p1;obtain⟨t1,p,eput⟩:∃t1 p,t.put (pos t.mask (Av knd k) ne)=(t1,p):=⟨_,_,rfl⟩;rw[eput] at p1 p2 p3 ⊢;dsimp only at p1 p2 p3 ⊢;have hnin:k∉ks:=hout;have hsz2:(insertAt es p (Av knd k,Value.ref b)).size=es.size+1:=zbO _ _ _ p1;have hlen:=X.sz;have hle:es.size<60:=by omega
  have hst:∀t2:SetTable,Tb t2 (insertAt (es.map (·.1)) p (Av knd k))->t2.mask=t.mask->wpAny (model prog w) A (storeSet S (insertAt es p (Av knd k,Value.ref b)) t2)
    (fun _ s'=>∃h',s'={ s with heap:=h' }/\h'.get? S=some { o with data:=.set (insertAt es p (Av knd k,Value.ref b)) (ep+1) t2 }/\A2 S s.heap h') E s:=fun t2 T2 m2=>
   wpAny_storeSet_of (s:=s) X.at_ X.dt ⟨_,rfl,zbk X.at_ X.dt,AZ ..⟩ (by rw[hsz2,sizeLine_eq]; omega)
  have emap:(insertAt es p (Av knd k,Value.ref b)).map (·.1)=insertAt (es.map (·.1)) p (Av knd k):=ins_map (·.1) es p _ p1;have knd2:(ks++[k]).Nodup:=by
   rw[List.nodup_append];refine⟨X.nd,by simp,fun x hx y hy=>?_⟩;rw[List.mem_singleton.mp hy];exact fun z=>hnin (z ▸ hx)
  have els:∀h',A2 S s.heap h'->∀e∈(insertAt es p (Av knd k,Value.ref b)).toList,∃k' b',k'∈ks++[k]/\e=(Av knd k',Value.ref b')/\AW knd h' k' b':=fun h' hsb e he=>by
   rcases (ins_mem p1).mp he with rfl | he
   ·exact⟨k,b,by simp,rfl,zaP hk X.at_ X.dt hsb⟩
   ·obtain⟨k',b',a1,a2,a3⟩:=X.el e he
    exact⟨k',b',List.mem_append_left _ a1,a2,zaP a3 X.at_ X.dt hsb⟩
  have kes:∀h',A2 S s.heap h'->∀k'∈ks++[k],∃b',(Av knd k',Value.ref b')∈(insertAt es p (Av knd k,Value.ref b)).toList/\AW knd h' k' b':=fun h' hsb k' hk'=>by
   rcases List.mem_append.mp hk' with hk' | hk'
   ·obtain⟨b',a1,a2⟩:=X.ke k' hk'
    exact⟨b',(ins_mem p1).mpr (.inr a1),zaP a2 X.at_ X.dt hsb⟩
   ·rw[List.mem_singleton.mp hk']
    exact⟨b,(ins_mem p1).mpr (.inl rfl),zaP hk X.at_ X.dt hsb⟩
  have ads:∀e∈(insertAt es p (Av knd k,Value.ref b)).toList,∃b'∈B,e.2=Value.ref b':=fun e he=>by
   rcases (ins_mem p1).mp he with rfl | he
   ·exact⟨b,hbB,rfl⟩
   ·exact X.ad e he
  have hlast:∀(t2:SetTable) (h':Heap),Tb t2 (insertAt (es.map (·.1)) p (Av knd k))->t2.mask=t.mask->(w.params.followText "set-order"=true \/ (t2.led=true/\t2.plain=true))->h'.get? S=some { o with data:=.set (insertAt es p (Av knd k,Value.ref b)) (ep+1) t2 }->A2 S s.heap h'->
    wpAny (model prog w) A (if (!false && t2.tooFull)=true then (setRelay S (SetTable.grown (es.size+1)) >>= fun _=>pure true) else pure true) Q E { s with heap:=h' }:=fun t2 h' T2 m2 wk2 hg hsb=>by
   have T2':Tb t2 ((insertAt es p (Av knd k,Value.ref b)).map (·.1)):=by rw[emap]; exact T2
   have fl:t2.fill=es.size+1:=by
    unfold SetTable.fill;rw[T2'.dum,T2'.size,A0,hsz2]
    rfl
   have tf:t2.tooFull=decide ((es.size+1)*5 ≥ t.mask*3):=by unfold SetTable.tooFull; rw[fl,m2]
   have lk:es.size+1=(ks++[k]).length:=by rw[At,hlen]; rfl
   have stay:((es.size+1)*5<t.mask*3)->((t2.mask=7/\es.size+1<=4) \/ (t2.mask=31/\es.size+1<=18) \/ (t2.mask=127/\es.size+1<=76) \/ (t2.mask=15/\es.size+1<=8) \/ (t2.mask=63/\es.size+1<=37) \/ (t2.mask=255/\es.size+1<=152))->wpAny (model prog w) A (if (!false && t2.tooFull)=true then (setRelay S (SetTable.grown (es.size+1)) >>= fun _=>pure true) else pure true) Q E { s with heap:=h' }:=fun q mk=>by
    rw[tf,decide_eq_false (by omega)];simp only[Bool.and_false,Aj,if_false];refine Ac (h true h' { o with data:=.set (insertAt es p (Av knd k,Value.ref b)) (ep+1) t2 } (insertAt es p (Av knd k,Value.ref b)) (ep+1) t2 ?_ hsb);rw[if_neg hnin];exact⟨hg,X.ex,rfl,T2',by rw[hsz2]; exact lk,knd2,els h' hsb,kes h' hsb,by rw[hsz2]; exact mk,ads,wk2⟩
   have grow:∀m3 n,es.size+1=n->((es.size+1)*5 ≥ t.mask*3)->SetTable.sizeAbove (SetTable.grown n) - 1=m3->SetTable.sizeAbove (SetTable.grown n)<=1000->Cov m3->m3 % 2=1->es.size+1<=m3->((m3=7/\es.size+1<=4) \/ (m3=31/\es.size+1<=18) \/ (m3=127/\es.size+1<=76) \/ (m3=15/\es.size+1<=8) \/ (m3=63/\es.size+1<=37) \/ (m3=255/\es.size+1<=152))->
     wpAny (model prog w) A (if (!false && t2.tooFull)=true then (setRelay S (SetTable.grown (es.size+1)) >>= fun _=>pure true) else pure true) Q E { s with heap:=h' }:=fun m3 n en q w1 w2 c1 c2 c3 mk=>by
    rw[tf,decide_eq_true q];simp only[Bool.not_false,Bool.and_self,if_true];subst en;refine Aa (ziQ (s:={ s with heap:=h' }) (ks:=ks++[k]) hg X.ex rfl T2' (by rw[hsz2]; exact lk) knd2 ads (els h' hsb) (kes h' hsb) w1 (by rw[sizeLine_eq]; omega) c1 c2 (by rw[hsz2]; exact c3) (by rw[hsz2]; omega) (by rw[hsz2]; exact mk) wk2 fun h'' o'' es'' ep'' t'' X'' hsb2=>?_);refine Ac (h true h'' o'' es'' ep'' t'' ?_ (hsb.trans hsb2));rw[if_neg hnin];exact X''
   rcases X.msk with ⟨a,c⟩ | ⟨a,c⟩ | ⟨a,c⟩ | ⟨a,c⟩ | ⟨a,c⟩ | ⟨a,c⟩
   ·by_cases q:es.size+1<=4
    ·exact stay (by omega) (.inl ⟨by omega,q⟩)
    ·exact grow 31 5 (by omega) (by omega) (by decide +kernel) (by decide +kernel) cov31 rfl (by omega) (.inr (.inl ⟨rfl,by omega⟩))
   ·by_cases q:es.size+1<=18
    ·exact stay (by omega) (.inr (.inl ⟨by omega,q⟩))
    ·exact grow 127 19 (by omega) (by omega) (by decide +kernel) (by decide +kernel) cov127 rfl (by omega) (.inr (.inr (.inl ⟨rfl,by omega⟩)))
   ·exact stay (by omega) (.inr (.inr (.inl ⟨by omega,by omega⟩)))
   ·by_cases q:es.size+1<=8
    ·exact stay (by omega) (.inr (.inr (.inr (.inl ⟨by omega,q⟩))))
    ·exact grow 63 9 (by omega) (by omega) (by decide +kernel) (by decide +kernel) cov63 rfl (by omega) (.inr (.inr (.inr (.inr (.inl ⟨rfl,by omega⟩)))))
   ·by_cases q:es.size+1<=37
    ·exact stay (by omega) (.inr (.inr (.inr (.inr (.inl ⟨by omega,q⟩)))))
    ·exact grow 255 38 (by omega) (by omega) (by decide +kernel) (by decide +kernel) cov255 rfl (by omega) (.inr (.inr (.inr (.inr (.inr ⟨rfl,by omega⟩)))))
   ·exact stay (by omega) (.inr (.inr (.inr (.inr (.inr ⟨by omega,by omega⟩)))))
  have wk1:w.params.followText "set-order"=true \/ (t1.led=true/\t1.plain=true):=by
   have e1:t1=(t.put (pos t.mask (Av knd k) ne)).1:=by rw[eput]
   have e2:t1.led=t.led:=by rw[e1]; rfl
   have e3:t1.plain=t.plain:=by rw[e1]; rfl
   rw[e2,e3];exact X.wk
  cases hpl:t1.plain with
  | true=>
   simp only[if_true];refine Aa (zlE (s:=s) hv hk ?_);simp only[if_true];refine Aa (Ba (hst t1 p3 p2) (fun _ s' hs'=>?_) fun _ _ e=>e);obtain⟨h',rfl,g1,g2⟩:=hs';exact hlast t1 h' p3 p2 wk1 g1 g2
  | false=>
   simp only[Aj,if_false];refine Aa (Ac ?_);simp only[if_true];refine Aa (Ba (hst t1 p3 p2) (fun _ s' hs'=>?_) fun _ _ e=>e);obtain⟨h',rfl,g1,g2⟩:=hs';exact hlast t1 h' p3 p2 wk1 g1 g2
 ·have:t.mask<=255:=by rcases X.msk with ⟨a,_⟩ | ⟨a,_⟩ | ⟨a,_⟩ | ⟨a,_⟩ | ⟨a,_⟩ | ⟨a,_⟩ <;> omega
  unfold turns at hne;omega
theorem zmA {B:List Addr}{S:Addr}{o:Obj}{es:Array (Int×Value)}{ep:Nat}{t:SetTable}{ks:List (List K)} (X:TS knd s.heap S o es ep t ks B) (hu:A.units<cLine) (hv:∀k v n,knd.is k v=true->hashByValue n v=pure true)
  {k:List K} {b:Addr} (hk:AW knd s.heap k b) (hbB:b∈B) (hn:ks.length<60) {Q:Bool->Shared->Prop}
  (h:∀(r:Bool) h' o' es' ep' t',TS knd h' S o' es' ep' t' (if k∈ks then ks else ks++[k]) B->A2 S s.heap h'->Q r { s with heap:=h',toks:=s.toks+(k.length+1) }):wpAny (model prog w) A (setAdd S (.ref b)) Q E s:=by
 unfold setAdd;exact AJ (Aa (wpAny_pyHash_tuple hu hk (zlA (s:={ s with toks:=s.toks+(k.length+1) }) X hu hv hk hbB hn h)))
end
end STb
end
section
namespace STb
def dd {α:Type} [DecidableEq α] (l:List α):List α:=l.foldl (fun acc x=>if x∈acc then acc else acc++[x]) []
theorem zbX {α:Type} [DecidableEq α] (l:List α) (x:α):dd (l++[x])=if x∈dd l then dd l else dd l++[x]:=by unfold dd; rw[List.foldl_append]; rfl
theorem zb6 {α:Type} [DecidableEq α] (l:List α):(dd l).length<=l.length:=by
 have:∀(l acc:List α),(l.foldl (fun acc x=>if x∈acc then acc else acc++[x]) acc).length<=acc.length+l.length:=by
  intro l
  induction l with
  | nil=>intro acc; simp
  | cons x l ih=>
   intro acc;rw[List.foldl_cons];refine AF (ih _) ?_;split
   ·rw[As]; omega
   ·rw[At,As,As,List.length_nil]; omega
 simpa[dd] using this l []
theorem zay {α:Type} [DecidableEq α] (l:List α) (x:α):x∈dd l ↔ x∈l:=by
 have:∀(l acc:List α),x∈(l.foldl (fun acc x=>if x∈acc then acc else acc++[x]) acc) ↔ x∈acc \/ x∈l:=by
  intro l
  induction l with
  | nil=>intro acc; simp
  | cons y l ih=>
   intro acc;rw[List.foldl_cons,ih]
   by_cases h:y∈acc
   ·rw[if_pos h,List.mem_cons]
    constructor
    ·rintro (q | q)
     ·exact .inl q
     ·exact .inr (.inr q)
    ·rintro (q | q | q)
     ·exact .inl q
     ·subst q; exact .inl h
     ·exact .inr q
   ·rw[if_neg h,List.mem_append,List.mem_singleton,List.mem_cons]
    constructor
    ·rintro ((q | q) | q)
     ·exact .inl q
     ·exact .inr (.inl q)
     ·exact .inr (.inr q)
    ·rintro (q | q | q)
     ·exact .inl (.inl q)
     ·exact .inl (.inr q)
     ·exact .inr q
 simpa[dd] using this l []
theorem zas {α:Type} [DecidableEq α] (l:List α):(dd l).Nodup:=by
 have:∀(l acc:List α),acc.Nodup->(l.foldl (fun acc x=>if x∈acc then acc else acc++[x]) acc).Nodup:=by
  intro l
  induction l with
  | nil=>intro acc h; exact h
  | cons y l ih=>
   intro acc h;rw[List.foldl_cons]
   by_cases q:y∈acc
   ·rw[if_pos q]; exact ih acc h
   ·rw[if_neg q]
    refine ih _ ?_;rw[List.nodup_append];refine⟨h,by simp,fun a ha b hb e=>?_⟩;rw[List.mem_singleton] at hb;subst hb; subst e; exact q ha
 exact this l [] List.nodup_nil
theorem zdw {α:Type} [DecidableEq α] (l m:List α):(dd (l++m)).length<=(dd l).length+m.length:=by
 have:∀(m acc:List α),(m.foldl (fun acc x=>if x∈acc then acc else acc++[x]) acc).length<=acc.length+m.length:=by
  intro m
  induction m with
  | nil=>intro acc; simp
  | cons x l ih=>
   intro acc;rw[List.foldl_cons];refine AF (ih _) ?_;split
   ·rw[As]; omega
   ·rw[At,As,As,List.length_nil]; omega
 unfold dd;rw[List.foldl_append];exact this m _
theorem ziL {α:Type} [DecidableEq α] (l:List α) (h:∀(k:Nat) x,l[k]?=some x->x∉l.take k):dd l=l:=by
 have:∀k,k<=l.length->dd (l.take k)=l.take k:=by
  intro k
  induction k with
  | zero=>intro _; rfl
  | succ k ih=>
   intro hk;have hx:l[k]?=some l[k]:=Ag (by omega);rw[List.take_add_one,hx];show dd (l.take k++[l[k]])=_;rw[zbX,ih (by omega),if_neg (h k _ hx)]
   rfl
 have q:=this l.length (Af _);rw[Ay (Af _)] at q;exact q
theorem zij {α:Type} [DecidableEq α] (l:List α) {k:Nat}{x:α} (h:l[k]?=some x) (hx:x∈l.take k):(dd l).length<l.length:=by
 have hk:k<l.length:=(List.getElem?_eq_some_iff.mp h).1;have e:l=(l.take k++[x])++l.drop (k+1):=by
  have:=List.take_append_drop (k+1) l;rw[List.take_add_one,h] at this;exact this.symm
 have h1:=zdw (l.take k++[x]) (l.drop (k+1));rw[<- e,zbX,if_pos ((zay _ _).mpr hx)] at h1;have h2:=zb6 (l.take k);rw[AS] at h2;rw[List.length_drop] at h1;omega
theorem zmx {α:Type} [DecidableEq α] (l:List α):(dd l).length<l.length ↔ ∃(k:Nat) (x:α),l[k]?=some x/\x∈l.take k:=by
 constructor
 ·intro h
  apply Classical.byContradiction;intro n;have:=ziL l fun k x e hx=>n ⟨k,x,e,hx⟩;rw[this] at h;exact Nat.lt_irrefl _ h
 ·rintro⟨k,x,e,hx⟩
  exact zij l e hx
end STb
end
section
set_option maxHeartbeats 3200000
namespace STb
open PySem PySem.SetTable PyProof.Rows
section
variable {prog:Program}{w:World}{K:Type} [DecidableEq K] {knd:KeyKind prog w K}{A:Around}{R:Result->Shared->Prop}{I:Addr}{fp wr:List Addr}{G:Array GenState->Array GenState->Prop}{n:Nat}{P:Nat->Value->Prop}{St:Nat->Shared->Prop}
theorem TS.moved {B:List Addr}{h h':Heap}{S:Addr}{o:Obj}{es:Array (Int×Value)}{ep:Nat}{t:SetTable}{ks:List (List K)} (X:TS knd h S o es ep t ks B) (hS:h'.get? S=some o) (hk:∀k b,AW knd h k b->AW knd h' k b):TS knd h' S o es ep t ks B:=
 ⟨hS,X.ex,X.dt,X.tb,X.sz,X.nd,fun e he=>let ⟨k,b,a1,a2,a3⟩:=X.el e he; ⟨k,b,a1,a2,hk k b a3⟩,fun k hk'=>let ⟨b,a1,a2⟩:=X.ke k hk'; ⟨b,a1,hk k b a2⟩,X.msk,X.ad,X.wk⟩
theorem ziU {h h':Heap}{k:List K}{b:Addr} (hk:AW knd h k b) (e:∀o,h.get? b=some o->h'.get? b=some o):AW knd h' k b:=by
 obtain⟨o,items,n,ho,r⟩:=hk;exact⟨o,items,n,e o ho,r⟩
theorem ziV {B:List Addr} (W:WalksS prog w A.in1 I fp wr G n P St) (hu:A.in1.units<cLine) (hv:∀k v n,knd.is k v=true->hashByValue n v=pure true) (S:Addr) (hSf:S∉fp) (vals:List (List K)) (adr:Nat->Addr) (hn:vals.length=n) (hB:∀i,i<n->adr i∈B) (hz:n<=59)
  (hval:∀i v,P i v->v=.ref (adr i)) (hna:∀b o,(∃items m,o.cls=Value.type "tuple"/\o.data=.seq items m)->∀s i,St i s->s.heap.get? b=some o->b∉wr) :
  ∀(k i:Nat) (s:Shared),n - i=k->i<=n->St i s->(∃o es ep t,TS knd s.heap S o es ep t (dd (vals.take i)) B)->(∀(j:Nat) (x:List K),vals[j]?=some x->AW knd s.heap x (adr j))->
   (∀s',Moved (S::wr) G s s'->(∃o es ep t,TS knd s'.heap S o es ep t (dd vals) B)->R (.ok (.ret .none)) s')->codeAny (model prog w) A (.builtin "set.update.loop" ⟨[.ref S,.ref I],[]⟩) R s:=by
 have hSw:S∉wr:=fun h=>hSf (W.sub _ h);have hsub:∀b∈wr,b∈S::wr:=fun b hb=>Ax _ hb;have kmove:∀{i:Nat} {s s':Shared} {x:List K} {b:Addr},St i s->Moved wr G s s'->AW knd s.heap x b->AW knd s'.heap x b:=fun {i s s' x b} hst hm hk=>by
  obtain⟨o,items,m,ho,hc,hd,hi⟩:=id hk;exact⟨o,items,m,hm.heap b o (hna b o ⟨items,m,hc,hd⟩ s i hst ho) ho,hc,hd,hi⟩
 intro k
 induction k with
 | zero=>
  intro i s hk hi hst hS hT hR;have hin:i=n:=by omega
  subst hin;refine A6 F.entry_set_update_loop ?_;rw[A1 F.plain_set_update_loop _];show wpAny _ A.in1 (pyNext (.ref I) >>= _) _ _ s;refine Aa (W.done s _ _ hst fun s' hm=>?_);show wpAny _ A.in1 (ret Value.none) _ _ s';refine Ac (hR s' (hm.mono hsub) ?_);obtain⟨o,es,ep,t,X⟩:=hS;rw[Ay (by omega)] at X;exact⟨o,es,ep,t,X.moved (hm.heap S _ hSw X.at_) fun k b hk=>kmove hst hm hk⟩
 | succ k ih=>
  intro i s hk hi hst hS hT hR;have hlt:i<n:=by omega
  refine A6 F.entry_set_update_loop ?_;rw[A1 F.plain_set_update_loop _];show wpAny _ A.in1 (pyNext (.ref I) >>= _) _ _ s;refine Aa (W.item i s _ _ hlt hst fun v s' hP hst' hm=>?_);obtain rfl:=hval i v hP;obtain⟨o,es,ep,t,X⟩:=hS;have X':TS knd s'.heap S o es ep t (dd (vals.take i)) B:=X.moved (hm.heap S _ hSw X.at_) fun k b hk=>kmove hst hm hk;have hx:vals[i]?=some vals[i]:=Ag (by omega);have hlen:=zb6 (vals.take i);rw[AS] at hlen;show wpAny _ A.in1 (holding [Value.ref (adr i)] (setAdd S (.ref (adr i))) >>= _) _ _ s';refine Aa (AJ (zmA X' hu hv (kmove hst hm (hT i _ hx)) (hB i hlt) (by omega) fun r h' o' es' ep' t' X2 hsb=>?_));have htk:s'.toks<=s'.toks+(vals[i].length+1):=Nat.le_add_right _ _;have st2:St (i+1) { s' with heap:=h',toks:=s'.toks+(vals[i].length+1) }:=W.frame _ s' _ _ hst' htk fun b hb o2 e=>by
   rw[hsb.2 b (fun h:b=S=>hSf (by rw[<- h]; exact hb))]; exact e
  have etake:vals.take (i+1)=vals.take i++[vals[i]]:=by rw[List.take_add_one,hx]; rfl
  have X3:TS knd h' S o' es' ep' t' (dd (vals.take (i+1))) B:=by
   rw[etake,zbX]
   by_cases q:vals[i]∈dd (vals.take i)
   ·rw[if_pos q] at X2 ⊢; exact X2
   ·rw[if_neg q] at X2 ⊢; exact X2
  refine Ac ⟨plainId_quiet F.plain_set_update_loop _,ih (i+1) _ (by omega) hlt st2 ⟨o',es',ep',t',X3⟩ (fun j x hj=>zaP (kmove hst hm (hT j x hj)) X'.at_ X'.dt hsb) fun s'' hm'' hS''=>?_⟩;refine hR s'' (Moved.trans W.gtrans ((hm.mono hsub).then_heap htk fun b o2 hb e=>?_) hm'') hS'';rw[hsb.2 b (fun h:b=S=>hb (by rw[h]; exact AB))]; exact e
end
end STb
end
section
namespace STb
open PySem PySem.SetTable PyProof.Rows
section
variable {prog:Program}{w:World}{K:Type} [DecidableEq K] {knd:KeyKind prog w K}{A:Around}{E:Value->Shared->Prop}{s:Shared}
theorem zfL (a:Value) {Q₁:Value->Shared->Prop} (h:Q₁ (.ref s.heap.objs.size) { s with heap:=s.heap.push { cls:=.type "set",dict:=none,data:=.set #[] 0 (.fresh 0 0 (!w.params.followText "set-order")) } }) :
  codeAny (model prog w) A (.call (.builtin "set.__new__") ⟨[.type "set",a],[]⟩) (wants Q₁ E) s:=by
 refine codeAny_of_tree (show wpAny _ A.in1 (do checkBuiltinCall "set.__new__" ⟨[.type "set",a],[]⟩; again (.builtin "set.__new__" ⟨[.type "set",a],[]⟩)) _ _ s from Aa (wpAny_of_eq (F.newCall_set_1 a) (Ac ⟨plainId_quiet F.plain_set_new _,A6 F.entry_set_new ?_⟩)));rw[A1 F.plain_set_new _]; unfold Builtin.«set.__new__» Builtin.Frozenset.newClass;have hsub:=sub_set_self; obtain⟨hp,g,d,tk,os⟩:=s;dsimp only; wp_walk;refine wpAny_askSetting (Ac ?_); dsimp only; simp only[newObj];exact Aa (wpAny_alloc (Ac (Ac h)))
theorem zcy {B:List Addr}{l:Addr}{items:Array Value}{vals:List (List K)}{adr:Nat->Addr}{Q:Value->Shared->Prop}
  (hh:A.handled=none) (hl:s.heap.IsList l items) (hu:A.units+64<cLine) (hv:∀k v n,knd.is k v=true->hashByValue n v=pure true) (hz:items.size<=59) (hn:vals.length=items.size) (hB:∀i,i<items.size->adr i∈B)
  (hit:∀(i:Nat) v,items[i]?=some v->v=.ref (adr i)) (hT:∀(j:Nat) x,vals[j]?=some x->AW knd s.heap x (adr j))
  (h:∀h' tk,(∃o es ep t,TS knd h' s.heap.objs.size o es ep t (dd vals) B)->(∀b o,b<s.heap.objs.size->s.heap.get? b=some o->h'.get? b=some o)->Q (.ref s.heap.objs.size) { s with heap:=h',toks:=tk }) :
  wpAny (model prog w) A (call (.type "set") [.ref l]) Q E s:=by
 obtain⟨c,tl,hmro⟩:=F.called_set.mro;have hmade:=F.called_set.made;have hsub:=F.called_set.sub;refine wpAny_call (codeAny_of_tree ?_);show wpAny _ _ (callAny (.type "set") _) _ _ _;refine Ac ⟨Code.quiet_builtin _ (by decide +kernel),A6 F.entry_type_call ?_⟩;rw[Around.under_plain (weight_type_call_type "set" [.ref l] []) rfl];have h1:=F.called_set.notType;have h2:=F.called_set.canCreate;have hct:=F.typeCall_set_1 (.ref l)
 repeat (any_goals (first | assumption | wp_step))
 refine codeAny_mono (zfL (.ref l) (E:=E) (Q₁:=fun obj s₁=>∃led:Bool,(w.params.followText "set-order"=true \/ led=true)/\obj=.ref s.heap.objs.size/\s₁={ s with heap:=s.heap.push { cls:=.type "set",dict:=none,data:=.set #[] 0 (.fresh 0 0 led) } }) ⟨_,by cases w.params.followText "set-order" <;> simp,rfl,rfl⟩) fun r s₁ hr=>?_;cases r with
 | error e=>exact hr
 | ok fl=>
  cases fl with
  | ret obj=>
   obtain⟨led,hled,rfl,rfl⟩:=hr;have hS:(s.heap.push { cls:=.type "set",dict:=none,data:=.set #[] 0 (.fresh 0 0 led) }).get? s.heap.objs.size=some { cls:=.type "set",dict:=none,data:=.set #[] 0 (.fresh 0 0 led) }:=Al _ rfl;have hTy:Shared.TypeIs { s with heap:=s.heap.push { cls:=.type "set",dict:=none,data:=.set #[] 0 (.fresh 0 0 led) } } (.ref s.heap.objs.size) "set":=⟨_,hS,rfl⟩;have hli:=F.called_set.init.lookup;have hbi:=F.called_set.init.bind (.ref s.heap.objs.size)
   repeat (any_goals (first | assumption | wp_step))
   refine codeAny_mono (codeAny_call_builtin (R:=wants (fun r s₂=>r=.none/\∃h' tk,s₂={ s with heap:=h',toks:=tk }/\
     (∃o es ep t,TS knd h' s.heap.objs.size o es ep t (dd vals) B)/\
     (∀b o,b<s.heap.objs.size->s.heap.get? b=some o->h'.get? b=some o)) E) F.called_set.init.plain F.entry_set_init (check_set_init_1 hTy ?_)) fun r₂ s₂ hr₂=>?_
   ·obtain⟨ol,hol,hcl,nl,hdl⟩:=hl
    obtain⟨ocls,odict,odata,oslots⟩:=ol;simp only at hcl hdl;subst hcl; subst hdl;have hol':(s.heap.push { cls:=.type "set",dict:=none,data:=.set #[] 0 (.fresh 0 0 led) }).get? l=some { cls:=.type "list",dict:=odict,data:=.seq items nl,slots:=oslots }:=Ad _ hol;have hsls:=F.sub_list_set;have hslf:=F.sub_list_frozenset;have hne:(Value.type "list" == Value.type "dict")=false:=by decide
    have hl1:(s.heap.push { cls:=.type "set",dict:=none,data:=.set #[] 0 (.fresh 0 0 led) }).IsList l items:=⟨_,hol',rfl,nl,rfl⟩;unfold Builtin.«set.__init__» noKeywords Builtin.Frozenset.updateFrom;generalize hPI:pyIter=PI
    wp_walk
    subst hPI;refine wpAny_pyIter_list hl1 ?_;refine Aa (wpAny_runValue ?_);have hlS:l<s.heap.objs.size:=Ah hol;have hh3:A.in1.in1.in1.handled=none:=by simp[hh]
    have hneI:l≠(s.heap.push { cls:=.type "set",dict:=none,data:=.set #[] 0 (.fresh 0 0 led) }).objs.size:=by
     rw[Heap.size_push]; exact An (AL hlS)
    have hSf:s.heap.objs.size∉[(s.heap.push { cls:=.type "set",dict:=none,data:=.set #[] 0 (.fresh 0 0 led) }).objs.size,l]:=by
     rw[Heap.size_push]; simp only[List.mem_cons,List.mem_singleton,List.not_mem_nil,or_false,not_or];exact⟨An (Nat.lt_succ_self _),Nat.ne_of_gt hlS⟩
    refine ziV (knd:=knd) ((Walks.list hh3 _ l hneI items).toS) (by show A.units+1+1+1<cLine; omega) hv s.heap.objs.size hSf vals adr hn hB hz (fun i v q=>hit i v q) (fun b o ho s' i st e hb=>?hna)
     (items.size - 0) 0 _ (by omega) (AV _) ⟨⟨_,Al _ rfl,rfl,rfl⟩,(hl1.push _)⟩ ⟨{ cls:=.type "set",dict:=none,data:=.set #[] 0 (.fresh 0 0 led) },#[],0,.fresh 0 0 led,?hS0⟩ (fun j x hx=>ziU (hT j x hx) fun o e=>Ad _ (Ad _ e)) ?hR
    case hna=>
     obtain⟨⟨oi,e1,e2,_⟩,_⟩:=st;obtain⟨its,m,hc,_⟩:=ho;simp only[List.mem_singleton] at hb;subst hb;have e3:=Ao (e1.symm.trans e);rw[<- e3,e2] at hc;exact absurd hc (by decide)
    case hS0=>
     have hget:((s.heap.push { cls:=.type "set",dict:=none,data:=.set #[] 0 (.fresh 0 0 led) }).push { cls:=.type "list_iterator",data:=.fields #[.ref l,.int 0 0] }).get? s.heap.objs.size
      =some { cls:=.type "set",dict:=none,data:=.set #[] 0 (.fresh 0 0 led) }:=Ad _ hS
     exact⟨hget,⟨rfl,rfl,rfl⟩,rfl,(by simpa using zfu 0 0 led),rfl,List.nodup_nil,fun e he=>by simp at he,fun k hk=>by simp[dd] at hk,.inl ⟨rfl,AV _⟩,(fun e he=>by simp at he),hled.imp id fun z=>⟨z,rfl⟩⟩
    case hR=>
     intro s' hm hS';obtain⟨h',g',d',tk',os'⟩:=s';have eg:g'=s.gens:=hm.gens;have ed:d'=s.drawn:=hm.drawn;have eo:os'=s.os:=hm.os;subst eg; subst ed; subst eo;show wpAny _ _ _ _ _ _;refine Ac ?_;show wpAny _ _ (ret Value.none) _ _ _;refine Ac ⟨rfl,h',tk',rfl,hS',fun b o hb e=>?_⟩;have hb1:b≠s.heap.objs.size:=An hb;have hb2:b≠(s.heap.push { cls:=.type "set",dict:=none,data:=.set #[] 0 (.fresh 0 0 led) }).objs.size:=by
      rw[Heap.size_push]; exact An (AL hb)
     exact hm.heap b o (by simp only[List.mem_cons,List.mem_singleton,List.not_mem_nil,or_false,not_or]; exact⟨hb1,hb2⟩) (Ad _ (Ad _ e))
   ·cases r₂ with
    | error e=>exact hr₂
    | ok fl₂=>
     cases fl₂ with
     | ret r=>
      obtain⟨rfl,h',tk,rfl,hS',hk'⟩:=hr₂
      repeat (any_goals (first | assumption | wp_step))
      exact h _ _ hS' hk'
     | _=>exact hr₂.elim
  | _=>exact hr.elim
end
end STb
namespace L2
open PySem PySem.Spec PyProof.Rows
def SetN (D:Addr) (n:Nat):HO:=.ext fun h=>∃o es ep t,h.get? D=some o/\o.ExactSet/\o.data=.set es ep t/\t.fits es.size=true/\es.size=n/\n<=100
section
variable {X:Cx}
theorem zli {prog:Program}{w:World}:∀(k:Int) (v:Value) (n:Nat),(intKind prog w).is k v=true->hashByValue n v=pure true:=by
 intro k v n h;obtain⟨t,rfl⟩:=Value.isInt_shape h;cases n <;> rfl
theorem zic {prog:Program}{w:World}{h:Heap}{c:Addr}{cs:List Value}{qs:List Int} (hc:IsTup h c cs.toArray) (hi:IntsAre cs qs):AW (intKind prog w) h qs c:=by
 obtain⟨o,e,hcl,k,d⟩:=hc;refine⟨o,cs.toArray,k,e,hcl,d,?_⟩;have:∀{cs:List Value} {qs:List Int},IntsAre cs qs->ItemsAre (intKind prog w) qs cs:=by
  intro cs qs hi
  induction hi with
  | nil=>exact .nil
  | cons n t h ih=>exact .cons (by show Value.isInt n (.int n t)=true; simp[Value.isInt]) ih
 simpa using this hi
theorem zd7 (hc:X.calm=true) (hu:X.A.units+64<cLine):zat X (.type "set") (fun xs H Q=>∃(l:Addr) (as:List Addr) (pss:List (List Int)),xs=[.ref l]/\SqL X.K H l (as.map V.ref)/\Tps H as pss/\pss.length<=59/\
  ∀D,H D=none->Q (.ref D) (upd H D (SetN D (STb.dd pss).length))):=by
 intro pins s σ H xs us Q I r h;obtain⟨l,as,pss,rfl,hq,hp,hz,q⟩:=h;obtain⟨u,rfl,ru⟩:=vals1 r;cases ru;obtain⟨its,r1,p1,_⟩:=I.list hq;obtain rfl:=vals_refs r1;have hla:=hp.length;refine STb.zcy (B:=as) (knd:=intKind X.prog X.w) (vals:=pss) (adr:=fun i=>as.getD i 0) (I.ok.hd hc) p1.isList hu zli (by rw[Ai,Ab]; omega) (by rw[Ai,Ab]; omega) (fun i hi=>by rw[Ai,Ab] at hi; rw[List.getD_eq_getElem?_getD,Ag hi]; exact List.getElem_mem hi)
  (fun i v e=>?_) (fun j x e=>?_) fun h' tk ⟨o,es,ep,t,T⟩ kk=>?_
 ·have e':(as.map Value.ref)[i]?=some v:=by simpa using e
  rw[Ap] at e';cases ea:as[i]? with
  | none=>rw[ea] at e'; simp at e'
  | some a=>
   rw[ea] at e';rw[<- Ao e',List.getD_eq_getElem?_getD,ea]
   rfl
 ·have hj:j<as.length:=by rw[hla]; exact (List.getElem?_eq_some_iff.mp e).1
  have ea:as[j]?=some as[j]:=Ag hj;obtain⟨ps',e1,e2⟩:=hp.get ea;rw[e] at e1;obtain rfl:=Ao e1;obtain⟨its,r2,p2,_⟩:=I.tuple (SqT.of (K:=X.K) e2);rw[List.getD_eq_getElem?_getD,ea];exact zic p2 (intsAre_of r2)
 ·have hlen:=STb.zb6 pss
  refine⟨.ref s.heap.objs.size,_,I.laid (o:=SetN s.heap.objs.size (STb.dd pss).length) (fun b u e=>kk b u (Ah e) e) (Af _) ?_,rfl,q _ (I.hok.fresh (Af _))⟩;refine⟨⟨o,es,ep,t,T.at_,T.ex,T.dt,STb.fits_of T.tb,T.sz,by omega⟩,⟨o,T.at_⟩,fun h1 h2 ⟨o',es',ep',t',g1,g2⟩ kp=>⟨o',es',ep',t',kp _ g1,g2⟩⟩
theorem zdo:zat X (.builtin "len") (fun xs H Q=>∃D n,xs=[.ref D]/\H D=some (SetN D n)/\Q (.int n) H):=by
 intro pins s σ H xs us Q I r h;obtain⟨D,n,rfl,hq,q⟩:=h;obtain⟨u,rfl,ru⟩:=vals1 r;cases ru;obtain⟨⟨o,es,ep,t,h1,h2,h3,h4,h5,h6⟩,_⟩:=(show zF X.prog X.w H s.heap D (SetN D n) from I.hok D _ hq);exact call_len_set h1 h2 h3 h4 (by omega) ⟨.int n,H,I.tok _,⟨_,by rw[h5]⟩,q⟩
end
end L2
end
section
namespace Spl
open PySem PySem.Spec PySem.Builtin PySem.Builtin.Str PyProof.Rows
section
variable {prog:Program}{w:World}{A:Around}{E:Value->Shared->Prop}{s:Shared}{x y:PySem.Str}{t u:Tok}{Q:Value->Shared->Prop}
theorem split1 (hy:(y.length == 0)=false)
  (h:∀(l:List (PySem.Str×Tok)) k,l.map (·.1)=Txt.split x y->Q (.ref s.heap.objs.size) { s with heap:=s.heap.push { cls:=.type "list",data:=.seq (strValues l).toArray },toks:=k })
  (hsz:x.length+2<=sizeLine):wpAny (model prog w) A (call (.builtin "str.split") [.str x t,.str y u]) Q E s:=by
 have hn:(partsBetween x (occurrences x y 0 x.length (x.length+1)) y.length).length<=sizeLine:=by
  have e1:=StrLaws.occ_length_le x y 0 x.length (x.length+1);rw[length_partsBetween]; omega
 cases h1:(decide (x.length<y.length) || decide (strKind x<strKind y))
 ·cases hf:(occurrences x y 0 x.length (x.length+1)).isEmpty
  ·refine call_meets F.slot_str_split (typeIs_str _ _ _) F.entry_str_split (F.args_str_split_2 _ _) (meets_str_split_sep x y t u h1 hy hf (by omega) hn) ?_
   show wants Q E _ { s with toks:=_,heap:=s.heap.push { cls:=.type "list",data:=.seq (strsFrom s.toks (partsBetween x (occurrences x y 0 x.length (x.length+1)) y.length)).toArray } };rw[strsFrom_eq];exact h (numbered s.toks _) _ ((numbered_texts _ _).trans ((if_neg (ne_true_of_eq_false h1)).trans (if_neg (ne_true_of_eq_false hf))).symm)
  ·exact call_meets F.slot_str_split (typeIs_str _ _ _) F.entry_str_split (F.args_str_split_2 _ _) (meets_str_split_not_found x y t u h1 hy hf)
    (h [(x,t)] s.toks ((if_neg (ne_true_of_eq_false h1)).trans (if_pos hf)).symm)
 ·exact call_meets F.slot_str_split (typeIs_str _ _ _) F.entry_str_split (F.args_str_split_2 _ _) (meets_str_split_cannot_occur x y t u h1)
   (h [(x,t)] s.toks (if_pos h1).symm)
end
end Spl
namespace L2
open PySem PySem.Spec PyProof.Rows
section
variable {X:Cx}
theorem zec:∀(l:List (PySem.Str×Tok)),Vals ((l.map (·.1)).map V.str) (strValues l)
 | []=>.nil
 | p::l=>.cons ⟨p.2,rfl⟩ (zec l)
def zlT:V->List V->Hp->VK->Prop:=fun x vs H Q=>∃z y,x=.str z/\vs=[.str y]/\(y.length == 0)=false/\z.length+2<=sizeLine/\(Txt.split z y).length<=sizeLine/\∀D,H D=none->Q (.ref D) (upd H D (.lst ((Txt.split z y).map V.str)))
theorem zjm:MtM X "str.split" zlT:=by
 intro pins s σ H x vs v us Q I rx rv h;obtain⟨z,y,rfl,rfl,hy,hz,hl,q⟩:=h;obtain⟨t,rfl⟩:=rx;obtain⟨u,rfl,ru⟩:=rv.one;obtain⟨t',rfl⟩:=ru;refine Spl.split1 hy (fun l k e=>?_) hz;refine⟨.ref s.heap.objs.size,_,I.laid (t':=k) (o:=.lst ((Txt.split z y).map V.str)) (fun b ob q=>Ad _ q) (Af _) ?_,rfl,q _ (I.hok.fresh (Af _))⟩;refine⟨by rw[Ab]; exact hl,strValues l,0,?_,Al _ rfl⟩;rw[<- e];exact zec l
def Its (x:PySem.Str):It:=⟨fun i _=>i<x.cps.size,fun i H v H'=>H'=H/\∃c,x.cps[i]?=some c/\v=.str ⟨#[c]⟩,fun i _=>i=x.cps.size⟩
theorem zfS {P:Program}{w:World}{K:Ae}{tg:Expr} (x:PySem.Str) (it:Addr) (T:String) (hn:["enumerate","zip","dict_itemiterator","dict_reverseitemiterator","odict_iterator","itertools.zip_longest","itertools.pairwise"].contains T=false) (t:Tok)
  (W:∀A':Around,A'.handled=none->Walks P w A' it [it] [it] x.cps.size (SignAt x) (fun i h=>h.IsStrIter it T x t i))
  (slf:∀(A:Around) (i:Nat) (s:Shared) (Q:Value->Shared->Prop) (E:Value->Shared->Prop),s.heap.IsStrIter it T x t i->Q (.ref it) s->wpAny (model P w) A (pyIter (.ref it)) Q E s) :
  Turn P w K tg (Its x) [it] it (fun i h=>h.IsStrIter it T x t i) where
 mem:=by simp
 obj:=fun i h st b hb=>by
  have e:b=it:=by simpa using hb
  subst e;obtain⟨o,e,c,d⟩:=st;exact⟨o,e,fun v z=>by rw[d] at z; cases z⟩
 keep:=fun i h h' st k=>by
  obtain⟨o,e,c⟩:=st;exact⟨o,k it (by simp) o e,c⟩
 item:=by
  intro X hP hw hK hc i pins s σ H E I hf st hg;subst hP hw hK;obtain⟨f0,f1,f2,f3,f4,f5⟩:=hf it (by simp);refine (W X.A (I.ok.hd hc)).item i s _ _ hg st fun v h' tk hv st' kk=>?_;obtain⟨c,u,hx,rfl⟩:=hv;have I1:Inv X pins σ H { s with heap:=h',toks:=tk }:=I.turned (fun b o hb e=>kk b o (by simpa using hb) e) f0 f1 f3 f4 f5;obtain⟨o,e1,e2,e3⟩:=id st';exact⟨_,rfl,zho (s:={ s with heap:=h',toks:=tk }) e1 e2 e3 hn ⟨.str ⟨#[c]⟩,H,I1,⟨u,rfl⟩,⟨rfl,c,hx,rfl⟩,st',fun b hb=>(hf b hb).1⟩⟩
 done:=by
  intro X hP hw hK hc i pins s σ H E I hf st hg;subst hP hw hK;obtain⟨f0,f1,f2,f3,f4,f5⟩:=hf it (by simp);have hi:i=x.cps.size:=hg;subst hi;exact (W X.A (I.ok.hd hc)).done s _ _ st fun h' tk kk=>⟨rfl,I.turned (fun b o hb e=>kk b o (by simpa using hb) e) f0 f1 f3 f4 f5⟩
 self:=slf
def iStr (te:TE):TI:=fun σ H R=>te σ H fun v H1=>∃x,v=.str x/\R (Its x) H1
theorem zlF {tg l:Expr}{tl:TE} (hl:PE X l tl):PI X tg l (iStr tl):=by
 intro pins s σ H R I h;refine thn (hl pins s σ H _ I h) fun v s1 ⟨x,H1,I1,r1,q1⟩=>?_;obtain⟨z,e,q⟩:=q1;subst e;obtain⟨t,rfl⟩:=r1;have fin:∀(o:Obj),Inv X pins σ H1 { s1 with heap:=s1.heap.push o }:=fun o=>I1.kept (t':=s1.toks) fun b o e=>Ad _ e;have fp:∀b∈[s1.heap.objs.size],FpOk X pins H1 b:=fun b hb=>by
  have e:b=s1.heap.objs.size:=by simpa using hb
  subst e;exact I1.fpOk (Af _) (I1.hok.fresh (Af _))
 cases ha:z.cps.all (·<128)
 ·refine wpAny_pyIter_wide ha ?_
  exact⟨s1.heap.objs.size,[s1.heap.objs.size],_,_,H1,rfl,fin _,zfS z _ "str_iterator" (by decide) t (fun A' hA=>Walks.strWide hA _ z t) (fun A i s Q E st h=>wpAny_pyIter_striter_wide st h),⟨_,Al _ rfl,rfl,rfl⟩,fp,q⟩
 ·refine wpAny_pyIter_ascii ha ?_
  exact⟨s1.heap.objs.size,[s1.heap.objs.size],_,_,H1,rfl,fin _,zfS z _ "str_ascii_iterator" (by decide) t (fun A' hA=>Walks.strAscii hA _ z t) (fun A i s Q E st h=>wpAny_pyIter_striter_ascii st h),⟨_,Al _ rfl,rfl,rfl⟩,fp,q⟩
theorem ziH {g:TG}{tc:TT}{te:TE}{σ:St}{H1:Hp}{Q:VK}{D:Addr}{x:PySem.Str} (Pv:Nat->St->List V->Hp->Prop) (h0:Pv 0 σ [] (upd H1 D (.lst [])))
  (hs:∀i σ ys H c,x.cps[i]?=some c->i<x.cps.size->ys.length<=i->Pv i σ ys H->g (.str ⟨#[c]⟩) σ H fun σ3 H4=>tc σ3 H4 fun b H5=>if b=true then te σ3 H5 (CPut x.cps.size Pv D i σ3) else CSkip x.cps.size Pv i σ3 H5)
  (hd:∀σ ys H,Pv x.cps.size σ ys H->Q (.ref D) H):zaf (Its x) g tc te σ H1 D Q:=by
 refine zbY x.cps.size Pv h0 (fun σ ys H p=>rfl) (fun i σ ys H hi p=>hi) (fun i σ ys H v H' hi hy p y=>?_) hd;obtain⟨e,c,hc,rfl⟩:=y;subst e;exact hs i σ ys _ c hc hi hy p
end
end L2
end
section
namespace K1
open STb
def subs (ps:List Int):List (List Int):=ps.foldl (fun found x=>found++found.map (·++[x])) [[]]
def parts (ps:List Int):List (List Int):=(subs ps).drop 1
theorem zcu (ps:List Int) (x:Int):subs (ps++[x])=subs ps++(subs ps).map (·++[x]):=by unfold subs; rw[List.foldl_append]; rfl
theorem zck (ps:List Int):(subs ps).length=2 ^ ps.length:=by
 have:∀(ps:List Int) (acc:List (List Int)),(ps.foldl (fun found x=>found++found.map (·++[x])) acc).length=acc.length*2 ^ ps.length:=by
  intro ps
  induction ps with
  | nil=>intro acc; simp
  | cons x ps ih=>
   intro acc;rw[List.foldl_cons,ih,At,Ab,As,Nat.pow_succ];rw[<- Nat.two_mul,Nat.mul_comm 2,Nat.mul_assoc,Nat.mul_comm 2]
 simpa[subs] using this ps [[]]
theorem zcF (ps:List Int):∃t,subs ps=[]::t/\∀q∈t,q≠[]:=by
 have:∀(ps:List Int) (acc:List (List Int)),(∃t,acc=[]::t/\∀q∈t,q≠[])->∃t,ps.foldl (fun found x=>found++found.map (·++[x])) acc=[]::t/\∀q∈t,q≠[]:=by
  intro ps
  induction ps with
  | nil=>intro acc h; exact h
  | cons x ps ih=>
   rintro acc ⟨t,rfl,h⟩;rw[List.foldl_cons];refine ih _ ⟨t++([]::t).map (·++[x]),rfl,fun q hq=>?_⟩;rcases List.mem_append.mp hq with hq | hq
   ·exact h q hq
   ·obtain⟨r,_,rfl⟩:=List.mem_map.mp hq
    simp
 exact this ps [[]] ⟨[],rfl,fun q hq=>nomatch hq⟩
theorem zer (ps:List Int):(subs ps).filter (fun q=>!decide (q=[]))=parts ps:=by
 obtain⟨t,e,h⟩:=zcF ps;unfold parts;rw[e];show List.filter _ ([]::t)=t;rw[List.filter_cons,if_neg (by simp)];exact List.filter_eq_self.mpr fun q hq=>by simp[h q hq]
theorem zaG (ps:List Int):(parts ps).length=2 ^ ps.length - 1:=by unfold parts; rw[List.length_drop,zck]
theorem zcc (ps:List Int):∀q∈subs ps,q.length<=ps.length:=by
 have:∀(ps:List Int) (acc:List (List Int)) (n:Nat),(∀q∈acc,q.length<=n)->∀q∈ps.foldl (fun found x=>found++found.map (·++[x])) acc,q.length<=n+ps.length:=by
  intro ps
  induction ps with
  | nil=>intro acc n h q hq; simpa using h q hq
  | cons x ps ih=>
   intro acc n h q hq;rw[List.foldl_cons] at hq;have:=ih _ (n+1) (fun r hr=>by
    rcases List.mem_append.mp hr with hr | hr
    ·exact Nat.le_succ_of_le (h r hr)
    ·obtain⟨u,hu,rfl⟩:=List.mem_map.mp hr
     rw[At];exact Nat.succ_le_succ (h u hu)) q hq
   rw[As];omega
 intro q hq;have:=this ps [[]] 0 (fun r hr=>by simp at hr; subst hr; exact Af _) q hq;omega
def rises:List Int->Bool
 | a::b::r=>decide (a<b) && rises (b::r)
 | _=>true
theorem zdY:∀ps:List Int,((ps.zip (ps.drop 1)).map fun p=>decide (p.1<p.2)).all id=rises ps
 | []=>rfl
 | [_]=>rfl
 | a::b::r=>by
  have:=zdY (b::r);unfold rises;rw[<- this]
  rfl
theorem zdA:∀ps:List Int,rises ps=true ↔ ∀(i:Nat) a b,ps[i]?=some a->ps[i+1]?=some b->a<b
 | []=>by simp[rises]
 | [x]=>by simp[rises]
 | x::y::r=>by
  unfold rises;rw[AN,decide_eq_true_eq,zdA (y::r)];constructor
  ·rintro⟨h1,h2⟩ i a b ha hb
   cases i with
   | zero=>simp at ha hb; subst ha hb; exact h1
   | succ i=>exact h2 i a b (by simpa using ha) (by simpa using hb)
  ·intro h
   exact⟨h 0 x y rfl rfl,fun i a b ha hb=>h (i+1) a b (by simpa using ha) (by simpa using hb)⟩
theorem zfO (ps:List Int) (h:rises ps=true):∀(d i:Nat) a b,ps[i]?=some a->ps[i+d]?=some b->a<=b:=by
 intro d
 induction d with
 | zero=>intro i a b ha hb; rw[Nat.add_zero,ha] at hb; cases hb; exact Int.le_refl _
 | succ d ih=>
  intro i a b ha hb;have hl:i+(d+1)<ps.length:=(List.getElem?_eq_some_iff.mp hb).1;have hc:ps[i+d]?=some ps[i+d]:=Ag (by omega);have h1:=ih i a _ ha hc;have h2:=(zdA ps).mp h (i+d) _ b hc hb;omega
def zW (ps:List Int):Bool:=decide (1<=ps.length) && decide (ps.length<=5) && !(decide (ps.headD 0<0)) && !(decide (99<ps.getLastD 0)) && rises ps
def zY (ps:List Int):Bool:=decide (1<=ps.length) && decide (ps.length<=5) && ps.all (fun p=>decide (0<=p) && decide (p<=99)) && rises ps
theorem zfo (ps:List Int):zW ps=zY ps:=by
 unfold zW zY;cases ps with
 | nil=>rfl
 | cons x r=>
  by_cases hr:rises (x::r)=true
  ·rw[hr,Bool.and_true,Bool.and_true]
   by_cases h5:(x::r).length<=5
   ·have e1:(x::r).getLastD 0=(x::r)[(x::r).length - 1]:=by
     rw[List.getLastD_eq_getLast?,List.getLast?_eq_getElem?,Ag (by simp)]; rfl
    have key:(!(decide ((x::r).headD 0<0)) && !(decide (99<(x::r).getLastD 0)))=(x::r).all (fun p=>decide (0<=p) && decide (p<=99)):=by
     rw[Bool.eq_iff_iff];rw[AN,Bool.not_eq_true',Bool.not_eq_true',decide_eq_false_iff_not,decide_eq_false_iff_not,List.all_eq_true];constructor
     ·rintro⟨h0,h9⟩ p hp
      obtain⟨i,hi⟩:=List.mem_iff_getElem?.mp hp;have hil:i<(x::r).length:=(List.getElem?_eq_some_iff.mp hi).1;have g1:=zfO (x::r) hr i 0 x p rfl (by simpa using hi);have g2:=zfO (x::r) hr ((x::r).length - 1 - i) i p ((x::r)[(x::r).length - 1]) hi (by
       rw[show i+((x::r).length - 1 - i)=(x::r).length - 1 by omega];exact Ag (by simp))
      rw[e1] at h9;have h0':¬ x<0:=h0;simp only[AN,decide_eq_true_eq];constructor <;> omega
     ·intro h
      have g1:=h x AB;have g2:=h ((x::r)[(x::r).length - 1]) (List.getElem_mem _);rw[e1];simp only[AN,decide_eq_true_eq] at g1 g2;constructor
      ·show ¬ x<0; omega
      ·omega
    rw[<- key];simp only[Bool.and_assoc]
   ·rw[decide_eq_false h5]; simp
  ·have:rises (x::r)=false:=by simpa using hr
   rw[this,Bool.and_false,Bool.and_false]
def webM (pss:List (List Int)):Bool:=decide (pss.length<=20) && pss.all zW && !(decide ((dd pss).length<pss.length)) && decide ((dd (pss.flatMap parts)).length<=200)
def zjZ (pss:List (List Int)) (k:Nat):Prop:=∀(i:Nat) ps,i<k->pss[i]?=some ps->ps∉pss.take i/\zY ps=true
theorem zjc (pss:List (List Int)) (h:pss.length<=20) (hg:zjZ pss pss.length):webM pss=decide ((dd (pss.flatMap parts)).length<=200):=by
 unfold webM;have h1:pss.all zW=true:=List.all_eq_true.mpr fun ps hp=>by
  obtain⟨i,hi⟩:=List.mem_iff_getElem?.mp hp;rw[zfo];exact (hg i ps (List.getElem?_eq_some_iff.mp hi).1 hi).2
 have h2:¬ (dd pss).length<pss.length:=fun z=>by
  obtain⟨k,x,e,hx⟩:=(zmx pss).mp z;exact (hg k x (List.getElem?_eq_some_iff.mp e).1 e).1 hx
 rw[decide_eq_true h,h1,decide_eq_false h2]
 rfl
theorem zit (pss:List (List Int)) (h:¬ pss.length<=20):webM pss=false:=by unfold webM; rw[decide_eq_false h]; rfl
end K1
end
section
namespace L2
open PySem PySem.Spec PyProof.Rows
def capB (N N':List Str) (caps:List (Option Nat)) (scope:Scope):Bool:=decide (caps.length=N'.length) && (caps.zip N').all fun p=>match p.1 with
 | none=>true
 | some j=>decide (N[j]?=some p.2) && decide (scope.names.lookup p.2=some .free)
theorem zdk {N N':List Str}{caps:List (Option Nat)}{scope:Scope} (h:capB N N' caps scope=true):zgS N N' caps scope:=by
 unfold capB at h;rw[AN,decide_eq_true_eq,List.all_eq_true] at h;refine⟨h.1,fun i j e=>?_⟩;have hi:i<caps.length:=(List.getElem?_eq_some_iff.mp e).1;have e2:N'[i]?=some N'[i]:=Ag (by rw[<- h.1]; exact hi);have:=h.2 (some j,N'[i]) (List.mem_iff_getElem?.mpr ⟨i,by rw[Srt.zipget,e,e2]; rfl⟩);simp only[AN,decide_eq_true_eq] at this;exact⟨N'[i],e2,this.1,this.2⟩
section
variable {X:Cx}{scope:Scope}{caps:List (Option Nat)}{tg iter elt:Expr}{ifs:List Expr}{wi:TI}{g:TG}{tc:TT}{te:TE}{pos:Pos}
theorem zy (N N':List Str) (caps:List (Option Nat)) (hi:PI X tg iter wi) (hg:∀cl C s₀ H₀ ex,PG (cxC X scope N' cl C s₀ H₀ ex) tg g) (ht:∀cl C s₀ H₀ ex,PTL (cxC X scope N' cl C s₀ H₀ ex) ifs tc) (he:∀cl C s₀ H₀ ex,PE (cxC X scope N' cl C s₀ H₀ ex) elt te)
  (hc:X.calm=true:=by rfl) (hk:scope.kind=.function:=by rfl) (hcell:∀y∈scope.names,y.2≠.cell:=by decide +kernel) (hnames:∀y∈scope.names,y.2=.local->scope.names.lookup y.1=some .local:=by decide +kernel)
  (hfr:∀y∈scope.names,y.2=.free->X.env.kindOf y.1=some .cell \/ X.env.kindOf y.1=some .free) (hN:X.N=N:=by rfl) (hcap:capB N N' caps scope=true:=by decide +kernel)
  (hs:∀x,foldedSetIterable iter X.env x=pure x:=by intro _; rfl):PE X (.ListComp elt [⟨tg,iter,ifs,0⟩] scope pos) (tLC wi caps g tc te):=
 zkQ hc hk hcell hnames hfr (zdk (by rw[hN]; exact hcap)) hi hg ht he hs
end
theorem nofr {env:Env}{scope:Scope} (h:scope.names.all (fun y=>decide (y.2≠.free))=true):∀y∈scope.names,y.2=.free->env.kindOf y.1=some .cell \/ env.kindOf y.1=some .free:=fun y hy e=>
 absurd e (of_decide_eq_true (List.all_eq_true.mp h y hy))
theorem frOf {env:Env}{scope:Scope} (sc:Scope) (h:scope.names.all (fun y=>decide (y.2≠.free) || decide (sc.names.lookup y.1=some .cell) || decide (sc.names.lookup y.1=some .free))=true) (hsc:env.scope=sc:=by rfl):∀y∈scope.names,y.2=.free->env.kindOf y.1=some .cell \/ env.kindOf y.1=some .free:=fun y hy e=>by
 subst hsc;have:=List.all_eq_true.mp h y hy;simp only[Bool.or_eq_true,decide_eq_true_eq] at this;rcases this with (q | q) | q
 ·exact absurd e q
 ·exact .inl q
 ·exact .inr q
theorem ndN (l:List Str) (h:l.Nodup:=by decide +kernel):l.Nodup:=h
theorem yes_ {te:TE}{σ:St}{H:Hp}{P:VK}{S:Hp->Prop} (h:te σ H P):tYes σ H fun b H5=>if b=true then te σ H5 P else S H5:=by
 show if true=true then te σ H P else S H;rw[if_pos rfl];exact h
theorem gyes {i:Nat}{v:V}{te:TE}{σ:St}{H:Hp}{P:St->VK}{S:St->Hp->Prop} (h:te (σ.set i (some v)) H (P (σ.set i (some v)))) :
  zai i v σ H fun σ3 H4=>tYes σ3 H4 fun b H5=>if b=true then te σ3 H5 (P σ3) else S σ3 H5:=yes_ (S:=S (σ.set i (some v))) h
theorem zz {J:It}{g:TG}{tc:TT}{te:TE}{σ:St}{H1:Hp}{Q:VK}{D:Addr} (h:zaf J g tc te σ H1 D Q):zaf J g tc te σ H1 D Q:=h
end L2
namespace L2
open PySem PySem.Spec PyProof.Rows
theorem Paired.of_at {α β:Type}{R:α->β->Prop}:∀{l:List α}{m:List β},l.length=m.length->(∀(i:Nat) x y,l[i]?=some x->m[i]?=some y->R x y)->Paired R l m
 | [],[],_,_=>.nil
 | x::l,y::m,h,f=>.cons (f 0 x y rfl rfl) (Paired.of_at (by simpa using h) fun i a b h1 h2=>f (i+1) a b (by simpa using h1) (by simpa using h2))
 | [],_::_,h,_=>by simp at h
 | _::_,[],h,_=>by simp at h
end L2
end
section
namespace HT
open PySem PyProof.Rows
section
variable {prog:Program}{w:World}{A:Around}{E:Value->Shared->Prop}{s:Shared}
theorem zbE {t sl:Addr}{items:Array Value}{vl vu:Value}{lo hi:Option Int}{Q:Value->Shared->Prop} (ht:IsTup s.heap t items) (hs:s.heap.IsSliceOf sl vl vu .none) (pl:IsPart vl lo) (pu:IsPart vu hi)
  (hw:sIx items.size 0 lo=0/\sIx items.size items.size hi=items.size)
  (h:Q (.ref t) s):wpAny (model prog w) A (getItem (.ref t) (.ref sl)) Q E s:=by
 obtain⟨os,hos,hcs,hds⟩:=id hs;have hTs:s.TypeIs (.ref sl) "slice":=⟨os,hos,hcs⟩;obtain⟨ot,hot,hct,nt,hdt⟩:=id ht;unfold getItem
 try with_reducible refine AJ ?_
 first | refine Aa (Ac ?_) | skip
 refine Aa (wpAny_sequenceKey ht.typeIs (by decide) ?_);refine Aa (AX (name:=Str.ofString "__getitem__") ht.typeIs PyProof.Rows.slot_tuple_getitem
  (AR PyProof.Rows.slot_tuple_getitem ht.typeIs entry_tuple_getitem ?_ (args_tuple_getitem _ _)))
 show wpAny _ _ (Builtin.Tuple.tupleItemsOf (.ref t) >>= _) _ _ s;refine Aa (tupleItemsOf_ ht ?_);refine Aa (wpAny_typeOf hTs ?_);rw[if_pos (by decide)];refine Aa (za0 hs pl pu ?_);have hyes:((((sIx items.size 0 lo:Nat):Int) == 0 && (1:Int) == 1 && (sIx items.size items.size hi - sIx items.size 0 lo) == items.size)=true):=by
  rw[hw.1,hw.2]; simp
 show wpAny _ _ (if (((sIx items.size 0 lo:Nat):Int) == 0 && (1:Int) == 1 && (sIx items.size items.size hi - sIx items.size 0 lo) == items.size)=true then _ else _) _ _ s;rw[if_pos hyes];refine Aa ?_;unfold Builtin.Tuple.tupleIsExact;refine Aa (wpAny_typeOf ht.typeIs (Ac ?_));rw[if_pos (by decide)];refine Aa (wpAny_rule ?_);exact Ac ⟨_,rfl,Ac h⟩
end
end HT
namespace L2
open PySem PySem.Spec PyProof.Rows
section
variable {X:Cx}
def rSlA:V->Option Int->Option Int->Hp->VK->Prop:=fun x lo hi H Q=>∃a xs,x=.ref a/\H a=some (.tup xs)/\∀p H',Same H H'->H' p=some (.tup (cutV xs lo hi))->Q (.ref p) H'
theorem zgL:SlR X rSlA:=by
 intro pins s σ H x v vl vu lo hi sl Q I rx hs pl pu h;obtain⟨a,xs,rfl,hx,q⟩:=h
 by_cases hw:HT.sIx xs.length 0 lo=0/\HT.sIx xs.length xs.length hi=xs.length
 ·cases rx
  obtain⟨its,r,ht,hz⟩:=I.tuple (SqT.of (K:=X.K) hx);have hlen:its.toArray.size=xs.length:=by rw[Ai]; exact r.length.symm
  refine⟨"tuple",_,PyProof.Rows.slot_tuple_getitem.lookup,ht.typeIs,HT.zbE ht hs pl pu (by rw[hlen]; exact hw) ⟨.ref a,H,I,rfl,q a H (Same.refl H) ?_⟩⟩;rw[hx];unfold cutV;rw[hw.1,hw.2,List.drop_zero,Nat.sub_zero,Ay (Af _)]
 ·exact zjK pins s σ H (.ref a) v vl vu lo hi sl Q I rx hs pl pu ⟨a,xs,rfl,SqT.of hx,hw,fun p hp=>q p _ (Same.new hp) upd_same⟩
end
end L2
end
section
namespace K52
open K1
open PySem L2
def top (i:Nat):Stmt:=PySem.Challenge.pw_seamwright_k52_maps_looked_at.main.body.getD i (.Pass ⟨0,0,0,0⟩)
abbrev zcs:Stmt:=top 16
abbrev zbV:Stmt:=top 17
abbrev sKey:Stmt:=top 19
abbrev zbG:Stmt:=top 20
abbrev sAll:Stmt:=top 21
abbrev zcq:Stmt:=top 26
structure Bt (mg:Str->Option Value):Prop where
 len:mg "len"=none
 all:mg "all"=none
 zip:mg "zip"=none
 sorted:mg "sorted"=none
 set:mg "set"=none
 list:mg "list"=none
 tuple:mg "tuple"=none
 range:mg "range"=none
 enumerate:mg "enumerate"=none
 int:mg "int"=none
 isinstance:mg "isinstance"=none
 reversed:mg "reversed"=none
 bool:mg "bool"=none
 dict:mg "dict"=none
theorem z0:A5 "len"=some (.builtin "len"):=by decide +kernel
theorem zgA:A5 "all"=some (.builtin "all"):=by decide +kernel
theorem zmU:A5 "zip"=some (.type "zip"):=by decide +kernel
theorem zaQ:A5 "sorted"=some (.builtin "sorted"):=by decide +kernel
theorem zld:A5 "set"=some (.type "set"):=by decide +kernel
theorem zbS:A5 "list"=some (.type "list"):=by decide +kernel
theorem zby:A5 "tuple"=some (.type "tuple"):=by decide +kernel
theorem zl2:A5 "int"=some (.type "int"):=by decide +kernel
theorem zR:A5 "isinstance"=some (.builtin "isinstance"):=by decide +kernel
theorem zgi:A5 "reversed"=some (.type "reversed"):=by decide +kernel
theorem zhW:A5 "dict"=some (.type "dict"):=by decide +kernel
theorem zke:A5 "bool"=some (.type "bool"):=by decide +kernel
theorem zd {n:Nat} (h:n<=100000):n<=sizeLine:=by rw[sizeLine_eq]; omega
theorem zab {n:Nat} (h:n<=100000):n<sizeLine:=by rw[sizeLine_eq]; omega
theorem zlo (x:Int) (r:List Int):atI ((x::r).map V.int) (-1)=some (.int ((x::r).getLastD 0)):=by
 obtain⟨q,z,e⟩:∃q z,x::r=q++[z]:=⟨(x::r).dropLast,(x::r).getLast (List.cons_ne_nil x r),(List.dropLast_concat_getLast (List.cons_ne_nil x r)).symm⟩;rw[e,Ak,List.getLastD_eq_getLast?,List.getLast?_append];exact zfP _ _
theorem zbo {ps:List Int}{i:Nat}{x:V} (h:(ps.map V.int)[i]?=some x):∃p,ps[i]?=some p/\x=.int p:=by
 rw[Ap] at h;cases e:ps[i]? with
 | none=>rw[e] at h; cases h
 | some p=>rw[e] at h; exact⟨p,rfl,(Ao h).symm⟩
theorem zP {as:List Addr}{i:Nat}{x:V} (h:(as.map V.ref)[i]?=some x):∃a,as[i]?=some a/\x=.ref a:=by
 rw[Ap] at h;cases e:as[i]? with
 | none=>rw[e] at h; cases h
 | some p=>rw[e] at h; exact⟨p,rfl,(Ao h).symm⟩
theorem AQ {α:Type}{l:List α}{i:Nat}{x:α} (h:l[i]?=some x):l.take (i+1)=l.take i++[x]:=by rw[List.take_add_one,h]; rfl
theorem take_all {α:Type} (l:List α):l.take l.length=l:=Ay (Af _)
theorem cut1 (x:Int) (r:List Int):cutV ((x::r).map V.int) (some 1) none=r.map V.int:=by
 unfold cutV;have e:HT.sIx ((x::r).map V.int).length 0 (some 1)=1:=by
  have:=HT.zcB ((x::r).map V.int).length 0 1;rw[show ((1:Nat):Int)=1 from rfl] at this;rw[this,Ab,As]; omega
 rw[e,HT.zcj];show List.take _ (r.map V.int)=_;rw[Ay (by simp)]
section
variable {P:Program}{w:World}{K:Ae}{mg:Str->Option Value}{base:Heap}
def zh8:Sp:=fun vs H Q _=>∃a ps,vs=[.ref a]/\Tp H a ps/\∀H',Same H H'->Q (.bl (zW ps)) H'
theorem zkJ:zp ["numbers"] ["numbers"] (za zcs):=⟨rfl,rfl,rfl,by decide +kernel,rfl,by decide +kernel,by decide +kernel⟩
theorem zja {f:Addr}{fd:FuncData}{t5 t99:Tok} (F:Fun K "is_piece" "is_piece" zcs f fd) (B:Bt mg) (m5:mg "MOST_POINTS"=some (.int 5 t5)) (m99:mg "LAST_POINT"=some (.int 99 t99)) :
  FnOk P w K mg base CX0 1 f fd ["numbers"] zh8:=by
 refine F.ok zkJ (fun vs H Q E h=>?_) (fun cdv A outer s H vs Q E hr h=>?_)
 ·obtain⟨a,ps,rfl,_⟩:=h; rfl
 ·obtain⟨a,ps,rfl,ha,k⟩:=h
  refine⟨_,zb (zU (za1 (zis zkA zkA zf (zj zh rfl B.len z0 (pa_cons (pv 0) pa_nil)) (zb0 rfl m5 (v:=.int 5) ⟨_,rfl⟩))) (ze (zt zba)) zv)
   (zb (zU (PW.pt (zgy (zo ziB (zK zaw (pv 0) zf (fun _ _=>rfl)) zf (nomark _)) (zd6 (zo zeF (zK zaw (pv 0) (zkz zhg zf) (fun _ _=>rfl)) (zb0 rfl m99 (v:=.int 99) ⟨_,rfl⟩) (nomark _))))) (ze (zt zba)) zv)
   (ze (zt (zj (zbm rfl) rfl B.all zgA (pa_cons
    (zy ["numbers"] ["low","high"] [none,none] (zmo rfl B.zip zmU (pa_cons (pv 0) (pa_cons (zcg zjK (pv 0) (zdK zf) zdI) pa_nil)))
     (fun cl C s₀ H₀ ex=>zhM rfl (zaO (zm (i:=0) (ndN ["low","high"]) rfl (Or.inl rfl)) (zaO (zm (i:=1) (ndN ["low","high"]) rfl (Or.inl rfl)) zeC)))
     (fun cl C s₀ H₀ ex=>zL) (fun cl C s₀ H₀ ex=>zaS ziB (pv 0) (pv 1) (nomark _)) (hfr:=nofr (by decide +kernel)) (g:=gTup K 2 (zky (zai 0) (zky (zai 1) gNil)))) pa_nil))))),?_⟩
  have no:zW ps=false->Q (.bl false) H:=fun e=>by have:=k H (Same.refl H); rw[e] at this; exact this
  refine⟨_,rfl,a,_,rfl,.inr (SqT.of ha),_,_,rfl,rfl,_,rfl,?_⟩;rw[Ab];refine ite2 (fun h1=>?_) (fun h1=>?_)
  ·refine⟨_,_,rfl,rfl,_,rfl,?_⟩
   have h1':1<=ps.length:=by have:=of_decide_eq_true h1; omega
   cases h5:decide ((ps.length:Int)<=5) with
   | false=>
    have h5':¬ ps.length<=5:=by have:=of_decide_eq_false h5; omega
    exact iteT (no (by unfold zW; rw[decide_eq_false h5']; simp))
   | true=>
    have h5':ps.length<=5:=by have:=of_decide_eq_true h5; omega
    refine iteF ?_;obtain⟨x,r,rfl⟩:∃x r,ps=x::r:=by
     cases ps with
     | nil=>simp at h1'
     | cons x r=>exact⟨x,r,rfl⟩
    refine⟨_,rfl,a,_,_,_,rfl,rfl,SqT.of ha,zu (j:=0) rfl,_,_,rfl,rfl,_,rfl,?_⟩;refine ite2 (fun hx=>?_) (fun hx=>?_)
    ·refine iteT (no ?_)
     unfold zW;rw[show decide ((x::r).headD 0<0)=true from hx];simp
    ·refine⟨_,rfl,_,rfl,a,_,_,_,rfl,rfl,SqT.of ha,zlo x r,_,_,rfl,rfl,_,rfl,?_⟩
     cases hl:decide (99<(x::r).getLastD 0) with
     | true=>
      refine iteT (no ?_);unfold zW;rw[hl];simp
     | false=>
      refine iteF ?_;refine⟨_,rfl,_,rfl,_,rfl,a,_,rfl,SqT.of ha,?_,fun p hp=>?_⟩
      ·intro z
       have e:=HT.zcB ((x::r).map V.int).length 0 1;rw[show ((1:Nat):Int)=1 from rfl,z.1,Ab,As] at e;omega
      ·rw[cut1]
       have s1:Same H (upd H p (.tup (r.map V.int))):=Same.new hp;refine⟨a,p,rfl,⟨_,SqT.of (s1.tp ha)⟩,⟨_,SqT.of upd_same⟩,fun D hD=>?_⟩;have hm:min ((x::r).map V.int).length (r.map V.int).length=r.length:=by simp
       refine zz (zi2 (K:=K) (xs:=(x::r).map V.int) (ys:=r.map V.int) (fun i σ zs H3=>∃v1 v2,σ=[v1,v2]/\Same (upd H p (.tup (r.map V.int))) H3/\H3 D=some (.lst zs)/\zs=((((x::r).zip r).map fun q=>decide (q.1<q.2)).take i).map V.bl)
        ⟨none,none,rfl,Same.new hD,upd_same,rfl⟩ (fun i σ zs H3 ⟨_,_,_,sm,_⟩=>⟨SqT.of (sm.tp (s1.tp ha)),SqT.of (sm _ _ upd_same)⟩) ?_ ?_)
       ·rintro i σ zs H3 p' y1 y2 e1 e2 hi hz ⟨v1,v2,rfl,sm,hD3,rfl⟩ hp'
        obtain⟨q1,g1,rfl⟩:=zbo e1;obtain⟨q2,g2,rfl⟩:=zbo e2;refine⟨p',_,rfl,SqT.of upd_same,rfl,_,_,rfl,_,_,rfl,rfl,yes_ ?_⟩;refine⟨_,rfl,_,rfl,_,_,rfl,rfl,cput (AF (Nat.min_le_right _ _) (by rw[Ab]; exact zd (by simp at h5'; omega))) hi hz (by rw[zk (zg hD3 hp')]; exact hD3) ⟨_,_,rfl,?_,upd_same,?_⟩⟩
        ·exact (sm.then (sm.free hp')).then hD
        ·have e3:(((x::r).zip r).map fun q=>decide (q.1<q.2))[i]?=some (decide (q1<q2)):=by
          rw[Ap,Srt.zipget,g1,g2]; rfl
         rw[AQ e3,Ak]; rfl
       ·rintro σ zs H3 ⟨v1,v2,rfl,sm,hD3,rfl⟩
        refine⟨D,(((x::r).zip r).map fun q=>decide (q.1<q.2)),rfl,SqL.of ?_,?_⟩
        ·rw[hD3,hm,Ay (by simp)]
        ·have:=k H3 (s1.trans sm)
         have e4:=zdY (x::r);rw[show (x::r).drop 1=r from rfl] at e4;rw[e4];have e5:zW (x::r)=rises (x::r):=by
          unfold zW;rw[decide_eq_true h1',decide_eq_true h5',hl];rw[show decide ((x::r).headD 0<0)=false from by simpa using hx]
          rfl
         rw[e5] at this;exact this
  ·refine⟨_,rfl,iteT (no ?_)⟩
   have h1':¬ 1<=ps.length:=fun z=>h1 (decide_eq_true (by omega));unfold zW;rw[decide_eq_false h1']
   rfl
end
end K52
end
section
namespace K52
open K1
open PySem L2
section
variable {P:Program}{w:World}{K:Ae}{mg:Str->Option Value}{base:Heap}
def zdi:Sp:=fun vs H Q _=>∃a ps,vs=[.ref a]/\Tp H a ps/\ps.length<=5/\∀D as H',Same H H'->H D=none->H' D=some (.lst (as.map V.ref))->Tps H' as (parts ps)->Q (.ref D) H'
theorem zdd:zp ["piece","found","point"] ["piece"] (za zbV):=⟨rfl,rfl,rfl,by decide +kernel,rfl,by decide +kernel,by decide +kernel⟩
theorem pow5 {n:Nat} (h:n<=5):2 ^ n<=32:=by
 have:2 ^ n<=2 ^ 5:=Nat.pow_le_pow_right (by decide) h;exact this
theorem zc8 {H2:Hp}{as:List Addr}{fs:List (List Int)}{q:Int}{D:Addr}{l:Addr}{Q:VK} (hl:H2 l=some (.lst (as.map V.ref))) (ht:Tps H2 as fs) (hz:as.length<=100) (hz2:∀f∈fs,f.length<=100) (hD:H2 D=none)
  (k:∀bs H3,Same H2 H3->H3 D=some (.lst (bs.map V.ref))->Tps H3 bs (fs.map (·++[q]))->Q (.ref D) H3) :
  zaf (Itl K l) (zai 0) tYes (tOp zlg (tVar 0) (tTup (zQ (tVar 1) tNil))) [none,some (.int q)] H2 D Q:=by
 have hla:=ht.length;refine zH (xs:=as.map V.ref) (fun j σ ys H3=>∃bs v,σ=[v,some (.int q)]/\Same H2 H3/\H3 D=some (.lst ys)/\ys=bs.map V.ref/\Tps H3 bs ((fs.take j).map (·++[q]))) ?_ ?_ ?_ ?_
 ·exact⟨[],none,rfl,Same.new hD,upd_same,rfl,.nil⟩
 ·rintro j σ ys H3 ⟨bs,v,rfl,sm,hD3,rfl,hb⟩
  exact SqL.of (sm _ _ hl)
 ·rintro j σ ys H3 x hx hj hy ⟨bs,v,rfl,sm,hD3,rfl,hb⟩
  obtain⟨a,ea,rfl⟩:=zP hx;obtain⟨f,ef,hf⟩:=ht.get ea;refine gyes ?_;refine⟨_,rfl,_,rfl,zd (by simp),fun t htn=>?_⟩;have hf3:=sm.tp hf;have s1:Same H3 (upd H3 t (.tup [.int q])):=Same.new htn;refine⟨a,t,_,_,rfl,rfl,s1 _ _ hf3,upd_same,?_,fun p H4 s2 hp=>?_⟩
  ·rw[Ab]
   exact zd (by have:=hz2 f (Aq ef); simp; omega)
  ·have s3:Same H3 H4:=s1.trans s2
   refine cput (ys:=bs.map V.ref) (by rw[Ab]; exact zd (by omega)) hj hy (s3 _ _ hD3) ⟨bs++[p],_,rfl,(sm.trans s3).then hD,upd_same,by rw[Ak]; rfl,?_⟩;rw[AQ ef,Ak];have hpD:p≠D:=za2 hp (s3 _ _ hD3) (by intro z; cases z);have keep:∀c xs,H4 c=some (.tup xs)->upd H4 D (.lst (bs.map V.ref++[V.ref p])) c=some (.tup xs):=fun c xs e=>by
    rw[zk (za2 e (s3 _ _ hD3) (by intro z; cases z))]; exact e
   refine Tps.snoc (Paired.mapP (s3.tps hb) fun c xs e=>keep c _ e) (keep p _ ?_);rw[hp,Ak]; rfl
 ·rintro σ ys H3 ⟨bs,v,rfl,sm,hD3,rfl,hb⟩
  rw[Ab,hla,take_all] at hb;exact k bs H3 sm hD3 hb
theorem ziG {f:Addr}{fd:FuncData} (F:Fun K "parts_of" "parts_of" zbV f fd):FnOk P w K mg base CX0 1 f fd ["piece"] zdi:=by
 refine F.ok zdd (fun vs H Q E h=>?_) (fun cdv A outer s H vs Q E hr h=>?_)
 ·obtain⟨a,ps,rfl,_⟩:=h; rfl
 ·obtain⟨a,ps,rfl,ha,h5,k⟩:=h
  refine⟨_,zb (zn (i:=1) zdd.nd rfl (Or.inl rfl) (zO (pa_cons (zaX pa_nil) pa_nil)))
   (zb (zaq A7 rfl (zcM (pv 0)) (zm (i:=2) zdd.nd rfl (Or.inr rfl))
    (ze (zn (i:=1) zdd.nd rfl (Or.inl rfl) (zG zbF (pv 1) (zy ["piece","found","point"] ["part","point"] [none,some 2] (zw (pv 1)) (fun cl C s₀ H₀ ex=>zm (i:=0) (ndN ["part","point"]) rfl (Or.inl rfl)) (fun cl C s₀ H₀ ex=>zL)
     (fun cl C s₀ H₀ ex=>zG zfe (pv 0) (zaX (pa_cons (pv 1) pa_nil))) (hfr:=frOf (za zbV) (by decide +kernel)))))))
   (ze (zt (zcg zlb (pv 1) (zdK zf) zdI)))),?_⟩
  refine⟨zd (by simp),fun e he=>⟨zd (by simp),fun l hl=>?_⟩⟩;have s1:Same H (upd (upd H e (.tup [])) l (.lst [.ref e])):=(Same.new he).then ((Same.new he).free hl);have hle:e≠l:=zg (H:=upd H e (.tup [])) upd_same hl;refine⟨_,rfl,a,rfl,⟨_,SqT.of (s1 _ _ ha)⟩,zhV (K:=K) (a:=a) (xs:=ps.map V.int) (fun i σ H2=>∃l as v,σ=[some (.ref a),some (.ref l),v]/\Same H H2/\H l=none/\H2 l=some (.lst (as.map V.ref))/\Tps H2 as (subs (ps.take i)))
   ⟨l,[e],none,rfl,s1,(Same.new he).free hl,upd_same,.cons (by show upd _ _ _ e=_; rw[zk hle]; exact upd_same) .nil⟩ (fun i σ H2 _ ⟨_,_,_,_,sm,_⟩=>SqT.of (sm _ _ ha)) ?_ ?_⟩
  ·rintro i x σ H2 hx ⟨l,as,v,rfl,sm,hl0,hl,ht⟩
   obtain⟨q,eq,rfl⟩:=zbo hx;have hi:i<ps.length:=(List.getElem?_eq_some_iff.mp eq).1;have hla:=ht.length;have hn:as.length<=32:=by
    rw[hla,zck,AS];exact pow5 (by omega)
   have hm:∀f∈subs (ps.take i),f.length<=100:=fun f hf=>by
    have:=zcc _ f hf;rw[AS] at this;omega
   refine⟨_,rfl,_,rfl,l,rfl,⟨_,SqL.of hl⟩,fun D hD=>zz (zc8 hl ht (by omega) hm hD fun bs H3 sm3 hD3 hb=>?_)⟩;have hlb:=hb.length;rw[Ab] at hlb;refine⟨l,D,_,_,rfl,rfl,sm3 _ _ hl,hD3,by rw[Ab,Ab]; exact zd (by omega),fun l2 hl2=>?_⟩;have h02:H l2=none:=(sm.trans sm3).free hl2;refine⟨l2,as++bs,_,rfl,(sm.trans sm3).then h02,h02,by rw[upd_same,Ak],?_⟩;rw[AQ eq,zcu];exact (Same.new hl2).tps ((sm3.tps ht).append hb)
  ·rintro σ H2 ⟨l,as,v,rfl,sm,hl0,hl,ht⟩
   rw[Ab,take_all] at ht;refine⟨_,rfl,_,rfl,l,_,rfl,SqL.of hl,fun D hD=>?_⟩;have h0:H D=none:=sm.free hD;obtain⟨t,et,_⟩:=zcF ps;refine k D (as.drop 1) _ (sm.then h0) h0 ?_ ?_
   ·rw[upd_same]
    unfold cutV;have hl1:1<=as.length:=by rw[ht.length,et]; simp
    have e1:HT.sIx (as.map V.ref).length 0 (some 1)=1:=by
     have:=HT.zcB (as.map V.ref).length 0 1;rw[show ((1:Nat):Int)=1 from rfl] at this;rw[this,Ab]; omega
    rw[e1,HT.zcj,<- List.map_drop,Ay (by simp)]
   ·exact (Same.new hD).tps (ht.drop 1)
theorem zmJ:zp ["piece"] ["piece"] (za sKey):=⟨rfl,rfl,rfl,by decide +kernel,rfl,by decide +kernel,by decide +kernel⟩
theorem zlU {f:Addr}{fd:FuncData} (F:Fun K "order_key" "order_key" sKey f fd) (B:Bt mg):FnOk P w K mg base CX0 1 f fd ["piece"] ziZ:=by
 refine F.ok zmJ (fun vs H Q E h=>?_) (fun cdv A outer s H vs Q E hr h=>?_)
 ·obtain⟨a,ps,rfl,_⟩:=h; rfl
 ·obtain⟨a,ps,rfl,ha,k⟩:=h
  refine⟨_,ze (zt (zaX (pa_cons (zj zh rfl B.len z0 (pa_cons (pv 0) pa_nil)) (pa_cons (pv 0) pa_nil)))),?_⟩;refine⟨_,rfl,a,_,rfl,.inr (SqT.of ha),_,rfl,zd (by simp),fun p hp=>?_⟩;rw[Ab];exact k p hp
def ze5 (K:Ae):Sp:=fun vs H Q _=>∃l as pss,vs=[.ref l]/\SqL K H l (as.map V.ref)/\Tps H as pss/\pss.length<64/\
 ∀D H2 (qs:List (List Int×Addr)),Same H H2->H D=none->H2 D=some (.lst (qs.map fun q=>V.ref q.2))->qs.Perm (pss.zip as)->qs.Pairwise (fun a b=>HT.lexLt ((b.1.length:Int)::b.1) ((a.1.length:Int)::a.1)=false)->Q (.ref D) H2
theorem zkY:zp ["some"] ["some"] (za zbG):=⟨rfl,rfl,rfl,by decide +kernel,rfl,by decide +kernel,by decide +kernel⟩
theorem zfK {f fk:Addr}{fd fdk:FuncData} (F:Fun K "in_order" "in_order" zbG f fd) (B:Bt mg) (Fk:Fun K "order_key" "order_key" sKey fk fdk) (bk:Binds K fdk ["piece"] []) (mk:mg "order_key"=some (.ref fk)):FnOk P w K mg base CX0 4 f fd ["some"] (ze5 K):=by
 have Gk:FnOk P w K mg base CX0 1 fk fdk ["piece"] ziZ:=zlU Fk B;refine F.ok zkY (fun vs H Q E h=>?_) (fun cdv A outer s H vs Q E hr h=>?_)
 ·obtain⟨l,as,pss,rfl,_⟩:=h; rfl
 ·obtain⟨l,as,pss,rfl,hl,ht,h64,k⟩:=h
  refine⟨_,ze (zt (zgp Gk hr bk rfl B.sorted zaQ rfl mk (pa_cons (pv 0) pa_nil))),?_⟩;exact⟨_,rfl,l,as,pss,rfl,hl,ht,h64,k⟩
end
end K52
end
section
namespace K52
open K1
open PySem L2 STb
theorem Tps.upd {H:Hp}{d:Addr}{o o':HO}{as:List Addr}{pss:List (List Int)} (h:Tps H as pss) (hd:H d=some o') (hn:∀xs,o'≠.tup xs):Tps (L2.upd H d o) as pss:=
 Paired.mapP h fun a ps e=>by
  show L2.upd H d o a=_;rw[zk (za2 (show H a=some _ from e) hd fun z=>hn _ z.symm)]; exact e
def kvM (seq:List (List Int)):List (List Key×V):=(dd seq).map fun ps=>((ps.map Sum.inl:List Key),V.bl true)
theorem zeL (seq:List (List Int)):(kvM seq).length<=seq.length:=by unfold kvM; rw[Ab]; exact zb6 seq
theorem zeO (seq:List (List Int)) (ps:List Int):putK (kvM seq) (ps.map Sum.inl) (.bl true)=kvM (seq++[ps]):=by
 unfold putK kvM;rw[zbX];have ha:(((dd seq).map fun ps=>((ps.map Sum.inl:List Key),V.bl true)).any fun kv=>decide (kv.1=ps.map Sum.inl))=decide (ps∈dd seq):=by
  rw[List.any_map]
  by_cases h:ps∈dd seq
  ·rw[decide_eq_true h,List.any_eq_true]
   exact⟨ps,h,by simp⟩
  ·rw[decide_eq_false h,List.any_eq_false]
   intro q hq;simp only[Function.comp,decide_eq_true_eq,zgC];rintro rfl;exact h hq
 rw[ha]
 by_cases h:ps∈dd seq
 ·rw[decide_eq_true h,if_pos rfl,if_pos h,Aw]
  refine List.map_congr_left fun q hq=>?_;simp only[Function.comp];split <;> rfl
 ·rw[decide_eq_false h,if_neg (by simp),if_neg h,Ak]
  rfl
theorem zfE {H:Hp}{seq:List (List Int)}{bs:List Addr} (h:Paired (fun (p:List Key×V) b=>H b=some (.tup (p.1.map kV))) (kvM seq) bs):Tps H bs (dd seq):=by
 unfold kvM at h;generalize dd seq=l at h
 induction l generalizing bs with
 | nil=>cases h; exact .nil
 | cons x l ih=>
  rw[AK] at h;cases h with
  | cons r t=>
   refine .cons ?_ (ih t);show H _=_;rw[r,Aw]
   rfl
theorem zfA (pss:List (List Int)) (h:∀ps∈pss,ps.length<=5):(pss.flatMap parts).length<=31*pss.length:=by
 induction pss with
 | nil=>simp
 | cons x l ih=>
  rw[List.flatMap_cons,At,zaG,As];have:=ih fun ps hp=>h ps (Ax _ hp);have:=pow5 (h x AB);omega
theorem zdX {pss:List (List Int)}{i:Nat}{ps:List Int} (h:pss[i]?=some ps):(pss.take (i+1)).flatMap parts=(pss.take i).flatMap parts++parts ps:=by
 rw[AQ h,List.flatMap_append]; simp
def Told (H H2:Hp) (pss:List (List Int)) (D:Addr) (qs:List (List Int×Addr)):Prop:=
 Same H H2/\H D=none/\H2 D=some (.lst (qs.map fun q=>V.ref q.2))/\(∀q∈qs,Tp H2 q.2 q.1)/\(qs.map (·.1)).Perm (dd (pss.flatMap parts))/\qs.Pairwise (fun a b=>HT.lexLt ((b.1.length:Int)::b.1) ((a.1.length:Int)::a.1)=false)
section
variable {P:Program}{w:World}{K:Ae}{mg:Str->Option Value}{base:Heap}
def zdS (K:Ae):Sp:=fun vs H Q _=>∃l as pss,vs=[.ref l]/\SqL K H l (as.map V.ref)/\Tps H as pss/\(∀ps∈pss,ps.length<=5)/\pss.length<=60/\(dd (pss.flatMap parts)).length<64/\∀D H2 qs,Told H H2 pss D qs->Q (.ref D) H2
theorem zji:zp ["some","found","piece","part"] ["some"] (za sAll):=⟨rfl,rfl,rfl,by decide +kernel,rfl,by decide +kernel,by decide +kernel⟩
theorem zjC {f fp fo fk:Addr}{fd fdp fdo fdk:FuncData} (F:Fun K "all_parts" "all_parts" sAll f fd) (B:Bt mg)
  (Fp:Fun K "parts_of" "parts_of" zbV fp fdp) (bp:Binds K fdp ["piece"] []) (mp:mg "parts_of"=some (.ref fp)) (Fo:Fun K "in_order" "in_order" zbG fo fdo) (bo:Binds K fdo ["some"] []) (mo:mg "in_order"=some (.ref fo))
  (Fk:Fun K "order_key" "order_key" sKey fk fdk) (bk:Binds K fdk ["piece"] []) (mk:mg "order_key"=some (.ref fk)):FnOk P w K mg base CX0 5 f fd ["some"] (zdS K):=by
 have Gp:FnOk P w K mg base CX0 1 fp fdp ["piece"] zdi:=ziG Fp;have Go:FnOk P w K mg base CX0 4 fo fdo ["some"] (ze5 K):=zfK Fo B Fk bk mk;refine F.ok zji (fun vs H Q E h=>?_) (fun cdv A outer s H vs Q E hr h=>?_)
 ·obtain⟨l,as,pss,rfl,_⟩:=h; rfl
 ·obtain⟨l,as,pss,rfl,hl,ht,h5,h20,h64,k⟩:=h
  have hu:=zcV hr;have hr1:Room 1 _:=hr.mono (by decide);refine⟨_,zb (zn (i:=1) zji.nd rfl (Or.inl rfl) zde)
   (zb (zaq A7 rfl (zw (pv 0)) (zm (i:=2) zji.nd rfl (Or.inl rfl))
    (ze (zaq A7 rfl (zw (zi Gp hr1 rfl mp Fp.kp bp .nil pass0 (pa_cons (pv 2) pa_nil))) (zm (i:=3) zji.nd rfl (Or.inl rfl))
     (ze (zaV hu (pv 1) (pv 3) zba rfl)))))
   (ze (zt (zi Go hr rfl mo Fo.kp bo .nil pass0 (pa_cons (zx (zca rfl) rfl B.list zbS (pa_cons (pv 1) pa_nil)) pa_nil))))),?_⟩
  intro d hd;have hla:=ht.length;refine⟨_,rfl,l,rfl,⟨_,(Same.new hd).seq hl⟩,zaa (K:=K) (a:=l) (xs:=as.map V.ref) (fun i σ H2=>∃v v',σ=[some (.ref l),some (.ref d),v,v']/\Same H H2/\H2 d=some (.dT (kvM ((pss.take i).flatMap parts))))
   ⟨none,none,rfl,Same.new hd,upd_same⟩ (fun i σ H2 _ ⟨_,_,_,sm,_⟩=>sm.seq hl) ?_ ?_⟩
  ·rintro i x σ H2 hx ⟨v,v',rfl,sm,hd2⟩
   obtain⟨a,ea,rfl⟩:=zP hx;obtain⟨ps,eps,hps⟩:=ht.get ea;have hps5:=h5 ps (Aq eps);have hi:i<pss.length:=(List.getElem?_eq_some_iff.mp eps).1;refine⟨_,rfl,a,ps,rfl,sm.tp hps,hps5,fun D cs H3 sm3 hD0 hD hcs=>⟨D,rfl,⟨_,SqL.of hD⟩,?_⟩⟩;have hlc:=hcs.length;have hdD:D≠d:=za2 hD (sm3 _ _ hd2) (by intro z; cases z);refine zaa (K:=K) (a:=D) (xs:=cs.map V.ref) (fun j σ H4=>∃v',σ=[some (.ref l),some (.ref d),some (.ref a),v']/\Same H H4/\H4 D=some (.lst (cs.map V.ref))/\Tps H4 cs (parts ps)/\H4 d=some (.dT (kvM ((pss.take i).flatMap parts++(parts ps).take j))))
    ⟨_,rfl,sm.trans sm3,hD,hcs,by rw[List.take_zero,List.append_nil]; exact sm3 _ _ hd2⟩ (fun j σ H4 _ ⟨_,_,_,q,_⟩=>SqL.of q) ?_ ?_
   ·rintro j x σ H4 hx ⟨v',rfl,sm4,hD4,hcs4,hd4⟩
    obtain⟨c,ec,rfl⟩:=zP hx;obtain⟨f,ef,hf⟩:=hcs4.get ec;have hlen:(kvM ((pss.take i).flatMap parts++(parts ps).take j)).length<sizeLine:=by
     refine zab (AF (zeL _) ?_);rw[At];have h1:=zfA (pss.take i) (fun q hq=>h5 q (List.mem_of_mem_take hq));have h2:=zaG ps;have h3:=pow5 hps5;rw[AS] at h1 ⊢;omega
    refine⟨_,rfl,_,rfl,d,_,rfl,DPut.t (k:=f.map Sum.inl) hd4 (by rw[Aw]; exact hf) hlen,⟨_,rfl,sm4.then hd,?_,?_,?_⟩⟩
    ·rw[zk hdD]; exact hD4
    ·exact Tps.upd hcs4 hd4 (by intro xs z; cases z)
    ·rw[upd_same,zeO,List.append_assoc,<- AQ ef]
   ·rintro σ H4 ⟨v',rfl,sm4,hD4,hcs4,hd4⟩
    refine⟨_,_,rfl,sm4,?_⟩;rw[Ab,hlc,take_all] at hd4;rw[zdX eps];exact hd4
  ·rintro σ H2 ⟨v,v',rfl,sm,hd2⟩
   rw[Ab,hla,take_all] at hd2;refine⟨_,rfl,d,_,rfl,hd2,fun bs hb l2 hl2=>?_⟩;have tb:=zfE hb;have hlb:=tb.length;refine⟨l2,bs,dd (pss.flatMap parts),rfl,SqL.of upd_same,(Same.new hl2).tps tb,h64,fun D H3 qs sm3 hD hD3 hp hs=>?_⟩;have hl20:H l2=none:=sm.free hl2;refine k D H3 qs ⟨(sm.then hl20).trans sm3,(sm.then hl20).free hD,hD3,fun q hq=>?_,?_,hs⟩
   ·obtain⟨m,em⟩:=List.mem_iff_getElem?.mp (hp.mem_iff.mp hq)
    rw[Srt.zipget] at em;cases e1:(dd (pss.flatMap parts))[m]? with
    | none=>rw[e1] at em; cases em
    | some f=>
     cases e2:bs[m]? with
     | none=>rw[e1,e2] at em; cases em
     | some b=>
      rw[e1,e2] at em;obtain rfl:(f,b)=q:=Ao em;exact sm3.tp ((Same.new hl2).tp (zbf tb m b f e2 e1))
   ·have:=hp.map (·.1)
    rw[List.map_fst_zip (by omega)] at this;exact this
def zhN (K:Ae):Sp:=fun vs H Q _=>∃l as pss,vs=[.ref l]/\SqL K H l (as.map V.ref)/\Tps H as pss/\(pss.all zW=true->(dd (pss.flatMap parts)).length<64)/\∀H',Same H H'->Q (.bl (webM pss)) H'
theorem zly:zp ["web"] ["web"] (za zcq):=⟨rfl,rfl,rfl,by decide +kernel,rfl,by decide +kernel,by decide +kernel⟩
theorem zi6 {f fi fa fp fo fk:Addr}{fd fdi fda fdp fdo fdk:FuncData}{t5 t99 t20 t200:Tok} (F:Fun K "is_web" "is_web" zcq f fd) (B:Bt mg) (m5:mg "MOST_POINTS"=some (.int 5 t5)) (m99:mg "LAST_POINT"=some (.int 99 t99))
  (m20:mg "MOST_HANDED"=some (.int 20 t20)) (m200:mg "MOST_PIECES"=some (.int 200 t200))
  (Fi:Fun K "is_piece" "is_piece" zcs fi fdi) (bi:Binds K fdi ["numbers"] []) (mi:mg "is_piece"=some (.ref fi))
  (Fa:Fun K "all_parts" "all_parts" sAll fa fda) (ba:Binds K fda ["some"] []) (ma:mg "all_parts"=some (.ref fa))
  (Fp:Fun K "parts_of" "parts_of" zbV fp fdp) (bp:Binds K fdp ["piece"] []) (mp:mg "parts_of"=some (.ref fp)) (Fo:Fun K "in_order" "in_order" zbG fo fdo) (bo:Binds K fdo ["some"] []) (mo:mg "in_order"=some (.ref fo))
  (Fk:Fun K "order_key" "order_key" sKey fk fdk) (bk:Binds K fdk ["piece"] []) (mk:mg "order_key"=some (.ref fk)):FnOk P w K mg base CX0 6 f fd ["web"] (zhN K):=by
 have Gi:FnOk P w K mg base CX0 1 fi fdi ["numbers"] zh8:=zja Fi B m5 m99;have Ga:FnOk P w K mg base CX0 5 fa fda ["some"] (zdS K):=zjC Fa B Fp bp mp Fo bo mo Fk bk mk;refine F.ok zly (fun vs H Q E h=>?_) (fun cdv A outer s H vs Q E hr h=>?_)
 ·obtain⟨l,as,pss,rfl,_⟩:=h; rfl
 ·obtain⟨l,as,pss,rfl,hl,ht,h64,k⟩:=h
  have hu64:=hr.units;have hr1:Room 1 _:=hr.mono (by decide);refine⟨_,zb (zU (zo zeF (zj zh rfl B.len z0 (pa_cons (pv 0) pa_nil)) (zb0 rfl m20 (v:=.int 20) ⟨_,rfl⟩) (nomark _)) (ze (zt zba)) zv)
   (zb (zU (za1 (zaY (zj (zbm rfl) rfl B.all zgA (pa_cons
    (zy ["web"] ["numbers"] [none] (zw (pv 0)) (fun cl C s₀ H₀ ex=>zm (i:=0) (ndN ["numbers"]) rfl (Or.inl rfl)) (fun cl C s₀ H₀ ex=>zL)
     (fun cl C s₀ H₀ ex=>zi Gi hr1 rfl mi Fi.kp bi .nil pass0 (pa_cons (pv 0) pa_nil)) (hfr:=nofr (by decide +kernel))) pa_nil)))) (ze (zt zba)) zv)
   (zb (zU (zo ziB (zj zdo rfl B.len z0 (pa_cons (zx (zd7 rfl hu64) rfl B.set zld (pa_cons (pv 0) pa_nil)) pa_nil)) (zj zh rfl B.len z0 (pa_cons (pv 0) pa_nil)) (nomark _)) (ze (zt zba)) zv)
   (ze (zt (zaS zkA (zj zh rfl B.len z0 (pa_cons (zi Ga hr rfl ma Fa.kp ba .nil pass0 (pa_cons (pv 0) pa_nil)) pa_nil)) (zb0 rfl m200 (v:=.int 200) ⟨_,rfl⟩) (nomark _)))))),?_⟩
  have hla:=ht.length;refine⟨_,rfl,l,_,rfl,.inl hl,_,_,rfl,rfl,_,rfl,?_⟩;rw[Ab];refine ite2 (fun h1=>?_) (fun h1=>?_)
  ·have:=k H (Same.refl H)
   rw[zit pss (by have:=of_decide_eq_true h1; omega)] at this;exact this
  ·have h20:pss.length<=20:=by
    have:¬ ((20:Int)<as.length):=fun z=>h1 (decide_eq_true z);omega
   refine⟨_,rfl,l,rfl,⟨_,hl⟩,fun D hD=>zz (zH (K:=K) (a:=l) (xs:=as.map V.ref) (fun i σ ys H3=>∃v,σ=[v]/\Same H H3/\H3 D=some (.lst ys)/\ys=((pss.map zW).take i).map V.bl)
    ⟨none,rfl,Same.new hD,upd_same,rfl⟩ (fun i σ ys H3 ⟨_,_,sm,_⟩=>sm.seq hl) ?_ ?_)⟩
   ·rintro i σ ys H3 x hx hi hy ⟨v,rfl,sm,hD3,rfl⟩
    obtain⟨a,ea,rfl⟩:=zP hx;obtain⟨ps,eps,hps⟩:=ht.get ea;refine gyes ?_;refine⟨_,rfl,a,ps,rfl,sm.tp hps,fun H4 sm4=>cput (by rw[Ab]; exact zd (by omega)) hi hy (sm4 _ _ hD3) ⟨_,rfl,(sm.trans sm4).then hD,upd_same,?_⟩⟩;have e:(pss.map zW)[i]?=some (zW ps):=by rw[Ap,eps]; rfl
    rw[AQ e,Ak]; rfl
   ·rintro σ ys H3 ⟨v,rfl,sm,hD3,rfl⟩
    rw[Ab,hla,Ay (by simp)] at hD3;refine⟨D,pss.map zW,rfl,SqL.of hD3,_,rfl,?_⟩;have eall:(pss.map zW).all id=pss.all zW:=by rw[List.all_map]; rfl
    rw[eall];cases hp:pss.all zW with
    | false=>
     refine iteT ?_;have:=k H3 sm;rw[show webM pss=false from by unfold webM; rw[hp]; simp] at this;exact this
    | true=>
     refine iteF ?_;refine⟨_,rfl,l,as,pss,rfl,sm.seq hl,sm.tps ht,by omega,fun S hS=>?_⟩;have sS:Same H (upd H3 S (SetN S (dd pss).length)):=sm.then (sm.free hS);refine⟨S,_,rfl,upd_same,_,rfl,l,_,rfl,.inl (sS.seq hl),_,_,rfl,rfl,_,rfl,?_⟩;rw[Ab,hla];refine ite2 (fun h2=>?_) (fun h2=>?_)
     ·have h2':(dd pss).length<pss.length:=by have:=of_decide_eq_true h2; omega
      have:=k _ sS;rw[show webM pss=false from by unfold webM; rw[decide_eq_true h2']; simp] at this;exact this
     ·have h2':¬ (dd pss).length<pss.length:=fun z=>h2 (decide_eq_true (by omega))
      refine⟨_,rfl,l,as,pss,rfl,sS.seq hl,sS.tps ht,fun ps hps=>?_,AF h20 (by decide),h64 hp,fun D2 H4 qs ⟨sm4,_,hD4,_,hperm,_⟩=>?_⟩
      ·have:=List.all_eq_true.mp hp ps hps
       unfold zW at this;simp only[AN,decide_eq_true_eq] at this;exact this.1.1.1.2
      ·refine⟨D2,_,rfl,.inl (SqL.of hD4),_,_,rfl,rfl,?_⟩
       have hlen:(qs.map fun q=>V.ref q.2).length=(dd (pss.flatMap parts)).length:=by
        rw[Ab,<- hperm.length_eq,Ab]
       rw[hlen];have:=k H4 (sS.trans sm4);have e:webM pss=decide (((dd (pss.flatMap parts)).length:Int)<=200):=by
        unfold webM;rw[hp,decide_eq_true h20,decide_eq_false h2']
        by_cases q:(dd (pss.flatMap parts)).length<=200
        ·rw[decide_eq_true q,decide_eq_true (show ((dd (pss.flatMap parts)).length:Int)<=200 by omega)]; rfl
        ·rw[decide_eq_false q,decide_eq_false (show ¬ ((dd (pss.flatMap parts)).length:Int)<=200 by omega)]; rfl
       rw[e] at this;exact this
end
end K52
end
section
namespace K52
open K1
open PySem L2 STb
abbrev zeT:Stmt:=top 36
abbrev sBox:Stmt:=top 37
abbrev zcR:Stmt:=top 38
def zlZ (x y:Int):Prop:=0<=x/\(y=0 \/ (y=1/\x<4294967296))
def zT (H:Hp) (p:Addr):Prop:=∃x y,H p=some (.lst [.int x,.int y])/\zlZ x y
def zac (p:Addr) (H H':Hp):Prop:=∀b o,b≠p->H b=some o->H' b=some o
theorem zac.trans {p:Addr}{H H1 H2:Hp} (a:zac p H H1) (b:zac p H1 H2):zac p H H2:=fun c o hc e=>b c o hc (a c o hc e)
theorem zac.of {p:Addr}{H H1:Hp} (a:Same H H1):zac p H H1:=fun c o _ e=>a c o e
theorem zac.free {p:Addr}{H H':Hp} (e:zac p H H') (hb:zT H p) (hb':zT H' p) {l:Addr} (h:H' l=none):H l=none:=by
 cases q:H l with
 | none=>rfl
 | some o=>
  obtain⟨x,y,e1,_⟩:=hb';have hl:l≠p:=fun z=>by rw[z,e1] at h; cases h
  rw[e l o hl q] at h;cases h
theorem zT.same {H H':Hp}{p:Addr} (b:zT H p) (e:Same H H'):zT H' p:=let ⟨x,y,h,o⟩:=b; ⟨x,y,e _ _ h,o⟩
theorem zT.ne {H:Hp}{p l:Addr}{as:List Addr} (b:zT H p) (h:H l=some (.lst (as.map V.ref))):l≠p:=by
 obtain⟨x,y,e,_⟩:=b;refine za2 h e fun z=>?_;injection z with z
 cases as with
 | nil=>cases z
 | cons a r=>rw[AK] at z; cases z
theorem zT.net {H:Hp}{p t:Addr}{xs:List V} (b:zT H p) (h:H t=some (.tup xs)):t≠p:=by
 obtain⟨x,y,e,_⟩:=b;exact za2 h e (by intro z; cases z)
theorem zac.tp {p:Addr}{H H':Hp}{a:Addr}{ps:List Int} (e:zac p H H') (b:zT H p) (h:Tp H a ps):Tp H' a ps:=e _ _ (b.net h) h
theorem zac.tps {p:Addr}{H H':Hp}{as:List Addr}{pss:List (List Int)} (e:zac p H H') (b:zT H p) (h:Tps H as pss):Tps H' as pss:=Paired.mapP h fun _ _ q=>e.tp b q
theorem zac.then {p:Addr}{H H1:Hp}{a:Addr}{o:HO} (e:zac p H H1) (h:H a=none):zac p H (L2.upd H1 a o):=fun b u hb q=>by rw[zk (zg q h)]; exact e b u hb q
theorem zT.upd {H:Hp}{p l:Addr}{o:HO} (b:zT H p) (h:l≠p):zT (L2.upd H l o) p:=let ⟨x,y,e,k⟩:=b; ⟨x,y,by rw[zk h.symm]; exact e,k⟩
theorem zT.new {H:Hp}{p l:Addr}{o:HO} (b:zT H p) (h:H l=none):zT (L2.upd H l o) p:=b.same (Same.new h)
section
variable {P:Program}{w:World}{K:Ae}{mg:Str->Option Value}{base:Heap}
def zkg (K:Ae):Sp:=fun vs H Q _=>∃(l:Addr) (ns:List Int),vs=[.ref l,.int 0]/\SqL K H l (ns.map V.int)/\∀n,Q (.int n) H
theorem zl5:zp ["script","k"] ["script","k"] (za zeT):=⟨rfl,rfl,rfl,by decide +kernel,rfl,by decide +kernel,by decide +kernel⟩
theorem zkE {f:Addr}{fd:FuncData} (F:Fun K "_law_cell_at" "_law_cell_at" zeT f fd) (B:Bt mg):FnOk P w K mg base CX0 1 f fd ["script","k"] (zkg K):=by
 refine F.ok zl5 (fun vs H Q E h=>?_) (fun cdv A outer s H vs Q E hr h=>?_)
 ·obtain⟨l,ns,rfl,_⟩:=h; rfl
 ·obtain⟨l,ns,rfl,hl,k⟩:=h
  refine⟨_,zb (zU (zo ziB (pv 1) (zj zh rfl B.len z0 (pa_cons (pv 0) pa_nil)) (nomark _)) (ze (zt (zK zC (pv 0) (pv 1) (fun _ _=>rfl)))) zv) (ze (zt zf)),?_⟩;refine⟨_,rfl,_,rfl,l,_,rfl,.inl hl,_,_,rfl,rfl,_,rfl,?_⟩;refine ite2 (fun h1=>?_) (fun h1=>?_)
  ·cases ns with
   | nil=>have:=of_decide_eq_true h1; simp at this
   | cons n ns=>exact⟨_,rfl,_,rfl,l,_,_,_,rfl,rfl,hl,zu (j:=0) rfl,k n⟩
  ·exact k 0
def zl6:Sp:=fun vs H Q _=>∃n,vs=[.int n]/\∀p x y,H p=none->zlZ x y->Q (.ref p) (upd H p (.lst [.int x,.int y]))
theorem zm2:zp ["cell"] ["cell"] (za sBox):=⟨rfl,rfl,rfl,by decide +kernel,rfl,by decide +kernel,by decide +kernel⟩
theorem zms {f:Addr}{fd:FuncData} (F:Fun K "_law_box" "_law_box" sBox f fd):FnOk P w K mg base CX0 1 f fd ["cell"] zl6:=by
 refine F.ok zm2 (fun vs H Q E h=>?_) (fun cdv A outer s H vs Q E hr h=>?_)
 ·obtain⟨n,rfl,_⟩:=h; rfl
 ·obtain⟨n,rfl,k⟩:=h
  refine⟨_,zb (zU (zo zmK (pv 0) (zG zg1 zf zf) (nomark _)) (ze (zt (zO (pa_cons (zG zhq (pv 0) (zG zg1 zf zf)) (pa_cons zf pa_nil))))) zv)
   (ze (zt (zO (pa_cons (zG zcw (zG zbd (zG zc1 (zG zcw (pv 0) (zG zg1 zf zf)) zf) zf) zf) (pa_cons zf pa_nil))))),?_⟩
  have hc:CPow 10 18:=⟨by decide,by decide,by decide⟩;have e18:(10:Int) ^ (18:Int).toNat=1000000000000000000:=by decide
  refine⟨_,rfl,_,_,rfl,rfl,hc,_,_,rfl,rfl,_,rfl,?_⟩;refine ite2 (fun h1=>?_) (fun h1=>?_)
  ·refine⟨_,rfl,_,_,rfl,rfl,hc,_,_,rfl,rfl,zd (by simp),fun p hp=>k p _ 0 hp ⟨?_,.inl rfl⟩⟩
   have:=of_decide_eq_true h1;omega
  ·refine⟨_,rfl,_,_,rfl,rfl,hc,_,_,rfl,rfl,(by show (0:Int)<10 ^ (18:Int).toNat; rw[e18]; decide),_,_,rfl,rfl,.inr ⟨by decide,by decide⟩,_,_,rfl,rfl,_,_,rfl,rfl,(by show (0:Int)<2147483629; decide),zd (by simp),fun p hp=>k p _ 1 hp ⟨?_,.inr ⟨rfl,?_⟩⟩⟩
   ·exact Int.emod_nonneg _ (by decide)
   ·have:=Int.emod_lt_of_pos (n % 10 ^ (18:Int).toNat*69621+7001) (show (0:Int)<2147483629 by decide)
    omega
def zdN:Sp:=fun vs H Q _=>∃p m,vs=[.ref p,.int m]/\zT H p/\0<m/\m<1073741824/\∀r H',0<=r->r<m->zac p H H'->zT H' p->Q (.int r) H'
theorem zhD:zp ["box","most","found","mixed"] ["box","most"] (za zcR):=⟨rfl,rfl,rfl,by decide +kernel,rfl,by decide +kernel,by decide +kernel⟩
theorem zdr {f:Addr}{fd:FuncData} (F:Fun K "_law_take" "_law_take" zcR f fd):FnOk P w K mg base CX0 1 f fd ["box","most"] zdN:=by
 refine F.ok zhD (fun vs H Q E h=>?_) (fun cdv A outer s H vs Q E hr h=>?_)
 ·obtain⟨p,m,rfl,_⟩:=h; rfl
 ·obtain⟨p,m,rfl,⟨x,y,hp,h0,hxy⟩,hm0,hm,k⟩:=h
  refine⟨_,zb (zU (zo zaC (zK zC (pv 0) zf (fun _ _=>rfl)) zf (nomark _))
    (zb (zn (i:=2) zhD.nd rfl (Or.inl rfl) (zG zcw (zK zC (pv 0) zf (fun _ _=>rfl)) (pv 1)))
    (zb (zfW (zG zgT (zK zC (pv 0) zf (fun _ _=>rfl)) (pv 1)) (zjI (pv 0) zf set_list))
    (ze (zt (pv 2))))) zv)
   (zb (zn (i:=3) zhD.nd rfl (Or.inl rfl) (zG zcw (zG zbd (zG zbd (zG zc1 (zK zC (pv 0) zf (fun _ _=>rfl)) (zK zC (pv 0) zf (fun _ _=>rfl))) (zG zc1 zf (zK zC (pv 0) zf (fun _ _=>rfl)))) zf) zf))
   (zb (zfW (zG zcw (zG zbd (zG zbd (zG zc1 (pv 3) (pv 3)) (zG zc1 zf (pv 3))) zf) zf) (zjI (pv 0) zf set_list))
   (ze (zt (zG zcw (zG zgT (zK zC (pv 0) zf (fun _ _=>rfl)) zf) (pv 1)))))),?_⟩
  have a0:atI ([.int x,.int y]:List V) 0=some (.int x):=zu (j:=0) rfl;have a1:atI ([.int x,.int y]:List V) 1=some (.int y):=zu (j:=1) rfl;refine⟨_,rfl,p,_,_,_,rfl,rfl,SqL.of hp,a1,rfl,_,rfl,?_⟩;refine ite2 (fun h1=>?_) (fun h1=>?_)
  ·refine⟨_,rfl,p,_,_,_,rfl,rfl,SqL.of hp,a0,_,rfl,_,_,rfl,rfl,hm0,?_⟩
   refine⟨_,rfl,p,_,_,_,rfl,rfl,SqL.of hp,a0,_,rfl,_,_,rfl,rfl,⟨hm0,hm⟩,_,rfl,p,_,_,0,rfl,rfl,hp,rfl,?_⟩;refine⟨_,rfl,k (x % m) _ (Int.emod_nonneg _ (by omega)) (Int.emod_lt_of_pos _ hm0) (fun b o hb e=>by rw[zk hb]; exact e) ⟨x / m,y,upd_same,Int.ediv_nonneg h0 (by omega),?_⟩⟩;rcases hxy with q | ⟨q,hx⟩
   ·exact .inl q
   ·refine .inr ⟨q,Int.lt_of_le_of_lt (Int.ediv_le_self _ h0) hx⟩
  ·have hy:y=1/\x<4294967296:=by
    rcases hxy with q | q
    ·exact absurd (by subst q; rfl) h1
    ·exact q
   obtain⟨rfl,hx⟩:=hy;have hb:CMul x x:=.inl ⟨by omega,by omega⟩;refine⟨_,rfl,p,_,_,_,rfl,rfl,SqL.of hp,a0,_,rfl,p,_,_,_,rfl,rfl,SqL.of hp,a0,_,_,rfl,rfl,hb,_,rfl,p,_,_,_,rfl,rfl,SqL.of hp,a0,_,_,rfl,rfl,.inl ⟨by decide,by decide⟩,_,_,rfl,rfl,_,_,rfl,rfl,_,_,rfl,rfl,(by show (0:Int)<2147483647; decide),?_⟩;have m0:=Int.emod_nonneg (x*x+39373*x+12345) (show (2147483647:Int)≠0 by decide);have m1:=Int.emod_lt_of_pos (x*x+39373*x+12345) (show (0:Int)<2147483647 by decide);obtain⟨z,ez⟩:∃z,z=(x*x+39373*x+12345) % 2147483647:=⟨_,rfl⟩;rw[<- ez] at m0 m1;show tSeq _ _ _ ([some (.ref p),some (.int m),none,some (.int ((x*x+39373*x+12345) % 2147483647))]:St) H;rw[<- ez];refine⟨_,rfl,_,rfl,_,_,rfl,rfl,.inl ⟨by omega,by omega⟩,_,rfl,_,_,rfl,rfl,.inl ⟨by decide,by decide⟩,_,_,rfl,rfl,_,_,rfl,rfl,_,_,rfl,rfl,(by show (0:Int)<2147483587; decide),_,rfl,p,_,_,0,rfl,rfl,hp,rfl,?_⟩;have g0:=Int.emod_nonneg (z*z+16807*z+7) (show (2147483587:Int)≠0 by decide);have g1:=Int.emod_lt_of_pos (z*z+16807*z+7) (show (0:Int)<2147483587 by decide);obtain⟨u,eu⟩:∃u,u=(z*z+16807*z+7) % 2147483587:=⟨_,rfl⟩;rw[<- eu] at g0 g1;have hpu:upd H p (.lst [.int ((z*z+16807*z+7) % 2147483587),.int 1]) p=some (.lst [.int u,.int 1]):=by rw[eu]; exact upd_same
   refine⟨_,rfl,p,_,_,_,rfl,rfl,SqL.of hpu,zu (j:=0) rfl,_,_,rfl,rfl,⟨by decide,by decide⟩,_,rfl,_,_,rfl,rfl,hm0,?_⟩;exact k _ _ (Int.emod_nonneg _ (by omega)) (Int.emod_lt_of_pos _ hm0) (fun b o hb e=>by rw[zk hb]; exact e) ⟨u,1,hpu,g0,.inr ⟨rfl,by omega⟩⟩
end
end K52
end
section
namespace K52
open K1
open PySem L2 STb
abbrev za5:Stmt:=top 39
abbrev zar:Stmt:=top 40
section
variable {P:Program}{w:World}{K:Ae}{mg:Str->Option Value}{base:Heap}
theorem zeI {H2:Hp}{as:List Addr}{fs:List (List Int)}{D l:Addr}{Q:VK} (hl:H2 l=some (.lst (as.map V.ref))) (ht:Tps H2 as fs) (hz:as.length<=100) (hD:H2 D=none)
  (k:∀bs H3,Same H2 H3->H3 D=some (.lst (bs.map V.ref))->Tps H3 bs (fs.filter fun q=>!decide (q=[]))->Q (.ref D) H3) :
  zaf (Itl K l) (zai 0) (zfh (tOp (rEqT true K) (tVar 0) (tTup tNil))) (tVar 0) [none] H2 D Q:=by
 have hla:=ht.length;refine zH (xs:=as.map V.ref) (fun j σ ys H3=>∃bs v,σ=[v]/\Same H2 H3/\H3 D=some (.lst ys)/\ys=bs.map V.ref/\Tps H3 bs ((fs.take j).filter fun q=>!decide (q=[]))) ?_ ?_ ?_ ?_
 ·exact⟨[],none,rfl,Same.new hD,upd_same,rfl,.nil⟩
 ·rintro j σ ys H3 ⟨bs,v,rfl,sm,hD3,rfl,hb⟩
  exact SqL.of (sm _ _ hl)
 ·rintro j σ ys H3 x hx hj hy ⟨bs,v,rfl,sm,hD3,rfl,hb⟩
  obtain⟨a,ea,rfl⟩:=zP hx;obtain⟨f,ef,hf⟩:=ht.get ea;refine⟨_,rfl,zd (by simp),fun t htn=>?_⟩;have hf3:=sm.tp hf;have s1:Same H3 (upd H3 t (.tup [])):=Same.new htn;refine .inl ⟨a,t,f,[],rfl,rfl,s1.tp hf3,upd_same,_,rfl,?_⟩;have sm1:=sm.trans s1;have keep:∀(o:HO) c xs,upd H3 t (.tup []) c=some (.tup xs)->upd (upd H3 t (.tup [])) D o c=some (.tup xs):=fun o c xs e=>by
   rw[zk (za2 e (s1 _ _ hD3) (by intro z; cases z))]; exact e
  by_cases h:f=[]
  ·subst h
   refine iteF (cskip hj hy ⟨bs,_,rfl,sm1,s1 _ _ hD3,rfl,?_⟩);rw[AQ ef,A9]
   simpa using s1.tps hb
  ·rw[if_pos rfl,show (!decide (f=[]))=true by simp[h]]
   refine iteT ⟨_,rfl,cput (ys:=bs.map V.ref) (by rw[Ab]; exact zd (by omega)) hj hy (s1 _ _ hD3) ⟨bs++[a],_,rfl,sm1.then hD,upd_same,by rw[Ak]; rfl,?_⟩⟩;rw[AQ ef,A9,show [f].filter (fun q=>!decide (q=[]))=[f] by simp[h]];exact Tps.snoc (Paired.mapP (s1.tps hb) fun c xs e=>keep _ c _ e) (keep _ a _ (s1.tp hf3))
 ·rintro σ ys H3 ⟨bs,v,rfl,sm,hD3,rfl,hb⟩
  rw[Ab,hla,take_all] at hb;exact k bs H3 sm hD3 hb
theorem zcf:zp ["piece","found","point"] ["piece"] (za za5):=⟨rfl,rfl,rfl,by decide +kernel,rfl,by decide +kernel,by decide +kernel⟩
theorem zgB {f:Addr}{fd:FuncData} (F:Fun K "_law_parts" "_law_parts" za5 f fd):FnOk P w K mg base CX0 1 f fd ["piece"] zdi:=by
 refine F.ok zcf (fun vs H Q E h=>?_) (fun cdv A outer s H vs Q E hr h=>?_)
 ·obtain⟨a,ps,rfl,_⟩:=h; rfl
 ·obtain⟨a,ps,rfl,ha,h5,k⟩:=h
  have hu64:=hr.units;refine⟨_,zb (zn (i:=1) zcf.nd rfl (Or.inl rfl) (zO (pa_cons (zaX pa_nil) pa_nil)))
   (zb (zaq A7 rfl (zcM (pv 0)) (zm (i:=2) zcf.nd rfl (Or.inr rfl))
    (ze (zn (i:=1) zcf.nd rfl (Or.inl rfl) (zG zbF (pv 1) (zy ["piece","found","point"] ["part","point"] [none,some 2] (zw (pv 1)) (fun cl C s₀ H₀ ex=>zm (i:=0) (ndN ["part","point"]) rfl (Or.inl rfl)) (fun cl C s₀ H₀ ex=>zL)
     (fun cl C s₀ H₀ ex=>zG zfe (pv 0) (zaX (pa_cons (pv 1) pa_nil))) (hfr:=frOf (za za5) (by decide +kernel)))))))
   (ze (zt (zy ["piece","found","point"] ["part"] [none] (zw (pv 1)) (fun cl C s₀ H₀ ex=>zm (i:=0) (ndN ["part"]) rfl (Or.inl rfl)) (fun cl C s₀ H₀ ex=>zaR (zo (zlV hu64) (pv 0) (zaX pa_nil) (nomark _)))
     (fun cl C s₀ H₀ ex=>pv 0) (hfr:=nofr (by decide +kernel)) (tc:=zfh (tOp (rEqT true K) (tVar 0) (tTup tNil))))))),?_⟩
  refine⟨zd (by simp),fun e he=>⟨zd (by simp),fun l hl=>?_⟩⟩;have s1:Same H (upd (upd H e (.tup [])) l (.lst [.ref e])):=(Same.new he).then ((Same.new he).free hl);have hle:e≠l:=zg (H:=upd H e (.tup [])) upd_same hl;refine⟨_,rfl,a,rfl,⟨_,SqT.of (s1 _ _ ha)⟩,zhV (K:=K) (a:=a) (xs:=ps.map V.int) (fun i σ H2=>∃l as v,σ=[some (.ref a),some (.ref l),v]/\Same H H2/\H l=none/\H2 l=some (.lst (as.map V.ref))/\Tps H2 as (subs (ps.take i)))
   ⟨l,[e],none,rfl,s1,(Same.new he).free hl,upd_same,.cons (by show upd _ _ _ e=_; rw[zk hle]; exact upd_same) .nil⟩ (fun i σ H2 _ ⟨_,_,_,_,sm,_⟩=>SqT.of (sm _ _ ha)) ?_ ?_⟩
  ·rintro i x σ H2 hx ⟨l,as,v,rfl,sm,hl0,hl,ht⟩
   obtain⟨q,eq,rfl⟩:=zbo hx;have hi:i<ps.length:=(List.getElem?_eq_some_iff.mp eq).1;have hla:=ht.length;have hn:as.length<=32:=by
    rw[hla,zck,AS];exact pow5 (by omega)
   have hm:∀f∈subs (ps.take i),f.length<=100:=fun f hf=>by
    have:=zcc _ f hf;rw[AS] at this;omega
   refine⟨_,rfl,_,rfl,l,rfl,⟨_,SqL.of hl⟩,fun D hD=>zz (zc8 hl ht (by omega) hm hD fun bs H3 sm3 hD3 hb=>?_)⟩;have hlb:=hb.length;rw[Ab] at hlb;refine⟨l,D,_,_,rfl,rfl,sm3 _ _ hl,hD3,by rw[Ab,Ab]; exact zd (by omega),fun l2 hl2=>?_⟩;have h02:H l2=none:=(sm.trans sm3).free hl2;refine⟨l2,as++bs,_,rfl,(sm.trans sm3).then h02,h02,by rw[upd_same,Ak],?_⟩;rw[AQ eq,zcu];exact (Same.new hl2).tps ((sm3.tps ht).append hb)
  ·rintro σ H2 ⟨l,as,v,rfl,sm,hl0,hl,ht⟩
   rw[Ab,take_all] at ht;have hla:=ht.length;refine⟨_,rfl,l,rfl,⟨_,SqL.of hl⟩,fun D hD=>zz (zeI hl ht (by rw[hla,zck]; have:=pow5 h5; omega) hD fun bs H3 sm3 hD3 hb=>?_)⟩;rw[zer] at hb;exact k D bs H3 (sm.trans sm3) (sm.free hD) hD3 hb
theorem zgs {H2:Hp}{bs:List Addr}{fs:List (List Int)}{D l:Addr}{Q:VK} (hl:H2 l=some (.lst (bs.map V.ref))) (ht:Tps H2 bs fs) (hz:bs.length<=1000) (hD:H2 D=none)
  (k:∀(cs:List Addr) H3,Same H2 H3->H3 D=some (.lst (cs.map V.ref))->cs.length=bs.length->(∀(i:Nat) c,cs[i]?=some c->∃b f,bs[i]?=some b/\fs[i]?=some f/\H3 c=some (.tup [.int f.length,.ref b]))->Q (.ref D) H3) :
  zaf (Itl K l) (zai 0) tYes (tTup (zQ (tCB (fun xs H Q=>∃p ys,xs=[V.ref p]/\(SqL K H p ys \/ SqT K H p ys)/\Q (.int ys.length) H) (zQ (tVar 0) tNil)) (zQ (tVar 0) tNil))) [none] H2 D Q:=by
 have hla:=ht.length;refine zH (xs:=bs.map V.ref) (fun j σ ys H3=>∃(cs:List Addr) (v:Option V),σ=[v]/\Same H2 H3/\H3 D=some (.lst ys)/\ys=cs.map V.ref/\cs.length=j/\∀(i:Nat) c,cs[i]?=some c->∃b f,bs[i]?=some b/\fs[i]?=some f/\H3 c=some (.tup [.int f.length,.ref b])) ?_ ?_ ?_ ?_
 ·exact⟨[],none,rfl,Same.new hD,upd_same,rfl,rfl,fun i c e=>by simp at e⟩
 ·rintro j σ ys H3 ⟨cs,v,rfl,sm,hD3,rfl,hj,hc⟩
  exact SqL.of (sm _ _ hl)
 ·rintro j σ ys H3 x hx hj hy ⟨cs,v,rfl,sm,hD3,rfl,hcl,hc⟩
  obtain⟨b,eb,rfl⟩:=zP hx;obtain⟨f,ef,hf⟩:=ht.get eb;refine gyes ?_;refine⟨_,rfl,b,_,rfl,.inr (SqT.of (sm.tp hf)),_,rfl,zd (by simp),fun t htn=>?_⟩;rw[show (f.map V.int).length=f.length from Ab _];have s1:Same H3 (upd H3 t (.tup [.int f.length,.ref b])):=Same.new htn;have keep:∀(o:HO) c xs,upd H3 t (.tup [.int f.length,.ref b]) c=some (.tup xs)->upd (upd H3 t (.tup [.int f.length,.ref b])) D o c=some (.tup xs):=fun o c xs e=>by
   rw[zk (za2 e (s1 _ _ hD3) (by intro z; cases z))]; exact e
  refine cput (ys:=cs.map V.ref) (by rw[Ab]; exact zd (by omega)) hj hy (s1 _ _ hD3) ⟨cs++[t],_,rfl,(sm.trans s1).then hD,upd_same,by rw[Ak]; rfl,by rw[At,hcl]; rfl,fun i c e=>?_⟩
  by_cases hi:i<cs.length
  ·rw[List.getElem?_append_left hi] at e
   obtain⟨b',f',e1,e2,e3⟩:=hc i c e;exact⟨b',f',e1,e2,keep _ c _ (s1 _ _ e3)⟩
  ·rw[List.getElem?_append_right (by omega)] at e
   have h0:i - cs.length=0:=by
    rcases Nat.eq_zero_or_pos (i - cs.length) with z | z
    ·exact z
    ·rw[List.getElem?_eq_none (by simp only[As,List.length_nil]; omega)] at e; cases e
   rw[h0] at e;obtain rfl:t=c:=by simpa using e
   have:i=j:=by omega
   subst this;exact⟨b,f,eb,ef,keep _ t _ upd_same⟩
 ·rintro σ ys H3 ⟨cs,v,rfl,sm,hD3,rfl,hcl,hc⟩
  rw[Ab] at hcl;exact k cs H3 sm hD3 hcl hc
def zd2 (H:Hp) (c:Addr):Addr:=match H c with
 | some (.tup [_,.ref b])=>b
 | _=>0
theorem zhQ {H2:Hp}{cs:List Addr}{D l:Addr}{Q:VK} (hl:H2 l=some (.lst (cs.map V.ref))) (ht:∀c∈cs,∃n b,H2 c=some (.tup [.int n,.ref b])) (hz:cs.length<=1000) (hD:H2 D=none)
  (k:∀H3,Same H2 H3->H3 D=some (.lst (cs.map fun c=>V.ref (zd2 H2 c)))->Q (.ref D) H3) :
  zaf (Itl K l) (zai 0) tYes (tOp (rIxT K) (tVar 0) (tC (.int 1))) [none] H2 D Q:=by
 refine zH (xs:=cs.map V.ref) (fun j σ ys H3=>∃v,σ=[v]/\Same H2 H3/\H3 D=some (.lst ys)/\ys=(cs.take j).map fun c=>V.ref (zd2 H2 c)) ?_ ?_ ?_ ?_
 ·exact⟨none,rfl,Same.new hD,upd_same,rfl⟩
 ·rintro j σ ys H3 ⟨v,rfl,sm,hD3,rfl⟩
  exact SqL.of (sm _ _ hl)
 ·rintro j σ ys H3 x hx hj hy ⟨v,rfl,sm,hD3,rfl⟩
  obtain⟨c,ec,rfl⟩:=zP hx;obtain⟨n,b,e⟩:=ht c (Aq ec);refine gyes ?_;refine⟨_,rfl,c,_,_,_,rfl,rfl,SqT.of (sm _ _ e),zu (j:=1) rfl,cput (by rw[Ab]; exact zd (by omega)) hj hy hD3 ⟨_,rfl,sm.then hD,upd_same,?_⟩⟩;rw[AQ ec,Ak];have:zd2 H2 c=b:=by unfold zd2; rw[e]
  rw[<- this]; rfl
 ·rintro σ ys H3 ⟨v,rfl,sm,hD3,rfl⟩
  rw[Ab,take_all] at hD3;exact k H3 sm hD3
theorem zbc:zp ["web","found","piece","part","ranked"] ["web"] (za zar):=⟨rfl,rfl,rfl,by decide +kernel,rfl,by decide +kernel,by decide +kernel⟩
theorem zgd {f fp:Addr}{fd fdp:FuncData} (F:Fun K "_law_pieces" "_law_pieces" zar f fd) (B:Bt mg)
  (Fp:Fun K "_law_parts" "_law_parts" za5 fp fdp) (bp:Binds K fdp ["piece"] []) (mp:mg "_law_parts"=some (.ref fp)):FnOk P w K mg base CX0 2 f fd ["web"] (zdS K):=by
 have Gp:FnOk P w K mg base CX0 1 fp fdp ["piece"] zdi:=zgB Fp;refine F.ok zbc (fun vs H Q E h=>?_) (fun cdv A outer s H vs Q E hr h=>?_)
 ·obtain⟨l,as,pss,rfl,_⟩:=h; rfl
 ·obtain⟨l,as,pss,rfl,hl,ht,h5,h20,h64,k⟩:=h
  have hu:=zcV hr;have hu64:=hr.units;refine⟨_,zb (zn (i:=1) zbc.nd rfl (Or.inl rfl) zde)
   (zb (zaq A7 rfl (zw (pv 0)) (zm (i:=2) zbc.nd rfl (Or.inl rfl))
    (ze (zaq A7 rfl (zw (zi Gp hr rfl mp Fp.kp bp .nil pass0 (pa_cons (pv 2) pa_nil))) (zm (i:=3) zbc.nd rfl (Or.inl rfl))
     (ze (zaV hu (pv 1) (pv 3) zba rfl)))))
   (zb (zn (i:=4) zbc.nd rfl (Or.inl rfl) (zj (zcx hu64) rfl B.sorted zaQ (pa_cons
    (zy ["web","found","piece","part","ranked"] ["piece"] [none] (zw (zx (zca rfl) rfl B.list zbS (pa_cons (pv 1) pa_nil))) (fun cl C s₀ H₀ ex=>zm (i:=0) (ndN ["piece"]) rfl (Or.inl rfl)) (fun cl C s₀ H₀ ex=>zL)
     (fun cl C s₀ H₀ ex=>zaX (pa_cons (zj zh rfl B.len z0 (pa_cons (pv 0) pa_nil)) (pa_cons (pv 0) pa_nil))) (hfr:=nofr (by decide +kernel)) (te:=tTup (zQ (tCB (fun xs H Q=>∃p ys,xs=[V.ref p]/\(SqL K H p ys \/ SqT K H p ys)/\Q (.int ys.length) H) (zQ (tVar 0) tNil)) (zQ (tVar 0) tNil)))) pa_nil)))
   (ze (zt (zy ["web","found","piece","part","ranked"] ["one"] [none] (zw (pv 4)) (fun cl C s₀ H₀ ex=>zm (i:=0) (ndN ["one"]) rfl (Or.inl rfl)) (fun cl C s₀ H₀ ex=>zL)
     (fun cl C s₀ H₀ ex=>zK zaw (pv 0) zf (fun _ _=>rfl)) (hfr:=nofr (by decide +kernel)) (te:=tOp (rIxT K) (tVar 0) (tC (.int 1)))))))),?_⟩
  intro d hd;have hla:=ht.length;refine⟨_,rfl,l,rfl,⟨_,(Same.new hd).seq hl⟩,zaa (K:=K) (a:=l) (xs:=as.map V.ref) (fun i σ H2=>∃v v' u,σ=[some (.ref l),some (.ref d),v,v',u]/\Same H H2/\H2 d=some (.dT (kvM ((pss.take i).flatMap parts))))
   ⟨none,none,none,rfl,Same.new hd,upd_same⟩ (fun i σ H2 _ ⟨_,_,_,_,sm,_⟩=>sm.seq hl) ?_ ?_⟩
  ·rintro i x σ H2 hx ⟨v,v',u,rfl,sm,hd2⟩
   obtain⟨a,ea,rfl⟩:=zP hx;obtain⟨ps,eps,hps⟩:=ht.get ea;have hps5:=h5 ps (Aq eps);have hi:i<pss.length:=(List.getElem?_eq_some_iff.mp eps).1;refine⟨_,rfl,a,ps,rfl,sm.tp hps,hps5,fun D cs H3 sm3 hD0 hD hcs=>⟨D,rfl,⟨_,SqL.of hD⟩,?_⟩⟩;have hlc:=hcs.length;have hdD:D≠d:=za2 hD (sm3 _ _ hd2) (by intro z; cases z);refine zaa (K:=K) (a:=D) (xs:=cs.map V.ref) (fun j σ H4=>∃v',σ=[some (.ref l),some (.ref d),some (.ref a),v',u]/\Same H H4/\H4 D=some (.lst (cs.map V.ref))/\Tps H4 cs (parts ps)/\H4 d=some (.dT (kvM ((pss.take i).flatMap parts++(parts ps).take j))))
    ⟨_,rfl,sm.trans sm3,hD,hcs,by rw[List.take_zero,List.append_nil]; exact sm3 _ _ hd2⟩ (fun j σ H4 _ ⟨_,_,_,q,_⟩=>SqL.of q) ?_ ?_
   ·rintro j x σ H4 hx ⟨v',rfl,sm4,hD4,hcs4,hd4⟩
    obtain⟨c,ec,rfl⟩:=zP hx;obtain⟨f,ef,hf⟩:=hcs4.get ec;have hlen:(kvM ((pss.take i).flatMap parts++(parts ps).take j)).length<sizeLine:=by
     refine zab (AF (zeL _) ?_);rw[At];have h1:=zfA (pss.take i) (fun q hq=>h5 q (List.mem_of_mem_take hq));have h2:=zaG ps;have h3:=pow5 hps5;rw[AS] at h1 ⊢;omega
    refine⟨_,rfl,_,rfl,d,_,rfl,DPut.t (k:=f.map Sum.inl) hd4 (by rw[Aw]; exact hf) hlen,⟨_,rfl,sm4.then hd,?_,?_,?_⟩⟩
    ·rw[zk hdD]; exact hD4
    ·exact Tps.upd hcs4 hd4 (by intro xs z; cases z)
    ·rw[upd_same,zeO,List.append_assoc,<- AQ ef]
   ·rintro σ H4 ⟨v',rfl,sm4,hD4,hcs4,hd4⟩
    refine⟨_,_,_,rfl,sm4,?_⟩;rw[Ab,hlc,take_all] at hd4;rw[zdX eps];exact hd4
  ·rintro σ H2 ⟨v,v',u,rfl,sm,hd2⟩
   rw[Ab,hla,take_all] at hd2;refine⟨_,rfl,d,_,rfl,hd2,fun bs hb l2 hl2=>?_⟩;have tb:=zfE hb;have hlb:=tb.length;have hdl:(dd (pss.flatMap parts)).length<=620:=by omega
   have s2:Same H2 (upd H2 l2 (.lst (bs.map V.ref))):=Same.new hl2;refine⟨l2,rfl,⟨_,SqL.of upd_same⟩,fun D hD=>zz (zgs (K:=K) upd_same (s2.tps tb) (by omega) hD fun cs H3 sm3 hD3 hcl hc=>?_)⟩;have tb3:=sm3.tps (s2.tps tb);refine⟨D,cs,(dd (pss.flatMap parts)).map fun f=>((f.length:Int)::f),rfl,SqL.of hD3,?_,(by rw[Ab]; exact h64),fun R qs hp hs hR=>?_⟩
   ·refine Paired.of_at (by rw[Ab]; omega) fun i c y e1 e2=>?_
    obtain⟨b,f,g1,g2,g3⟩:=hc i c e1;rw[Ap,g2] at e2;obtain rfl:=Ao e2;exact⟨_,b,f,rfl,g3,zbf tb3 i b f g1 g2⟩
   ·have s4:Same H3 (upd H3 R (.lst (qs.map fun q=>V.ref q.2))):=Same.new hR
    have hq:∀q∈qs,∃b f,q.1=((f:List Int).length:Int)::f/\H3 q.2=some (.tup [.int f.length,.ref b])/\Tp H3 b f:=fun q hq=>by
     obtain⟨m,em⟩:=List.mem_iff_getElem?.mp (hp.mem_iff.mp hq);rw[Srt.zipget,Ap] at em;cases e2:cs[m]? with
     | none=>rw[e2] at em; cases h:(dd (pss.flatMap parts))[m]? <;> rw[h] at em <;> cases em
     | some c=>
      obtain⟨b,f,g1,g2,g3⟩:=hc m c e2;rw[g2,e2] at em;obtain rfl:(((f.length:Int)::f),c)=q:=Ao em;exact⟨b,f,rfl,g3,zbf tb3 m b f g1 g2⟩
    have hql:qs.length<=620:=by rw[hp.length_eq,List.length_zip,Ab]; omega
    refine⟨_,rfl,R,rfl,⟨_,SqL.of upd_same⟩,fun D2 hD2=>zz (zhQ (K:=K) (cs:=qs.map (·.2)) (by rw[upd_same,Aw]; rfl) (fun c hcm=>?_) (by rw[Ab]; omega) hD2 fun H5 sm5 hD5=>?_)⟩
    ·obtain⟨q,hqm,rfl⟩:=List.mem_map.mp hcm
     obtain⟨b,f,_,g2,_⟩:=hq q hqm;exact⟨_,b,s4 _ _ g2⟩
    ·have sAll:Same H H5:=((sm.trans s2).trans sm3).trans (s4.trans sm5)
     have snd:∀q∈qs,∀b f,H3 q.2=some (.tup [.int (f:List Int).length,.ref b])->zd2 (upd H3 R (.lst (qs.map fun q=>V.ref q.2))) q.2=b:=fun q _ b f e=>by
      unfold zd2; rw[s4 _ _ e]
     refine k D2 H5 (qs.map fun q=>(q.1.tail,zd2 (upd H3 R (.lst (qs.map fun q=>V.ref q.2))) q.2)) ⟨sAll,(((sm.trans s2).trans sm3).trans s4).free hD2,?_,fun q hqm=>?_,?_,?_⟩
     ·rw[hD5,Aw,Aw]; rfl
     ·obtain⟨q0,h0,rfl⟩:=List.mem_map.mp hqm
      obtain⟨b,f,g1,g2,g3⟩:=hq q0 h0;show Tp H5 (zd2 _ q0.2) q0.1.tail;rw[snd q0 h0 b f g2,g1];exact sm5.tp (s4.tp g3)
     ·rw[Aw]
      have h1:=hp.map (fun q:List Int×Addr=>q.1.tail);have e:((((dd (pss.flatMap parts)).map fun f=>((f.length:Int)::f)).zip cs).map fun q:List Int×Addr=>q.1.tail)=dd (pss.flatMap parts):=by
       rw[show (fun q:List Int×Addr=>q.1.tail)=(fun l:List Int=>l.tail) ∘ Prod.fst from rfl,<- Aw,List.map_fst_zip (by rw[Ab]; omega),Aw];exact List.map_id' _
      rw[e] at h1;exact h1
     ·rw[Bf]
      refine hs.imp_of_mem fun {p q} h1 h2 h3=>?_;obtain⟨_,f,g1,_⟩:=hq p h1;obtain⟨_,f',g1',_⟩:=hq q h2;rw[g1,g1'] at h3;rw[g1,g1'];exact h3
end
end K52
end
section
namespace K52
open K1
open PySem L2 STb
abbrev zct:Stmt:=top 41
abbrev zb5:Stmt:=top 42
def texts:List Str:=(["","0","01 12 02","012 013 023 123","01 02 03","012 023 034 014","0123","01 23 45","012 34"]:List Str)++(["012 123 234 034 014","01 12 23 03 13","012 013 014","0 1 2 3"]:List Str)++(["01 12 02 34 45 35","023 234 1"]:List Str)
++(["014 015 023 025 034 123 124 135 245 345","012 013 024 034 125 135 245 345"]:List Str)++(["01234","0123 0124 0134 0234 1234"]:List Str)++(["013 123 234 024 014 145 125 025 056 016 126 267 027 037 345 356 367"]:List Str)
def wordsOf (n:Nat):List Str:=Txt.split (texts.getD n "") " "
def digits (x:Str):List Int:=x.cps.toList.map fun (c:Nat)=>((c:Int) - 48)
def known (n:Nat):List (List Int):=((wordsOf n).filter fun (x:Str)=>!decide (x="")).map digits
theorem zjl:∀n,n<20->(texts.getD n "").length+2<=1000/\(wordsOf n).length<=20/\∀x∈wordsOf n,x.cps.size<=5/\∀c∈x.cps.toList,48<=c/\c<=57:=by decide +kernel
theorem zkk:∀c,48<=c->c<=57->intText? ⟨#[c]⟩=some ((c:Int) - 48):=by
 intro c h1 h2;have:∀c,c<58->48<=c->intText? ⟨#[c]⟩=some ((c:Int) - 48):=by decide +kernel
 exact this c (by omega) h1
section
variable {P:Program}{w:World}{K:Ae}{mg:Str->Option Value}{base:Heap}
def zhe:Sp:=fun vs H Q _=>∃n:Nat,vs=[.int n]/\n<20/\∀D as H',Same H H'->H D=none->H' D=some (.lst (as.map V.ref))->Tps H' as (known n)->Q (.ref D) H'
theorem za4:zp ["number","some","web","word"] ["number"] (za zct):=⟨rfl,rfl,rfl,by decide +kernel,rfl,by decide +kernel,by decide +kernel⟩
theorem zf5 {H2:Hp}{x:Str}{D:Addr}{Q:VK} (hx:x.cps.size<=5) (hc:∀c∈x.cps.toList,48<=c/\c<=57) (hD:H2 D=none)
  (k:∀H3,Same H2 H3->H3 D=some (.lst ((digits x).map V.int))->Q (.ref D) H3) :
  zaf (Its x) (zai 0) tYes (tCB (fun xs H Q=>∃x n,xs=[.str x]/\intText? x=some n/\x.length<=640/\Q (.int n) H) (zQ (tVar 0) tNil)) [none] H2 D Q:=by
 refine ziH (fun j σ ys H3=>∃v,σ=[v]/\Same H2 H3/\H3 D=some (.lst ys)/\ys=((digits x).take j).map V.int) ?_ ?_ ?_
 ·exact⟨none,rfl,Same.new hD,upd_same,rfl⟩
 ·rintro j σ ys H3 c ec hj hy ⟨v,rfl,sm,hD3,rfl⟩
  have ecl:x.cps.toList[j]?=some c:=by simpa using ec
  obtain⟨c1,c2⟩:=hc c (Aq ecl);refine gyes ?_;refine⟨_,rfl,⟨#[c]⟩,_,rfl,zkk c c1 c2,by show 1<=640; decide,cput (zd (by omega)) hj hy hD3 ⟨_,rfl,sm.then hD,upd_same,?_⟩⟩;have e:(digits x)[j]?=some ((c:Int) - 48):=by unfold digits; rw[Ap,ecl]; rfl
  rw[AQ e,Ak]; rfl
 ·rintro σ ys H3 ⟨v,rfl,sm,hD3,rfl⟩
  rw[Ay (by unfold digits; simp)] at hD3;exact k H3 sm hD3
theorem zjs {f:Addr}{fd:FuncData} (F:Fun K "_law_known" "_law_known" zct f fd) (B:Bt mg):FnOk P w K mg base CX0 1 f fd ["number"] zhe:=by
 refine F.ok za4 (fun vs H Q E h=>?_) (fun cdv A outer s H vs Q E hr h=>?_)
 ·obtain⟨n,rfl,_⟩:=h; rfl
 ·obtain⟨n,rfl,hn,k⟩:=h
  refine⟨_,zb (zn (i:=1) za4.nd rfl (Or.inl rfl) (zO (pa_cons pe_str (pa_cons pe_str (pa_cons pe_str (pa_cons pe_str (pa_cons pe_str (pa_cons pe_str (pa_cons pe_str (pa_cons pe_str (pa_cons pe_str pa_nil)))))))))))
   (zb (zn (i:=1) za4.nd rfl (Or.inl rfl) (zG zbF (pv 1) (zO (pa_cons pe_str (pa_cons pe_str (pa_cons pe_str (pa_cons pe_str pa_nil)))))))
   (zb (zn (i:=1) za4.nd rfl (Or.inl rfl) (zG zbF (pv 1) (zO (pa_cons pe_str (pa_cons pe_str pa_nil)))))
   (zb (zn (i:=1) za4.nd rfl (Or.inl rfl) (zG zbF (pv 1) (zO (pa_cons pe_str (pa_cons pe_str pa_nil)))))
   (zb (zn (i:=1) za4.nd rfl (Or.inl rfl) (zG zbF (pv 1) (zO (pa_cons pe_str (pa_cons pe_str pa_nil)))))
   (zb (zaB (zdc PySem.F.plainAttrs_list PySem.F.slot_list_append PySem.F.type_list_append zax (pv 1) (pa_cons pe_str pa_nil)))
   (zb (zn (i:=2) za4.nd rfl (Or.inl rfl) (zO pa_nil))
   (zb (zaq A7 rfl (zw (zdc PySem.F.plainAttrs_str PySem.F.slot_str_split PySem.F.type_str_split zjm (zK zC (pv 1) (zG zcw (pv 0) zf) (fun _ _=>rfl)) (pa_cons pe_str pa_nil))) (zm (i:=3) za4.nd rfl (Or.inl rfl))
    (ze (zU (zo zjp (pv 3) pe_str (nomark _))
     (ze (zaB (zdc PySem.F.plainAttrs_list PySem.F.slot_list_append PySem.F.type_list_append zax (pv 2) (pa_cons (zx zS rfl B.tuple zby (pa_cons
      (zy ["number","some","web","word"] ["sign"] [none] (zlF (pv 3)) (fun cl C s₀ H₀ ex=>zm (i:=0) (ndN ["sign"]) rfl (Or.inl rfl)) (fun cl C s₀ H₀ ex=>zL)
       (fun cl C s₀ H₀ ex=>zx zdG rfl B.int zl2 (pa_cons (pv 0) pa_nil)) (hfr:=nofr (by decide +kernel))) pa_nil)) pa_nil)))) zv)))
   (ze (zt (pv 2)))))))))),?_⟩
  have t20:texts.length=20:=rfl;have hat:atI (texts.map V.str) ((n:Int) % 20)=some (.str (texts.getD n "")):=by
   rw[show (n:Int) % 20=(n:Int) by omega];refine zu ?_;have e:texts[n]?=some texts[n]:=Ag (by omega);rw[Ap,List.getD_eq_getElem?_getD,e]; rfl
  obtain⟨g1,g2,g3⟩:=zjl n hn;refine⟨zd (by simp),fun l1 h1=>?_⟩;have s1:=Same.new (H:=H) (o:=.lst [.str "",.str "0",.str "01 12 02",.str "012 013 023 123",.str "01 02 03",.str "012 023 034 014",.str "0123",.str "01 23 45",.str "012 34"]) h1;refine⟨_,rfl,zd (by simp),fun m1 hm1=>⟨l1,m1,_,_,rfl,rfl,Same.new hm1 _ _ upd_same,upd_same,zd (by simp),fun l2 h2=>?_⟩⟩;have s2:=(s1.trans (Same.new hm1)).trans (Same.new (o:=.lst ((texts.take 13).map V.str)) h2);refine⟨_,rfl,zd (by simp),fun m2 hm2=>⟨l2,m2,_,_,rfl,rfl,Same.new hm2 _ _ upd_same,upd_same,zd (by simp),fun l3 h3=>?_⟩⟩;have s3:=(s2.trans (Same.new hm2)).trans (Same.new (o:=.lst ((texts.take 15).map V.str)) h3);refine⟨_,rfl,zd (by simp),fun m3 hm3=>⟨l3,m3,_,_,rfl,rfl,Same.new hm3 _ _ upd_same,upd_same,zd (by simp),fun l4 h4=>?_⟩⟩;have s4:=(s3.trans (Same.new hm3)).trans (Same.new (o:=.lst ((texts.take 17).map V.str)) h4);refine⟨_,rfl,zd (by simp),fun m4 hm4=>⟨l4,m4,_,_,rfl,rfl,Same.new hm4 _ _ upd_same,upd_same,zd (by simp),fun l5 h5=>?_⟩⟩;have s5:=(s4.trans (Same.new hm4)).trans (Same.new (o:=.lst ((texts.take 19).map V.str)) h5);have h50:H l5=none:=(s4.trans (Same.new hm4)).free h5;refine⟨_,rfl,.inl ⟨rfl,_,SqL.of upd_same⟩,l5,_,_,rfl,rfl,upd_same,zab (by simp),zd (by simp),fun wl hwl=>?_⟩;generalize hH6:upd (upd _ l5 _) l5 _=H6 at hwl;have e6:H6 l5=some (.lst (texts.map V.str)):=by rw[<- hH6,upd_same]; rfl
  have s6:Same H H6:=by
   rw[<- hH6];exact s5.then h50
  have hw0:H wl=none:=s6.free hwl;have s7:Same H (upd H6 wl (.lst [])):=s6.then hw0;have e7:upd H6 wl (.lst []) l5=some (.lst (texts.map V.str)):=Same.new hwl _ _ e6;refine⟨_,rfl,_,rfl,_,_,rfl,rfl,(by show (0:Int)<20; decide),l5,_,_,_,rfl,rfl,SqL.of e7,hat,rfl,_,_,rfl,rfl,by decide,zd (by omega),zd (show (wordsOf n).length<=100000 by omega),fun D hD=>⟨D,rfl,⟨_,SqL.of upd_same⟩,?_⟩⟩;have hwD:wl≠D:=zg (H:=upd H6 wl (.lst [])) upd_same hD;have hD0:H D=none:=s7.free hD;refine zaa (K:=K) (a:=D) (xs:=(wordsOf n).map V.str) (fun i σ H2=>∃as v,σ=[some (.int n),some (.ref l5),some (.ref wl),v]/\Same H H2/\H2 D=some (.lst ((wordsOf n).map V.str))/\H2 wl=some (.lst (as.map V.ref))/\Tps H2 as ((((wordsOf n).take i).filter fun (x:Str)=>!decide (x="")).map digits))
   ⟨[],none,rfl,s7.then hD0,upd_same,by rw[zk hwD]; exact upd_same,.nil⟩ (fun i σ H2 _ ⟨_,_,_,_,q,_⟩=>SqL.of q) ?_ ?_
  ·rintro i x σ H2 hx ⟨as,v,rfl,sm,hD2,hw2,ht⟩
   rw[Ap] at hx;cases ex:(wordsOf n)[i]? with
   | none=>rw[ex] at hx; cases hx
   | some y=>
    rw[ex] at hx;obtain rfl:=Ao hx;have hi:i<(wordsOf n).length:=(List.getElem?_eq_some_iff.mp ex).1;obtain⟨y5,yc⟩:=g3 y (Aq ex);refine⟨_,rfl,rfl,_,rfl,?_⟩
    by_cases hy:y=""
    ·subst hy
     refine iteF ⟨as,_,rfl,sm,hD2,hw2,?_⟩;rw[AQ ex,A9,Ak]
     simpa using ht
    ·rw[show (!decide (V.str y=V.str ""))=true from by simp[hy]]
     refine iteT ⟨_,rfl,.inl ⟨rfl,_,SqL.of hw2⟩,_,rfl,y,rfl,fun D2 hDn=>zz (zf5 y5 yc hDn fun H3 sm3 hD3=>⟨D2,_,rfl,.inl ⟨SqL.of hD3,fun t htn=>?_⟩⟩)⟩;have s8:Same H2 (upd H3 t (.tup ((digits y).map V.int))):=sm3.trans (Same.new htn);have hla:=ht.length;have hl20:as.length<=20:=by
      rw[hla,Ab];exact AF (List.length_filter_le _ _) (by rw[AS]; omega)
     refine⟨wl,_,_,rfl,rfl,s8 _ _ hw2,zab (by rw[Ab]; omega),⟨as++[t],_,rfl,(sm.trans s8).then hw0,?_,by rw[upd_same,Ak]; rfl,?_⟩⟩
     ·rw[zk hwD.symm]; exact s8 _ _ hD2
     ·rw[AQ ex,A9,Ak,show [y].filter (fun (x:Str)=>!decide (x=""))=[y] by simp[hy]]
      exact Tps.upd (Tps.snoc (s8.tps ht) upd_same) (s8 _ _ hw2) (by intro xs z; cases z)
  ·rintro σ H2 ⟨as,v,rfl,sm,hD2,hw2,ht⟩
   rw[Ab,take_all] at ht;exact⟨_,rfl,k wl as H2 sm hw0 hw2 ht⟩
def ren (first gap:Int) (ps:List Int):List Int:=ps.map fun x=>first+gap*x
def zg0:Sp:=fun vs H Q _=>∃p l as pss,vs=[.ref p,.ref l]/\zT H p/\H l=some (.lst (as.map V.ref))/\Tps H as pss/\pss.length<=20/\(∀ps∈pss,ps.length<=10)/\
 ∀D bs qss first gap H',zac p H H'->zT H' p->H D=none->H' D=some (.lst (bs.map V.ref))->Tps H' bs qss->0<=first->first<12->1<=gap->gap<=3->qss.Perm (pss.map (ren first gap))->Q (.ref D) H'
theorem zcE:zp ["box","web","gap","first","found","piece"] ["box","web"] (za zb5):=⟨rfl,rfl,rfl,by decide +kernel,rfl,by decide +kernel,by decide +kernel⟩
theorem zim {H2:Hp}{a D:Addr}{ps:List Int}{first gap:Int}{Q:VK} (ha:Tp H2 a ps) (hz:ps.length<=10) (hg:1<=gap/\gap<=3) (hD:H2 D=none)
  (k:∀H3,Same H2 H3->H3 D=some (.lst ((ren first gap ps).map V.int))->Q (.ref D) H3) :
  zaf (Itt K a) (zai 0) tYes (tOp (rI0 fun i j=>.int (i+j)) (tVar 1) (tOp (rI CMul fun i j=>.int (i*j)) (tVar 2) (tVar 0))) [none,some (.int first),some (.int gap)] H2 D Q:=by
 refine zcl (xs:=ps.map V.int) (fun j σ ys H3=>∃v,σ=[v,some (.int first),some (.int gap)]/\Same H2 H3/\H3 D=some (.lst ys)/\ys=((ren first gap ps).take j).map V.int) ?_ ?_ ?_ ?_
 ·exact⟨none,rfl,Same.new hD,upd_same,rfl⟩
 ·rintro j σ ys H3 ⟨v,rfl,sm,hD3,rfl⟩
  exact SqT.of (sm.tp ha)
 ·rintro j σ ys H3 x hx hj hy ⟨v,rfl,sm,hD3,rfl⟩
  obtain⟨q,eq,rfl⟩:=zbo hx;refine gyes ?_;refine⟨_,rfl,_,rfl,_,rfl,_,_,rfl,rfl,.inl ⟨by omega,by omega⟩,_,_,rfl,rfl,cput (by rw[Ab]; exact zd (by omega)) hj hy hD3 ⟨_,rfl,sm.then hD,upd_same,?_⟩⟩;have e:(ren first gap ps)[j]?=some (first+gap*q):=by unfold ren; rw[Ap,eq]; rfl
  rw[AQ e,Ak]; rfl
 ·rintro σ ys H3 ⟨v,rfl,sm,hD3,rfl⟩
  rw[Ay (by unfold ren; simp)] at hD3;exact k H3 sm hD3
theorem ziq {f ft:Addr}{fd fdt:FuncData} (F:Fun K "_law_named" "_law_named" zb5 f fd) (B:Bt mg) (Ft:Fun K "_law_take" "_law_take" zcR ft fdt) (bt:Binds K fdt ["box","most"] []) (mt:mg "_law_take"=some (.ref ft)) :
  FnOk P w K mg base CX0 2 f fd ["box","web"] zg0:=by
 have Gt:FnOk P w K mg base CX0 1 ft fdt ["box","most"] zdN:=zdr Ft;refine F.ok zcE (fun vs H Q E h=>?_) (fun cdv A outer s H vs Q E hr h=>?_)
 ·obtain⟨p,l,as,pss,rfl,_⟩:=h; rfl
 ·obtain⟨p,l,as,pss,rfl,hb,hl,ht,h20,h10,k⟩:=h
  refine⟨_,zb (zn (i:=2) zcE.nd rfl (Or.inr rfl) (zG zbd zf (zi Gt hr rfl mt Ft.kp bt .nil pass0 (pa_cons (pv 0) (pa_cons zf pa_nil)))))
   (zb (zn (i:=3) zcE.nd rfl (Or.inr rfl) (zi Gt hr rfl mt Ft.kp bt .nil pass0 (pa_cons (pv 0) (pa_cons zf pa_nil))))
   (zb (zn (i:=4) zcE.nd rfl (Or.inl rfl) (zO pa_nil))
   (zb (zaq A7 rfl (zw (pv 1)) (zm (i:=5) zcE.nd rfl (Or.inl rfl))
    (ze (zaB (zdc PySem.F.plainAttrs_list PySem.F.slot_list_insert PySem.F.type_list_insert zgG (pv 4)
     (pa_cons (zi Gt hr rfl mt Ft.kp bt .nil pass0 (pa_cons (pv 0) (pa_cons (zG zbd (zj zh rfl B.len z0 (pa_cons (pv 4) pa_nil)) zf) pa_nil)))
     (pa_cons (zx zS rfl B.tuple zby (pa_cons
      (zy ["box","web","gap","first","found","piece"] ["point","first","gap"] [none,some 3,some 2] (zcM (pv 5)) (fun cl C s₀ H₀ ex=>zm (i:=0) (ndN ["point","first","gap"]) rfl (Or.inl rfl)) (fun cl C s₀ H₀ ex=>zL)
       (fun cl C s₀ H₀ ex=>zG zbd (pv 1) (zG zc1 (pv 2) (pv 0))) (hfr:=frOf (za zb5) (by decide +kernel))) pa_nil)) pa_nil))))))
   (ze (zt (pv 4)))))),?_⟩
  refine⟨_,rfl,p,3,rfl,hb,by decide,by decide,fun r1 H1 a1 a2 sb1 hb1=>⟨_,_,rfl,rfl,?_⟩⟩;refine⟨_,rfl,p,12,rfl,hb1,by decide,by decide,fun r2 H2 c1 c2 sb2 hb2=>⟨zd (by simp),fun D hD=>?_⟩⟩;have sb12:=sb1.trans sb2;have hD0:H D=none:=sb12.free hb hb2 hD;have hlp:l≠p:=hb.ne hl;have hla:=ht.length;refine⟨_,rfl,l,rfl,⟨_,SqL.of ((sb12.then hD0) _ _ hlp hl)⟩,zaa (K:=K) (a:=l) (xs:=as.map V.ref) (fun i σ H3=>∃bs qss v,σ=[some (.ref p),some (.ref l),some (.int (1+r1)),some (.int r2),some (.ref D),v]/\zac p H H3/\zT H3 p/\H3 D=some (.lst (bs.map V.ref))/\Tps H3 bs qss/\qss.Perm ((pss.take i).map (ren r2 (1+r1))))
   ⟨[],[],none,rfl,sb12.then hD0,hb2.new hD,upd_same,.nil,List.Perm.nil⟩ (fun i σ H3 _ ⟨_,_,_,_,sb,_⟩=>SqL.of (sb _ _ hlp hl)) ?_ ?_⟩
  ·rintro i x σ H3 hx ⟨bs,qss,v,rfl,sb3,hb3,hD3,hq,hp⟩
   obtain⟨a,ea,rfl⟩:=zP hx;obtain⟨ps,eps,hps⟩:=ht.get ea;have hi:i<pss.length:=(List.getElem?_eq_some_iff.mp eps).1;have hlb:=hq.length;have hql:qss.length=i:=by rw[hp.length_eq,Ab,AS]; omega
   have hDp:D≠p:=hb3.ne hD3;refine⟨_,rfl,.inl ⟨rfl,_,SqL.of hD3⟩,_,rfl,_,rfl,D,_,rfl,.inl (SqL.of hD3),_,_,rfl,rfl,p,_,rfl,hb3,by rw[Ab]; omega,by rw[Ab]; omega,fun r H4 r0 r1' sb4 hb4=>?_⟩;rw[Ab] at r1';have hps4:Tp H4 a ps:=(sb3.trans sb4).tp hb hps;refine⟨_,rfl,a,rfl,⟨_,SqT.of hps4⟩,fun D2 hD2=>zz (zim hps4 (h10 ps (Aq eps)) ⟨by omega,by omega⟩ hD2 fun H5 sm5 hD5=>⟨D2,_,rfl,.inl ⟨SqL.of hD5,fun t htn=>?_⟩⟩)⟩;have s6:Same H4 (upd H5 t (.tup ((ren r2 (1+r1) ps).map V.int))):=sm5.trans (Same.new htn);have hD4:=sb4 _ _ hDp hD3;have hD6:=s6 _ _ hD4;have hb6:=hb4.same s6;refine⟨D,_,r,_,rfl,rfl,hD6,r0,by rw[Ab]; omega,zab (by rw[Ab]; omega),⟨bs.take r.toNat++t::bs.drop r.toNat,qss.take r.toNat++ren r2 (1+r1) ps::qss.drop r.toNat,_,rfl,((sb3.trans sb4).trans (zac.of s6)).then hD0,hb6.upd hDp,?_,?_,?_⟩⟩
   ·rw[upd_same,Ak,AK,List.map_take,List.map_drop]
   ·have tq:=s6.tps (sb4.tps hb3 hq)
    exact Tps.upd (Tps.append (tq.take _) (.cons upd_same (tq.drop _))) hD6 (by intro xs z; cases z)
   ·rw[AQ eps,Ak]
    have h1:(qss.take r.toNat++ren r2 (1+r1) ps::qss.drop r.toNat).Perm (ren r2 (1+r1) ps::qss):=by
     have:=List.perm_middle (a:=ren r2 (1+r1) ps) (l₁:=qss.take r.toNat) (l₂:=qss.drop r.toNat)
     rwa [List.take_append_drop] at this
    exact h1.trans ((List.perm_append_singleton _ _).symm.trans (List.Perm.append_right _ hp))
  ·rintro σ H3 ⟨bs,qss,v,rfl,sb3,hb3,hD3,hq,hp⟩
   rw[Ab,hla,take_all] at hp;exact⟨_,rfl,k D bs qss r2 (1+r1) H3 sb3 hb3 hD0 hD3 hq c1 c2 (by omega) (by omega) hp⟩
end
end K52
end
section
namespace K52
open K1
open PySem L2 STb
abbrev sWeb:Stmt:=top 43
def kvI (seq:List Int):List (Key×V):=(dd seq).map fun n=>((Sum.inl n:Key),V.bl true)
theorem zkV (seq:List Int):(kvI seq).length<=seq.length:=by unfold kvI; rw[Ab]; exact zb6 seq
theorem zle (seq:List Int) (n:Int):putK (kvI seq) (Sum.inl n) (.bl true)=kvI (seq++[n]):=by
 unfold putK kvI;rw[zbX];have ha:(((dd seq).map fun n=>((Sum.inl n:Key),V.bl true)).any fun kv=>decide (kv.1=Sum.inl n))=decide (n∈dd seq):=by
  rw[List.any_map]
  by_cases h:n∈dd seq
  ·rw[decide_eq_true h,List.any_eq_true]
   exact⟨n,h,by simp⟩
  ·rw[decide_eq_false h,List.any_eq_false]
   intro q hq;simp only[Function.comp,decide_eq_true_eq,Sum.inl.injEq];rintro rfl;exact h hq
 rw[ha]
 by_cases h:n∈dd seq
 ·rw[decide_eq_true h,if_pos rfl,if_pos h,Aw]
  refine List.map_congr_left fun q hq=>?_;simp only[Function.comp];split <;> rfl
 ·rw[decide_eq_false h,if_neg (by simp),if_neg h,Ak]
  rfl
theorem zi7 (seq:List Int):((kvI seq).map fun kv=>kV kv.1)=(dd seq).map V.int:=by unfold kvI; rw[Aw]; rfl
theorem zjt {ms:List Int} (h1:ms.Pairwise (·<=·)) (h2:ms.Nodup):rises ms=true:=by
 rw[zdA];intro i a b ha hb;obtain⟨la,ea⟩:=List.getElem?_eq_some_iff.mp ha;obtain⟨lb,eb⟩:=List.getElem?_eq_some_iff.mp hb;have g1:=List.pairwise_iff_getElem.mp h1 i (i+1) la lb (by omega);have g2:=List.pairwise_iff_getElem.mp h2 i (i+1) la lb (by omega);rw[ea,eb] at g1 g2;omega
def Small (pss:List (List Int)):Prop:=pss.Nodup/\∀ps∈pss,ps≠[]/\ps.length<=4/\rises ps=true/\∀x∈ps,0<=x/\x<=5
def Base (b:List (List Int)):Prop:=(∃n,n<20/\b=known n) \/ (b.length<=5/\Small b)
def Drawn (qss:List (List Int)):Prop:=∃b first gap,Base b/\0<=first/\first<12/\1<=gap/\gap<=3/\qss.Perm (b.map (ren first gap))
theorem zfa:∀n,n<20->(known n).length<=20/\∀ps∈known n,ps≠[]/\ps.length<=5:=by decide +kernel
section
variable {P:Program}{w:World}{K:Ae}{mg:Str->Option Value}{base:Heap}
def zmn:Sp:=fun vs H Q _=>∃p,vs=[.ref p]/\zT H p/\∀D bs qss H',zac p H H'->zT H' p->H D=none->H' D=some (.lst (bs.map V.ref))->Tps H' bs qss->Drawn qss->Q (.ref D) H'
theorem zgj:zp ["box","found","k","some","j","piece"] ["box"] (za sWeb):=⟨rfl,rfl,rfl,by decide +kernel,rfl,by decide +kernel,by decide +kernel⟩
theorem zmq {f ft fn fk:Addr}{fd fdt fdn fdk:FuncData} (F:Fun K "_law_web" "_law_web" sWeb f fd) (B:Bt mg) (Ft:Fun K "_law_take" "_law_take" zcR ft fdt) (bt:Binds K fdt ["box","most"] []) (mt:mg "_law_take"=some (.ref ft))
  (Fn:Fun K "_law_named" "_law_named" zb5 fn fdn) (bn:Binds K fdn ["box","web"] []) (mn:mg "_law_named"=some (.ref fn)) (Fk:Fun K "_law_known" "_law_known" zct fk fdk) (bk:Binds K fdk ["number"] []) (mk:mg "_law_known"=some (.ref fk)) :
  FnOk P w K mg base CX0 3 f fd ["box"] zmn:=by
 have Gt:FnOk P w K mg base CX0 1 ft fdt ["box","most"] zdN:=zdr Ft;have Gn:FnOk P w K mg base CX0 2 fn fdn ["box","web"] zg0:=ziq Fn B Ft bt mt;have Gk:FnOk P w K mg base CX0 1 fk fdk ["number"] zhe:=zjs Fk B;refine F.ok zgj (fun vs H Q E h=>?_) (fun cdv A outer s H vs Q E hr h=>?_)
 ·obtain⟨p,rfl,_⟩:=h; rfl
 ·obtain⟨p,rfl,hb,k⟩:=h
  have hu:=zcV hr;have hu64:=hr.units;have hr1:Room 1 _:=hr.mono (by decide);refine⟨_,zb (zU (zo zaC (zi Gt hr1 rfl mt Ft.kp bt .nil pass0 (pa_cons (pv 0) (pa_cons zf pa_nil))) zf (nomark _))
    (ze (zt (zi Gn hr rfl mn Fn.kp bn .nil pass0 (pa_cons (pv 0) (pa_cons (zi Gk hr1 rfl mk Fk.kp bk .nil pass0 (pa_cons (zi Gt hr1 rfl mt Ft.kp bt .nil pass0 (pa_cons (pv 0) (pa_cons zf pa_nil))) pa_nil)) pa_nil))))) zv)
   (zb (zn (i:=1) zgj.nd rfl (Or.inl rfl) (zO pa_nil))
   (zb (zaq A7 rfl (zcD rfl B.range (pa_cons (zi Gt hr1 rfl mt Ft.kp bt .nil pass0 (pa_cons (pv 0) (pa_cons zf pa_nil))) pa_nil)) (zm (i:=2) zgj.nd rfl (Or.inl rfl))
    (zb (zn (i:=3) zgj.nd rfl (Or.inl rfl) zfJ)
    (zb (zaq A7 rfl (zcD rfl B.range (pa_cons (zG zbd zf (zi Gt hr1 rfl mt Ft.kp bt .nil pass0 (pa_cons (pv 0) (pa_cons zf pa_nil)))) pa_nil)) (zm (i:=4) zgj.nd rfl (Or.inl rfl))
     (ze (zaV hu (pv 3) (zi Gt hr1 rfl mt Ft.kp bt .nil pass0 (pa_cons (pv 0) (pa_cons zf pa_nil))) zba rfl)))
    (zb (zn (i:=5) zgj.nd rfl (Or.inl rfl) (zx zS rfl B.tuple zby (pa_cons (zj zaW rfl B.sorted zaQ (pa_cons (zx (zbg rfl) rfl B.list zbS (pa_cons (pv 3) pa_nil)) pa_nil)) pa_nil)))
    (ze (zU (zo (zht (in1_units hu64)) (pv 5) (pv 1) (by with_unfolding_all rfl)) (ze (zaB (zdc PySem.F.plainAttrs_list PySem.F.slot_list_append PySem.F.type_list_append zax (pv 1) (pa_cons (pv 5) pa_nil)))) zv))))))
   (ze (zt (zi Gn hr rfl mn Fn.kp bn .nil pass0 (pa_cons (pv 0) (pa_cons (pv 1) pa_nil))))))),?_⟩
  refine⟨_,rfl,p,2,rfl,hb,by decide,by decide,fun r H1 r0 r1 sb1 hb1=>⟨rfl,_,rfl,?_⟩⟩;refine ite2 (fun h1=>?_) (fun h1=>?_)
  ·refine⟨_,rfl,_,rfl,p,20,rfl,hb1,by decide,by decide,fun n H2 n0 n1 sb2 hb2=>?_⟩
   obtain⟨m,rfl⟩:=Int.eq_ofNat_of_zero_le n0;refine⟨m,rfl,by omega,fun D as H3 sm3 hD0 hD ht=>?_⟩;obtain⟨g1,g2⟩:=zfa m (by omega);have sb3:=(sb1.trans sb2).trans (zac.of sm3);have hb3:=hb2.same sm3;refine⟨p,D,as,known m,rfl,hb3,hD,ht,g1,fun ps hp=>by have:=(g2 ps hp).2; omega,fun D' bs qss first gap H4 sb4 hb4 hD' hD4 ht4 c1 c2 c3 c4 hperm=>?_⟩;exact k D' bs qss H4 (sb3.trans sb4) hb4 (sb3.free hb hb3 hD') hD4 ht4 ⟨known m,first,gap,.inl ⟨m,by omega,rfl⟩,c1,c2,c3,c4,hperm⟩
  ·refine⟨zd (by simp),fun L hL=>?_⟩
   have hL0:H L=none:=sb1.free hb hb1 hL;refine⟨_,rfl,p,6,rfl,hb1.new hL,by decide,by decide,fun r6 H3 a1 a2 sb3 hb3=>⟨r6,rfl,by omega,by omega,?_⟩⟩;have hLp:L≠p:=zT.ne (as:=[]) (hb1.new hL) upd_same;have sb03:zac p H H3:=(sb1.then hL0).trans sb3;refine zdT (lo:=0) (n:=r6.toNat) (fun i σ H4=>∃as pss v2 v3 v4 v5,σ=[some (.ref p),some (.ref L),v2,v3,v4,v5]/\zac p H H4/\zT H4 p/\H4 L=some (.lst (as.map V.ref))/\Tps H4 as pss/\Small pss/\pss.length<=i)
    ⟨[],[],none,none,none,none,rfl,sb03,hb3,sb3 _ _ hLp upd_same,.nil,⟨List.nodup_nil,fun ps h=>nomatch h⟩,Af _⟩ ?_ ?_
   ·rintro i σ H4 hi ⟨as,pss,v2,v3,v4,v5,rfl,sb4,hb4,hL4,ht4,hsm,hlen⟩
    have hla:=ht4.length;intro d hd;have hd0:H d=none:=sb4.free hb hb4 hd;have hLd:L≠d:=zg hL4 hd;refine⟨_,rfl,p,4,rfl,hb4.new hd,by decide,by decide,fun r4 H5 e1 e2 sb5 hb5=>⟨_,_,rfl,rfl,_,rfl,by omega,by omega,?_⟩⟩;have hdp:d≠p:=by
     obtain⟨x,y,e,_⟩:=hb4.new (o:=.dK []) hd;exact za2 upd_same e (by intro z; cases z)
    have s4:=Same.new (o:=.dK []) hd;refine zdT (lo:=0) (n:=(1+r4).toNat) (fun j σ H6=>∃seq v4,σ=[some (.ref p),some (.ref L),some (.int (0+i)),some (.ref d),v4,v5]/\zac p H H6/\zT H6 p/\H6 L=some (.lst (as.map V.ref))/\Tps H6 as pss/\H6 d=some (.dK (kvI seq))/\seq.length=j/\∀x∈seq,0<=x/\x<=5)
     ⟨[],_,rfl,(sb4.then hd0).trans sb5,hb5,sb5 _ _ hLp (s4 _ _ hL4),sb5.tps (hb4.new hd) (s4.tps ht4),sb5 _ _ hdp upd_same,rfl,fun x h=>nomatch h⟩ ?_ ?_
    ·rintro j σ H6 hj ⟨seq,v4,rfl,sb6,hb6,hL6,ht6,hd6,hs6,hx6⟩
     refine⟨_,rfl,_,rfl,p,6,rfl,hb6,by decide,by decide,fun r H7 f1 f2 sb7 hb7=>⟨d,_,rfl,DPut.k (k:=Sum.inl r) (sb7 _ _ hdp hd6) (zab (by have:=zkV seq; omega)),⟨seq++[r],_,rfl,(sb6.trans sb7).then hd0,hb7.upd hdp,?_,?_,by rw[upd_same,zle],by rw[At,hs6]; rfl,?_⟩⟩⟩
     ·rw[zk hLd]; exact sb7 _ _ hLp hL6
     ·exact Tps.upd (sb7.tps hb6 ht6) (sb7 _ _ hdp hd6) (by intro xs z; cases z)
     ·intro x hx
      rcases List.mem_append.mp hx with hx | hx
      ·exact hx6 x hx
      ·rw[List.mem_singleton] at hx; subst hx; omega
    ·rintro σ H6 ⟨seq,v4,rfl,sb6,hb6,hL6,ht6,hd6,hs6,hx6⟩
     refine⟨_,rfl,d,_,rfl,hd6,fun l2 hl2=>⟨l2,dd seq,rfl,SqL.of (by rw[upd_same,zi7]),(by have:=zb6 seq; omega),fun D2 ms hp hs hD2=>⟨D2,_,rfl,.inl ⟨SqL.of upd_same,fun t htn=>?_⟩⟩⟩⟩;have s6:Same H6 (upd (upd (upd H6 l2 (.lst ((kvI seq).map fun kv=>kV kv.1))) D2 (.lst (ms.map V.int))) t (.tup (ms.map V.int))):=((Same.new hl2).trans (Same.new hD2)).trans (Same.new htn);generalize hH7:upd (upd (upd H6 l2 (.lst ((kvI seq).map fun kv=>kV kv.1))) D2 (.lst (ms.map V.int))) t (.tup (ms.map V.int))=H7 at s6;have htt:Tp H7 t ms:=by rw[<- hH7]; exact upd_same
     have sb7:=sb6.trans (zac.of s6);have hb7:=hb6.same s6;refine⟨_,rfl,_,rfl,t,L,ms,as,pss,rfl,rfl,htt,SqL.of (s6 _ _ hL6),s6.tps ht6,_,rfl,?_⟩;have hms:ms≠[]/\ms.length<=4/\rises ms=true/\∀x∈ms,0<=x/\x<=5:=by
      refine⟨fun z=>?_,?_,zjt hs (hp.nodup_iff.mpr (zas seq)),fun x hx=>hx6 x ((zay seq x).mp (hp.mem_iff.mp hx))⟩
      ·have h0:dd seq=[]:=by rw[z] at hp; exact (List.nil_perm.mp hp)
       cases hq:seq with
       | nil=>rw[hq] at hs6; simp at hs6; omega
       | cons x r=>
        have:=(zay seq x).mpr (by rw[hq]; exact AB);rw[h0] at this;cases this
      ·have:=zb6 seq
       rw[hp.length_eq];omega
     by_cases hin:ms∈pss
     ·rw[decide_eq_true hin]
      exact iteF ⟨as,pss,_,_,_,_,rfl,sb7,hb7,s6 _ _ hL6,s6.tps ht6,hsm,by omega⟩
     ·rw[decide_eq_false hin]
      refine iteT ⟨_,rfl,.inl ⟨rfl,_,SqL.of (s6 _ _ hL6)⟩,_,rfl,L,_,_,rfl,rfl,s6 _ _ hL6,zab (by rw[Ab]; omega),⟨as++[t],pss++[ms],_,_,_,_,rfl,sb7.then hL0,hb7.upd hLp,by rw[upd_same,Ak]; rfl,Tps.upd (Tps.snoc (s6.tps ht6) htt) (s6 _ _ hL6) (by intro xs z; cases z),⟨?_,?_⟩,by rw[At]; simp; omega⟩⟩
      ·rw[List.nodup_append]
       refine⟨hsm.1,by simp,fun a ha b hb' e=>?_⟩;rw[List.mem_singleton] at hb';subst hb'; subst e; exact hin ha
      ·intro ps hps
       rcases List.mem_append.mp hps with h | h
       ·exact hsm.2 ps h
       ·rw[List.mem_singleton] at h; subst h; exact hms
   ·rintro σ H4 ⟨as,pss,v2,v3,v4,v5,rfl,sb4,hb4,hL4,ht4,hsm,hlen⟩
    refine⟨_,rfl,_,rfl,p,L,as,pss,rfl,hb4,hL4,ht4,by omega,fun ps hp=>by have:=(hsm.2 ps hp).2.1; omega,fun D' bs qss first gap H5 sb5 hb5 hD' hD5 ht5 c1 c2 c3 c4 hperm=>?_⟩;exact k D' bs qss H5 (sb4.trans sb5) hb5 (sb4.free hb hb4 hD') hD5 ht5 ⟨pss,first,gap,.inr ⟨by omega,hsm⟩,c1,c2,c3,c4,hperm⟩
end
end K52
end
section
namespace K1
open PySem L2 STb
theorem zf0:∀a b:List Int,HT.lexLt a b=true->HT.lexLt b a=false
 | [],[],h=>rfl
 | [],_::_,h=>rfl
 | _::_,[],h=>by rw[HT.zbu] at h; exact absurd h Au
 | x::xs,y::ys,h=>by
  rw[HT.zE] at h ⊢
  by_cases e:x=y
  ·rw[if_pos e] at h; rw[if_pos e.symm]; exact zf0 xs ys h
  ·rw[if_neg e] at h; rw[if_neg (fun z=>e z.symm)]
   have:=of_decide_eq_true h;exact decide_eq_false (by omega)
theorem zf1:∀a b:List Int,HT.lexLt a b=false->HT.lexLt b a=false->a=b
 | [],[],_,_=>rfl
 | [],_::_,h,_=>by rw[HT.zX] at h; exact absurd h (by decide)
 | _::_,[],_,h=>by rw[HT.zX] at h; exact absurd h (by decide)
 | x::xs,y::ys,h,h'=>by
  rw[HT.zE] at h h'
  by_cases e:x=y
  ·rw[if_pos e] at h; rw[if_pos e.symm] at h'
   rw[e,zf1 xs ys h h']
  ·rw[if_neg e] at h; rw[if_neg (fun z=>e z.symm)] at h'
   have:=of_decide_eq_false h;have:=of_decide_eq_false h';omega
theorem zaF:∀a b c:List Int,HT.lexLt b a=false->HT.lexLt c b=false->HT.lexLt c a=false
 | [],b,c,_,_=>by cases c with
  | nil=>rfl
  | cons _ _=>rfl
 | _::_,[],c,h,_=>by rw[HT.zX] at h; exact absurd h (by decide)
 | _::_,_::_,[],_,h=>by rw[HT.zX] at h; exact absurd h (by decide)
 | x::xs,y::ys,z::zs,h,h'=>by
  rw[HT.zE] at h h' ⊢
  by_cases e:y=x
  ·rw[if_pos e] at h
   by_cases e2:z=y
   ·rw[if_pos e2] at h'; rw[if_pos (e2.trans e)]; exact zaF xs ys zs h h'
   ·rw[if_neg e2] at h'; rw[if_neg (by omega)]
    have:=of_decide_eq_false h';exact decide_eq_false (by omega)
  ·rw[if_neg e] at h
   have h1:=of_decide_eq_false h
   by_cases e2:z=y
   ·rw[if_neg (by omega)]
    exact decide_eq_false (by omega)
   ·rw[if_neg e2] at h'
    have h2:=of_decide_eq_false h';rw[if_neg (by omega)];exact decide_eq_false (by omega)
def key (p:List Int):List Int:=(p.length:Int)::p
def kle (a b:List Int):Bool:=!HT.lexLt (key b) (key a)
theorem zb1 {a b:List Int}:kle a b=true ↔ HT.lexLt (key b) (key a)=false:=by unfold kle; simp
def canon (pss:List (List Int)):List (List Int):=(dd (pss.flatMap parts)).mergeSort kle
theorem zam (pss:List (List Int)):(canon pss).Perm (dd (pss.flatMap parts)):=List.mergeSort_perm _ _
theorem zao (pss:List (List Int)):(canon pss).Pairwise (fun a b=>kle a b=true):=by
 refine List.pairwise_mergeSort (fun a b c h1 h2=>?_) (fun a b=>?_) _
 ·rw[zb1] at h1 h2 ⊢; exact zaF _ _ _ h1 h2
 ·rw[Bool.or_eq_true,zb1,zb1]
  cases h:HT.lexLt (key b) (key a) with
  | false=>exact .inl rfl
  | true=>exact .inr (zf0 _ _ h)
theorem zN {pss:List (List Int)}{x:List Int}:x∈canon pss ↔ x∈pss.flatMap parts:=by rw[(zam pss).mem_iff,zay]
theorem zcI (pss:List (List Int)):(canon pss).Nodup:=(zam pss).nodup_iff.mpr (zas _)
theorem zI (pss:List (List Int)):(canon pss).length=(dd (pss.flatMap parts)).length:=(zam pss).length_eq
theorem zcK {l m:List (List Int)} (hp:l.Perm m) (h1:l.Pairwise (fun a b=>kle a b=true)) (h2:m.Pairwise (fun a b=>kle a b=true)):l=m:=by
 refine List.Perm.eq_of_pairwise (fun a b _ _ g1 g2=>?_) h1 h2 hp;rw[zb1] at g1 g2;have:=zf1 _ _ g2 g1;unfold key at this;exact (List.cons.inj this).2
theorem canon_of {pss l:List (List Int)} (hp:l.Perm (dd (pss.flatMap parts))) (hs:l.Pairwise (fun a b=>HT.lexLt ((b.length:Int)::b) ((a.length:Int)::a)=false)):l=canon pss:=
 zcK (hp.trans (zam pss).symm) (hs.imp fun h=>zb1.mpr h) (zao pss)
theorem zlC {l m:List (List Int)} (h:∀x,x∈l ↔ x∈m):(dd l).Perm (dd m):=(List.perm_ext_iff_of_nodup (zas l) (zas m)).mpr fun x=>by rw[zay,zay]; exact h x
theorem ze3 {pss qss:List (List Int)} (h:∀x,x∈pss.flatMap parts ↔ x∈qss.flatMap parts):canon pss=canon qss:=
 zcK ((zam pss).trans ((zlC h).trans (zam qss).symm)) (zao pss) (zao qss)
theorem zci:∀(n:Nat) (p q:List Int),p.length=n->(q∈subs p ↔ q.Sublist p)
 | 0,p,q,h=>by
  obtain rfl:=List.eq_nil_of_length_eq_zero h;show q∈[[]] ↔ _;simp
 | n+1,p,q,h=>by
  obtain⟨r,x,rfl⟩:∃r x,p=r++[x]:=by
   rcases List.eq_nil_or_concat p with e | ⟨r,x,e⟩
   ·rw[e] at h; cases h
   ·exact⟨r,x,by rw[e,List.concat_eq_append]⟩
  have hr:r.length=n:=by simpa using h
  rw[zcu,List.mem_append,zci n r q hr,List.mem_map,List.sublist_append_iff];constructor
  ·rintro (h1 | ⟨y,hy,rfl⟩)
   ·exact⟨q,[],by simp,h1,List.nil_sublist _⟩
   ·exact⟨y,[x],rfl,(zci n r y hr).mp hy,List.Sublist.refl _⟩
  ·rintro⟨l1,l2,rfl,s1,s2⟩
   cases s2 with
   | cons _ h=>
    obtain rfl:=List.sublist_nil.mp h;exact .inl (by simpa using s1)
   | cons_cons _ h=>
    obtain rfl:=List.sublist_nil.mp h;exact .inr ⟨l1,(zci n r l1 hr).mpr s1,rfl⟩
theorem zA {p q:List Int}:q∈parts p ↔ q≠[]/\q.Sublist p:=by
 obtain⟨t,e,ht⟩:=zcF p;have hs:=zci p.length p q rfl;rw[e] at hs;unfold parts;rw[e];show q∈t ↔ _;constructor
 ·intro h
  exact⟨ht q h,hs.mp (Ax _ h)⟩
 ·rintro⟨h1,h2⟩
  rcases List.mem_cons.mp (hs.mpr h2) with h | h
  ·exact absurd h h1
  ·exact h
theorem ze0 {p q r:List Int} (h1:q∈parts p) (h2:r∈parts q):r∈parts p:=by
 rw[zA] at h1 h2 ⊢;exact⟨h2.1,h2.2.trans h1.2⟩
theorem zbQ:∀p:List Int,rises p=true ↔ p.Pairwise (·<·)
 | []=>by simp[rises]
 | [a]=>by simp[rises]
 | a::b::r=>by
  have ih:=zbQ (b::r);rw[show rises (a::b::r)=(decide (a<b) && rises (b::r)) from rfl,AN,decide_eq_true_eq,ih,List.pairwise_cons (a:=a)];constructor
  ·rintro⟨h1,h2⟩
   refine⟨fun x hx=>?_,h2⟩;rcases List.mem_cons.mp hx with rfl | hx
   ·exact h1
   ·have:=(List.pairwise_cons.mp h2).1 x hx
    omega
  ·rintro⟨h1,h2⟩
   exact⟨h1 b AB,h2⟩
theorem zB {p:List Int}:zY p=true ↔ p≠[]/\p.length<=5/\(∀x∈p,0<=x/\x<=99)/\p.Pairwise (·<·):=by
 unfold zY;simp only[AN,decide_eq_true_eq,List.all_eq_true,zbQ];constructor
 ·rintro⟨⟨⟨h1,h2⟩,h3⟩,h4⟩
  exact⟨fun z=>by rw[z] at h1; simp at h1,h2,h3,h4⟩
 ·rintro⟨h1,h2,h3,h4⟩
  refine⟨⟨⟨?_,h2⟩,h3⟩,h4⟩;cases p with
  | nil=>exact absurd rfl h1
  | cons _ _=>simp
theorem zaD {p q:List Int} (h:zY p=true) (hq:q∈parts p):zY q=true:=by
 rw[zB] at h ⊢;rw[zA] at hq;exact⟨hq.1,AF hq.2.length_le h.2.1,fun x hx=>h.2.2.1 x (hq.2.subset hx),h.2.2.2.sublist hq.2⟩
theorem zkX {pss:List (List Int)} (hn:pss.Nodup) (hp:∀p∈pss,zY p=true):zjZ pss pss.length:=by
 intro i p hi e;refine⟨fun hm=>?_,hp p (Aq e)⟩;obtain⟨j,ej⟩:=List.mem_iff_getElem?.mp hm;obtain⟨lj,ej'⟩:=List.getElem?_eq_some_iff.mp ej;rw[AS] at lj;obtain⟨li,ei⟩:=List.getElem?_eq_some_iff.mp e;have:=List.pairwise_iff_getElem.mp hn j i (by omega) li (by omega);rw[List.getElem_take] at ej';exact this (ej'.trans ei.symm)
theorem zkb {pss:List (List Int)} (h20:pss.length<=20) (hn:pss.Nodup) (hp:∀p∈pss,zY p=true) (h:(dd (pss.flatMap parts)).length<=200):webM pss=true:=by
 rw[zjc pss h20 (zkX hn hp),decide_eq_true h]
theorem zal {pss:List (List Int)} (h:webM pss=true):pss.length<=20/\(∀p∈pss,zY p=true)/\(∀p∈pss,p.length<=5)/\(dd (pss.flatMap parts)).length<=200:=by
 unfold webM at h;simp only[AN,decide_eq_true_eq,List.all_eq_true] at h;obtain⟨⟨⟨h1,h2⟩,h3⟩,h4⟩:=h;have h5:∀p∈pss,zY p=true:=fun p hp=>by rw[<- zfo]; exact h2 p hp
 exact⟨h1,h5,fun p hp=>(zB.mp (h5 p hp)).2.1,h4⟩
def over (o p:List Int):Bool:=decide (p.length<o.length) && p.all fun x=>decide (x∈o)
def zdf (kn:List (List Int)) (p:List Int):Bool:=decide ((kn.filter fun o=>over o p).length=0)
def tops (kn:List (List Int)):List (List Int):=kn.filter (zdf kn)
theorem zfI {pss:List (List Int)}{x:List Int} (h:x∈tops (canon pss)):x∈pss:=by
 unfold tops at h;obtain⟨h1,h2⟩:=List.mem_filter.mp h;rw[zN] at h1;obtain⟨p,hp,hx⟩:=List.mem_flatMap.mp h1;rw[zA] at hx;have hpn:p≠[]:=fun z=>by rw[z] at hx; exact hx.1 (List.sublist_nil.mp hx.2)
 have hpc:p∈canon pss:=zN.mpr (List.mem_flatMap.mpr ⟨p,hp,zA.mpr ⟨hpn,List.Sublist.refl _⟩⟩)
 by_cases hl:x.length<p.length
 ·exfalso
  unfold zdf at h2;have h0:=of_decide_eq_true h2;have:p∈(canon pss).filter fun o=>over o x:=List.mem_filter.mpr ⟨hpc,by unfold over; rw[decide_eq_true hl,Bool.true_and,List.all_eq_true]; exact fun y hy=>decide_eq_true (hx.2.subset hy)⟩;rw[List.eq_nil_of_length_eq_zero h0] at this;cases this
 ·have:x=p:=hx.2.eq_of_length (Nat.le_antisymm hx.2.length_le (by omega))
  rw[this]; exact hp
theorem zf4 (pss:List (List Int)):(tops (canon pss)).Nodup:=(zcI pss).filter _
theorem zjw (pss:List (List Int)):(tops (canon pss)).length<=pss.length:=(zf4 pss).length_le_of_subset fun x h=>zfI h
end K1
end
section
namespace K52
open K1
open PySem L2 STb
def BOk (b:List (List Int)):Prop:=b.Nodup/\b.length<=17/\(∀ps∈b,ps≠[]/\ps.length<=5/\rises ps=true/\∀x∈ps,0<=x/\x<=7)/\(b.flatMap parts).length<=200
theorem zlQ:∀n,n<20->(known n).Nodup/\(known n).length<=17/\(∀ps∈known n,ps≠[]/\ps.length<=5/\rises ps=true/\∀x∈ps,0<=x/\x<=7)/\((known n).flatMap parts).length<=200:=by decide +kernel
theorem zfM {m:Nat}:∀{b:List (List Int)},(∀ps∈b,(parts ps).length<=m)->(b.flatMap parts).length<=m*b.length
 | [],_=>by simp
 | p::r,h=>by
  have h1:=h p AB;have h2:=zfM (b:=r) fun q hq=>h q (Ax _ hq);rw[List.flatMap_cons,At,As,Nat.mul_succ];omega
theorem zkL {b:List (List Int)} (h:Base b):BOk b:=by
 rcases h with ⟨n,hn,rfl⟩ | ⟨h5,hs⟩
 ·exact zlQ n hn
 ·refine⟨hs.1,by omega,fun ps hp=>?_,?_⟩
  ·obtain⟨h1,h2,h3,h4⟩:=hs.2 ps hp
   exact⟨h1,by omega,h3,fun x hx=>by have:=h4 x hx; omega⟩
  ·have:=zfM (m:=15) (b:=b) fun ps hp=>by
    rw[zaG];have h2:=(hs.2 ps hp).2.1;have:2 ^ ps.length<=2 ^ 4:=Nat.pow_le_pow_right (by decide) h2;omega
   omega
theorem zk1 {first gap:Int} (hg:1<=gap) {p q:List Int} (h:ren first gap p=ren first gap q):p=q:=by
 unfold ren at h;refine (List.map_inj_right (f:=fun x=>first+gap*x) (fun x y e=>?_)).mp h;have:gap*x=gap*y:=by omega
 exact Int.eq_of_mul_eq_mul_left (by omega) this
theorem zgH {first gap:Int} (h0:0<=first) (h1:first<12) (hg:1<=gap) (hg3:gap<=3) {p:List Int} (h:p≠[]/\p.length<=5/\rises p=true/\∀x∈p,0<=x/\x<=7):zY (ren first gap p)=true:=by
 obtain⟨a,b,c,d⟩:=h;rw[zB];unfold ren;refine⟨fun z=>a (List.map_eq_nil_iff.mp z),by rw[Ab]; exact b,fun y hy=>?_,?_⟩
 ·obtain⟨x,hx,rfl⟩:=List.mem_map.mp hy
  have:=d x hx;have hg':gap=1 \/ gap=2 \/ gap=3:=by omega
  rcases hg' with rfl | rfl | rfl <;> omega
 ·rw[zbQ] at c
  rw[Bf];refine c.imp fun {x y} e=>?_;have:gap*x<gap*y:=Int.mul_lt_mul_of_pos_left e (by omega);omega
theorem zaK {q:List (List Int)} (h:Drawn q):webM q=true/\q.Nodup/\q.length<=17:=by
 obtain⟨b,first,gap,hb,h0,h1,hg,hg3,hp⟩:=h;obtain⟨n1,n2,n3,n4⟩:=zkL hb;have hl:q.length<=17:=by rw[hp.length_eq,Ab]; exact n2
 have hn:q.Nodup:=by
  rw[hp.nodup_iff];unfold List.Nodup at n1 ⊢;rw[Bf];exact n1.imp fun {x y} e z=>e (zk1 hg z)
 refine⟨zkb (by omega) hn (fun p hm=>?_) ?_,hn,hl⟩
 ·obtain⟨r,hr,rfl⟩:=List.mem_map.mp (hp.mem_iff.mp hm)
  exact zgH h0 h1 hg hg3 (n3 r hr)
 ·refine AF (zb6 _) ?_
  rw[(hp.flatMap_right parts).length_eq];have:∀b:List (List Int),((b.map (ren first gap)).flatMap parts).length=(b.flatMap parts).length:=by
   intro b
   induction b with
   | nil=>rfl
   | cons p r ih=>
    rw[AK,List.flatMap_cons,List.flatMap_cons,At,At,ih,zaG,zaG];unfold ren;rw[Ab]
  rw[this];exact n4
end K52
end
section
namespace K1
open PySem L2 STb
def rims (q:List Int):List (List Int):=if q.length=1 then [] else (Bc q.length).map fun k=>q.take k++q.drop (k+1)
theorem zfl (q:List Int):(rims q).length<=q.length:=by
 unfold rims;split
 ·exact AV _
 ·simp
theorem zfV {p q:List Int}:p∈rims q ↔ q.length≠1/\∃k,k<q.length/\p=q.take k++q.drop (k+1):=by
 unfold rims;split
 next h=>simp[h]
 next h=>
  rw[List.mem_map];constructor
  ·rintro⟨k,hk,rfl⟩
   exact⟨h,k,List.mem_range.mp hk,rfl⟩
  ·rintro⟨_,k,hk,rfl⟩
   exact⟨k,List.mem_range.mpr hk,rfl⟩
theorem zaJ:∀(o p:List Int),o.Pairwise (·<·)->p.Pairwise (·<·)->(∀x∈p,x∈o)->p.Sublist o
 | [],p,_,_,h=>by
  cases p with
  | nil=>exact List.Sublist.slnil
  | cons a r=>exact absurd (h a AB) (by simp)
 | b::o,p,ho,hp,h=>by
  obtain⟨ho1,ho2⟩:=List.pairwise_cons.mp ho;cases p with
  | nil=>exact List.nil_sublist _
  | cons a r=>
   obtain⟨hp1,hp2⟩:=List.pairwise_cons.mp hp
   by_cases e:a=b
   ·subst e
    refine (zaJ o r ho2 hp2 fun x hx=>?_).cons_cons a;rcases List.mem_cons.mp (h x (Ax _ hx)) with rfl | q
    ·have:=hp1 x hx; omega
    ·exact q
   ·have ha:a∈o:=by
     rcases List.mem_cons.mp (h a AB) with q | q
     ·exact absurd q e
     ·exact q
    have hab:=ho1 a ha;refine (zaJ o (a::r) ho2 hp fun x hx=>?_).cons b;rcases List.mem_cons.mp (h x hx) with q | q
    ·exfalso
     rcases List.mem_cons.mp hx with z | z
     ·omega
     ·have:=hp1 x z; omega
    ·exact q
theorem between {p o:List Int} (h:p.Sublist o):p.length<o.length->∃(r:List Int) (k:Nat),r.Sublist o/\k<r.length/\r.length=p.length+1/\p=r.take k++r.drop (k+1):=by
 induction h with
 | slnil=>intro h; simp at h
 | @cons p o a s ih=>
  intro _;exact⟨a::p,0,s.cons_cons a,by simp,by simp,by simp⟩
 | @cons_cons p o a s ih=>
  intro hl;obtain⟨r,k,h1,h2,h3,h4⟩:=ih (by simpa using hl);exact⟨a::r,k+1,h1.cons_cons a,by simpa using h2,by simp[h3],by rw[List.take_succ_cons,List.drop_succ_cons,List.cons_append,<- h4]⟩
theorem zkl {p q:List Int}{k:Nat} (hk:k<q.length) (h:p=q.take k++q.drop (k+1)):p.Sublist q/\p.length<q.length:=by
 subst h;refine⟨?_,?_⟩
 ·have h1:(q.take k++q.drop (k+1)).Sublist (q.take k++q.drop k):=(List.Sublist.refl _).append (by
   rw[show q.drop (k+1)=(q.drop k).drop 1 by rw[List.drop_drop]];exact List.drop_sublist _ _)
  rwa [List.take_append_drop] at h1
 ·rw[At,AS,List.length_drop]
  omega
theorem ziC {pss:List (List Int)} (hp:∀p∈pss,zY p=true) {p:List Int} (h:p∈canon pss):zdf (canon pss) p=!decide (p∈(canon pss).flatMap rims):=by
 have hpc:∀q∈canon pss,zY q=true:=fun q hq=>by
  obtain⟨r,hr,hx⟩:=List.mem_flatMap.mp (zN.mp hq);exact zaD (hp r hr) hx
 rw[Bool.eq_iff_iff];unfold zdf;rw[decide_eq_true_eq,Bool.not_eq_true',decide_eq_false_iff_not,List.length_eq_zero_iff,List.filter_eq_nil_iff];constructor
 ·intro ht hm
  obtain⟨q,hq,hpq⟩:=List.mem_flatMap.mp hm;obtain⟨_,k,hk,e⟩:=zfV.mp hpq;obtain⟨s,l⟩:=zkl hk e;refine ht q hq ?_;unfold over;rw[decide_eq_true l,Bool.true_and,List.all_eq_true];exact fun x hx=>decide_eq_true (s.subset hx)
 ·intro hn o ho hov
  unfold over at hov;rw[AN,decide_eq_true_eq,List.all_eq_true] at hov;obtain⟨hl,hm⟩:=hov;have hs:p.Sublist o:=zaJ o p (zB.mp (hpc o ho)).2.2.2 (zB.mp (hpc p h)).2.2.2 fun x hx=>of_decide_eq_true (hm x hx);obtain⟨r,k,h1,h2,h3,h4⟩:=between hs hl;have hpn:p≠[]:=(zB.mp (hpc p h)).1;have hpl:1<=p.length:=by
   cases p with
   | nil=>exact absurd rfl hpn
   | cons _ _=>simp
  have hr:r∈canon pss:=by
   obtain⟨q,hq,hx⟩:=List.mem_flatMap.mp (zN.mp ho);refine zN.mpr (List.mem_flatMap.mpr ⟨q,hq,ze0 hx (zA.mpr ⟨fun z=>?_,h1⟩)⟩);rw[z] at h2; simp at h2
  exact hn (List.mem_flatMap.mpr ⟨r,hr,zfV.mpr ⟨by omega,k,h2,h4⟩⟩)
theorem zhL {pss:List (List Int)} (hp:∀p∈pss,zY p=true):(canon pss).filter (fun p=>!decide (p∈(canon pss).flatMap rims))=tops (canon pss):=by
 unfold tops;exact List.filter_congr fun p h=>(ziC hp h).symm
theorem zeM (pss:List (List Int)):(tops (canon pss)).Pairwise (fun a b=>kle a b=true):=(zao pss).sublist List.filter_sublist
end K1
end
section
namespace K52
open K1
open PySem L2 STb
theorem zh1:∀n,n<20->(dd ((known n).flatMap parts)).length<=56:=by decide +kernel
def six:List (List Int):=(parts [0,1,2,3,4,5]).filter fun q=>decide (q.length<=4)
theorem zkp:six.length=56:=by decide +kernel
theorem zi0 {b:List (List Int)} (h:Base b):(dd (b.flatMap parts)).length<=56:=by
 rcases h with ⟨n,hn,rfl⟩ | ⟨h5,hs⟩
 ·exact zh1 n hn
 ·rw[<- zkp]
  refine (zas _).length_le_of_subset fun x hx=>?_;rw[zay,List.mem_flatMap] at hx;obtain⟨p,hp,hx⟩:=hx;obtain⟨_,h4,hr,hb⟩:=hs.2 p hp;rw[zA] at hx;have hl:=hx.2.length_le;unfold six;rw[List.mem_filter,zA];refine⟨⟨hx.1,hx.2.trans (zaJ _ _ (by decide) ((zbQ p).mp hr) fun y hy=>?_)⟩,decide_eq_true (by omega)⟩;have:=hb y hy;have:y=0 \/ y=1 \/ y=2 \/ y=3 \/ y=4 \/ y=5:=by omega
  rcases this with rfl | rfl | rfl | rfl | rfl | rfl <;> decide
theorem zaH {q:List (List Int)} (h:Drawn q):(dd (q.flatMap parts)).length<=56:=by
 obtain⟨b,first,gap,hb,_,_,_,_,hp⟩:=h;refine AF ?_ (zi0 hb);have e:((dd (b.flatMap parts)).map (ren first gap)).length=(dd (b.flatMap parts)).length:=Ab _;rw[<- e];refine (zas _).length_le_of_subset fun x hx=>?_;rw[zay,List.mem_flatMap] at hx;obtain⟨p,hm,hx⟩:=hx;obtain⟨r,hr,rfl⟩:=List.mem_map.mp (hp.mem_iff.mp hm);rw[zA] at hx;obtain⟨hne,hsub⟩:=hx;unfold ren at hsub;obtain⟨y,hy,rfl⟩:=List.sublist_map_iff.mp hsub;refine List.mem_map.mpr ⟨y,?_,rfl⟩;rw[zay,List.mem_flatMap];exact⟨r,hr,zA.mpr ⟨fun z=>hne (by rw[z]; rfl),hy⟩⟩
end K52
end
section
namespace K52
open K1
open PySem L2 STb
def webS (pss:List (List Int)):Prop:=webM pss=true/\(canon pss).length<64
abbrev zeJ:Stmt:=top 27
abbrev zbw:Stmt:=top 28
theorem zdm {H:Hp}:∀{qs:List (List Int×Addr)},(∀q∈qs,Tp H q.2 q.1)->Tps H (qs.map (·.2)) (qs.map (·.1))
 | [],_=>.nil
 | q::r,h=>.cons (h q AB) (zdm fun x hx=>h x (Ax _ hx))
theorem zae {H H2:Hp}{pss:List (List Int)}{D:Addr}{qs:List (List Int×Addr)} (t:Told H H2 pss D qs):∃bs,Same H H2/\H D=none/\H2 D=some (.lst (bs.map V.ref))/\Tps H2 bs (canon pss):=by
 obtain⟨sm,hD,hD2,hq,hp,hs⟩:=t;have e:qs.map (·.1)=canon pss:=canon_of hp (List.pairwise_map.mpr hs);refine⟨qs.map (·.2),sm,hD,by rw[hD2,Aw]; rfl,?_⟩;rw[<- e];exact zdm hq
section
variable {P:Program}{w:World}{K:Ae}{mg:Str->Option Value}{base:Heap}
def zfx (K:Ae):Sp:=fun vs H Q _=>∃l as pss,vs=[.ref l]/\SqL K H l (as.map V.ref)/\Tps H as pss/\webS pss/\∀D H2 bs,Same H H2->H D=none->H2 D=some (.lst (bs.map V.ref))->Tps H2 bs (canon pss)->Q (.ref D) H2
theorem zjj:zp ["web"] ["web"] (za zbw):=⟨rfl,rfl,rfl,by decide +kernel,rfl,by decide +kernel,by decide +kernel⟩
theorem zlM:zp ["web"] ["web"] (za zeJ):=⟨rfl,rfl,rfl,by decide +kernel,rfl,by decide +kernel,by decide +kernel⟩
def zj8 (K:Ae):Sp:=fun vs H Q _=>∃l as pss,vs=[.ref l]/\SqL K H l (as.map V.ref)/\Tps H as pss/\webS pss/\∀H2,Same H H2->Q .non H2
theorem zkU {f fw:Addr}{fd fdw:FuncData} (F:Fun K "must_be_web" "must_be_web" zeJ f fd)
  (Fw:Fun K "is_web" "is_web" zcq fw fdw) (bw:Binds K fdw ["web"] []) (mw:mg "is_web"=some (.ref fw)) (Gw:FnOk P w K mg base CX0 6 fw fdw ["web"] (zhN K)):FnOk P w K mg base CX0 7 f fd ["web"] (zj8 K):=by
 refine F.ok zlM (fun vs H Q E h=>?_) (fun cdv A outer s H vs Q E hr h=>?_)
 ·obtain⟨l,as,pss,rfl,_⟩:=h; rfl
 ·obtain⟨l,as,pss,rfl,hl,ht,hw,k⟩:=h
  refine⟨_,ze (zU (za1 (zaY (zi Gw hr rfl mw Fw.kp bw .nil pass0 (pa_cons (pv 0) pa_nil)))) zbN zv),?_⟩;refine⟨_,rfl,l,as,pss,rfl,hl,ht,(fun _=>by rw[<- zI]; exact hw.2),fun H1 sm1=>⟨_,rfl,?_⟩⟩;rw[hw.1];exact iteF (k H1 sm1)
theorem zhY {f fw fa:Addr}{fd fdw fda:FuncData} (F:Fun K "pieces" "pieces" zbw f fd)
  (Fw:Fun K "must_be_web" "must_be_web" zeJ fw fdw) (bw:Binds K fdw ["web"] []) (mw:mg "must_be_web"=some (.ref fw)) (Gw:FnOk P w K mg base CX0 7 fw fdw ["web"] (zj8 K))
  (Fa:Fun K "all_parts" "all_parts" sAll fa fda) (ba:Binds K fda ["some"] []) (ma:mg "all_parts"=some (.ref fa)) (Ga:FnOk P w K mg base CX0 5 fa fda ["some"] (zdS K)):FnOk P w K mg base CX0 8 f fd ["web"] (zfx K):=by
 refine F.ok zjj (fun vs H Q E h=>?_) (fun cdv A outer s H vs Q E hr h=>?_)
 ·obtain⟨l,as,pss,rfl,_⟩:=h; rfl
 ·obtain⟨l,as,pss,rfl,hl,ht,hw,k⟩:=h
  have hr5:Room 5 _:=hr.mono (by decide);refine⟨_,zb (zaB (zi Gw hr rfl mw Fw.kp bw .nil pass0 (pa_cons (pv 0) pa_nil)))
   (ze (zt (zi Ga hr5 rfl ma Fa.kp ba .nil pass0 (pa_cons (pv 0) pa_nil)))),?_⟩
  obtain⟨h20,_,h5,_⟩:=zal hw.1;refine⟨_,rfl,l,as,pss,rfl,hl,ht,hw,fun H1 sm1=>?_⟩;refine⟨_,rfl,l,as,pss,rfl,sm1.seq hl,sm1.tps ht,h5,AF h20 (by decide),(by rw[<- zI]; exact hw.2),fun D H2 qs t=>?_⟩;obtain⟨bs,sm2,hD,hD2,hb⟩:=zae t;exact k D H2 bs (sm1.trans sm2) (sm1.free hD) hD2 hb
end
end K52
end
section
namespace K52
open K1
open PySem L2 STb
abbrev zeb:Stmt:=top 18
abbrev zd1:Stmt:=top 22
theorem cutk (xs:List V) (i:Nat) (h:i<=xs.length):cutV xs none (some (i:Int))=xs.take i:=by
 unfold cutV;rw[HT.zcj,HT.zcB,Nat.min_eq_left h,List.drop_zero,Nat.sub_zero]
theorem cutd (xs:List V) (i:Nat) (h:i<=xs.length):cutV xs (some (i:Int)) none=xs.drop i:=by
 unfold cutV;rw[HT.zcj,HT.zcB,Nat.min_eq_left h];exact Ay (by rw[List.length_drop]; exact Af _)
abbrev tRim:TE:=tOp zlg (tSl rSlA (tVar 1) zeG (zlp (tVar 0))) (tSl rSlA (tVar 1) (zlp (tOp (rI0 fun i j=>.int (i+j)) (tVar 0) (tC (.int 1)))) zeG)
section
variable {P:Program}{w:World}{K:Ae}{mg:Str->Option Value}{base:Heap}
theorem zjr {H2:Hp}{a D:Addr}{ps:List Int}{Q:VK} (ha:Tp H2 a ps) (hz:ps.length<=5) (hD:H2 D=none)
  (k:∀(H3:Hp) (bs:List Addr),Same H2 H3->H3 D=some (.lst (bs.map V.ref))->Tps H3 bs ((Bc ps.length).map fun k=>ps.take k++ps.drop (k+1))->Q (.ref D) H3) :
  zaf (Itr 0 ps.length) (zai 0) tYes tRim [none,some (.ref a)] H2 D Q:=by
 refine zgr (fun j σ ys H3=>∃(v:Option V) (bs:List Addr),σ=[v,some (.ref a)]/\Same H2 H3/\H3 D=some (.lst ys)/\ys=bs.map V.ref/\Tps H3 bs (((Bc ps.length).map fun k=>ps.take k++ps.drop (k+1)).take j)) ?_ ?_ ?_
 ·exact⟨none,[],rfl,Same.new hD,upd_same,rfl,.nil⟩
 ·rintro j σ ys H3 hj hy ⟨v,bs,rfl,sm,hD3,rfl,hb⟩
  have e:((Bc ps.length).map fun k=>ps.take k++ps.drop (k+1))[j]?=some (ps.take j++ps.drop (j+1)):=by rw[Ap,List.getElem?_range hj]; rfl
  refine gyes ?_;refine⟨_,rfl,_,rfl,_,rfl,a,_,rfl,sm.tp ha,fun p1 H4 sm4 hp1=>⟨_,rfl,_,rfl,_,_,rfl,rfl,_,rfl,a,_,rfl,sm4 _ _ (sm.tp ha),fun p2 H5 sm5 hp2=>?_⟩⟩;rw[show (0:Int)+((j:Nat):Int)=((j:Nat):Int) by omega,cutk _ _ (by rw[Ab]; omega),<- List.map_take] at hp1;rw[show (0:Int)+((j:Nat):Int)+1=((j+1:Nat):Int) by omega,cutd _ _ (by rw[Ab]; omega),<- List.map_drop] at hp2;refine⟨p1,p2,_,_,rfl,rfl,sm5 _ _ hp1,hp2,zd (by simp; omega),fun p3 H6 sm6 hp3=>?_⟩;rw[<- Ak] at hp3;have s6:=(sm4.trans sm5).trans sm6;refine cput (zd (by omega)) hj hy (s6 _ _ hD3) ⟨_,bs++[p3],rfl,(sm.trans s6).then hD,upd_same,by rw[Ak]; rfl,?_⟩;rw[AQ e];exact Tps.upd (Tps.snoc (s6.tps hb) hp3) (s6 _ _ hD3) (by intro xs z; cases z)
 ·rintro σ ys H3 ⟨v,bs,rfl,sm,hD3,rfl,hb⟩
  rw[Ay (by simp)] at hb;exact k H3 bs sm hD3 hb
def zjT:Sp:=fun vs H Q _=>∃a ps,vs=[.ref a]/\Tp H a ps/\ps.length<=5/\∀D H2 (bs:List Addr),Same H H2->H D=none->H2 D=some (.lst (bs.map V.ref))->Tps H2 bs (rims ps)->Q (.ref D) H2
theorem zl9:zp ["piece"] ["piece"] (za zeb):=⟨rfl,rfl,rfl,by decide +kernel,rfl,by decide +kernel,by decide +kernel⟩
theorem zll {f:Addr}{fd:FuncData} (F:Fun K "rims_of" "rims_of" zeb f fd) (B:Bt mg):FnOk P w K mg base CX0 1 f fd ["piece"] zjT:=by
 refine F.ok zl9 (fun vs H Q E h=>?_) (fun cdv A outer s H vs Q E hr h=>?_)
 ·obtain⟨a,ps,rfl,_⟩:=h; rfl
 ·obtain⟨a,ps,rfl,ha,h5,k⟩:=h
  refine⟨_,zb (zU (zo zaC (zj zh rfl B.len z0 (pa_cons (pv 0) pa_nil)) zf (nomark _)) (ze (zt (zO pa_nil))) zv)
   (ze (zt (zy ["piece"] ["k","piece"] [none,some 0] (zcD rfl B.range (pa_cons (zj zh rfl B.len z0 (pa_cons (pv 0) pa_nil)) pa_nil)) (fun cl C s₀ H₀ ex=>zm (i:=0) (ndN ["k","piece"]) rfl (Or.inl rfl)) (fun cl C s₀ H₀ ex=>zL)
    (fun cl C s₀ H₀ ex=>zG zfe (zcg zgL (pv 1) zdI (zdK (pv 0))) (zcg zgL (pv 1) (zdK (zG zbd (pv 0) zf)) zdI)) (hfr:=frOf (za zeb) (by decide +kernel)) (te:=tRim)))),?_⟩
  refine⟨_,rfl,a,_,rfl,.inr (SqT.of ha),rfl,_,rfl,?_⟩;rw[Ab]
  by_cases h1:ps.length=1
  ·rw[show decide (V.int (ps.length:Int)=V.int 1)=true from decide_eq_true (by rw[h1]; rfl)]
   refine iteT ⟨zd (by simp),fun D hD=>k D _ [] (Same.new hD) hD upd_same ?_⟩;unfold rims;rw[if_pos h1];exact .nil
  ·rw[show decide (V.int (ps.length:Int)=V.int 1)=false from decide_eq_false fun z=>h1 (by injection z with z; omega)]
   refine iteF ⟨_,rfl,a,_,rfl,.inr (SqT.of ha),_,rfl,by rw[Ab]; omega,by rw[Ab]; omega,fun D hD=>?_⟩;rw[Ab];refine zz (zjr ha h5 hD fun H3 bs sm hD3 hb=>k D H3 bs sm hD hD3 ?_);unfold rims;rw[if_neg h1];exact hb
theorem zkx (seq:List (List Int)) (p:List Int):(valV (kvM seq) (p.map Sum.inl)).isSome=decide (p∈seq):=by
 rw[<- zdv,Bool.eq_iff_iff,List.any_eq_true,decide_eq_true_eq];unfold kvM;constructor
 ·rintro⟨kv,hm,e⟩
  obtain⟨q,hq,rfl⟩:=List.mem_map.mp hm;have e':=of_decide_eq_true e;have:q=p:=(List.map_inj_right (f:=(Sum.inl:Int->Key)) (fun x y h=>Sum.inl.inj h)).mp e';rw[<- this];exact (zay seq q).mp hq
 ·intro h
  exact⟨_,List.mem_map.mpr ⟨p,(zay seq p).mpr h,rfl⟩,by simp⟩
theorem zhi {H2:Hp}{L d D:Addr}{as:List Addr}{kn seq:List (List Int)}{Q:VK} (hl:SqL K H2 L (as.map V.ref)) (ht:Tps H2 as kn) (hd:H2 d=some (.dT (kvM seq))) (hz:kn.length<=1000) (hD:H2 D=none)
  (k:∀(H3:Hp) (bs:List Addr),Same H2 H3->H3 D=some (.lst (bs.map V.ref))->Tps H3 bs (kn.filter fun p=>!decide (p∈seq))->Q (.ref D) H3) :
  zaf (Itl K L) (zai 0) (tB (zeV (tVar 0) (tVar 1))) (tVar 0) [none,some (.ref d)] H2 D Q:=by
 have hla:=ht.length;refine zH (xs:=as.map V.ref) (fun j σ ys H3=>∃(v:Option V) (bs:List Addr),σ=[v,some (.ref d)]/\Same H2 H3/\H3 D=some (.lst ys)/\ys=bs.map V.ref/\Tps H3 bs ((kn.take j).filter fun p=>!decide (p∈seq))) ?_ ?_ ?_ ?_
 ·exact⟨none,[],rfl,Same.new hD,upd_same,rfl,.nil⟩
 ·rintro j σ ys H3 ⟨v,bs,rfl,sm,hD3,rfl,_⟩
  exact sm.seq hl
 ·rintro j σ ys H3 x hx hj hy ⟨v,bs,rfl,sm,hD3,rfl,hb⟩
  obtain⟨o,eo,rfl⟩:=zP hx;obtain⟨p,ep,hp⟩:=ht.get eo;have hn:(as.map V.ref).length<=sizeLine:=by rw[Ab]; exact zd (by omega)
  refine⟨_,rfl,_,rfl,d,_,rfl,DGet.t (k:=p.map Sum.inl) (sm _ _ hd) (by rw[Aw]; exact sm.tp hp),_,rfl,?_⟩;rw[zkx]
  by_cases hin:p∈seq
  ·rw[decide_eq_true hin]
   refine iteF (cskip hj hy ⟨_,bs,rfl,sm,hD3,rfl,?_⟩);rw[AQ ep,A9,List.filter_cons_of_neg (by rw[decide_eq_true hin]; decide),List.filter_nil,List.append_nil];exact hb
  ·rw[decide_eq_false hin]
   refine iteT ⟨_,rfl,cput hn hj hy hD3 ⟨_,bs++[o],rfl,sm.then hD,upd_same,by rw[Ak]; rfl,?_⟩⟩;rw[AQ ep,A9,List.filter_cons_of_pos (by rw[decide_eq_false hin]; rfl),List.filter_nil];exact Tps.upd (Tps.snoc hb (sm.tp hp)) hD3 (by intro xs z; cases z)
 ·rintro σ ys H3 ⟨v,bs,rfl,sm,hD3,rfl,hb⟩
  rw[Ab,hla,Ay (Af _)] at hb;exact k H3 bs sm hD3 hb
theorem zdP {m:Nat}:∀{b:List (List Int)},(∀ps∈b,(rims ps).length<=m)->(b.flatMap rims).length<=m*b.length
 | [],_=>by simp
 | p::r,h=>by
  have h1:=h p AB;have h2:=zdP (b:=r) fun q hq=>h q (Ax _ hq);rw[List.flatMap_cons,At,As,Nat.mul_succ];omega
def zjX (K:Ae):Sp:=fun vs H Q _=>∃l as pss,vs=[.ref l]/\SqL K H l (as.map V.ref)/\Tps H as (canon pss)/\(∀p∈pss,zY p=true)/\(canon pss).length<64/\∀D H2 (bs:List Addr),Same H H2->H D=none->H2 D=some (.lst (bs.map V.ref))->Tps H2 bs (tops (canon pss))->Q (.ref D) H2
theorem zfZ:zp ["every","covered","piece","rim"] ["every"] (za zd1):=⟨rfl,rfl,rfl,by decide +kernel,rfl,by decide +kernel,by decide +kernel⟩
theorem zko {f fr fo fk:Addr}{fd fdr fdo fdk:FuncData} (F:Fun K "greatest_of" "greatest_of" zd1 f fd) (B:Bt mg)
  (Fr:Fun K "rims_of" "rims_of" zeb fr fdr) (br:Binds K fdr ["piece"] []) (mr:mg "rims_of"=some (.ref fr)) (Fo:Fun K "in_order" "in_order" zbG fo fdo) (bo:Binds K fdo ["some"] []) (mo:mg "in_order"=some (.ref fo))
  (Fk:Fun K "order_key" "order_key" sKey fk fdk) (bk:Binds K fdk ["piece"] []) (mk:mg "order_key"=some (.ref fk)):FnOk P w K mg base CX0 5 f fd ["every"] (zjX K):=by
 have Gr:FnOk P w K mg base CX0 1 fr fdr ["piece"] zjT:=zll Fr B;have Go:FnOk P w K mg base CX0 4 fo fdo ["some"] (ze5 K):=zfK Fo B Fk bk mk;refine F.ok zfZ (fun vs H Q E h=>?_) (fun cdv A outer s H vs Q E hr h=>?_)
 ·obtain⟨l,as,pss,rfl,_⟩:=h; rfl
 ·obtain⟨l,as,pss,rfl,hl,ht,hpp,h200,k⟩:=h
  have hu:=zcV hr;have hr1:Room 1 _:=hr.mono (by decide);refine⟨_,zb (zn (i:=1) zfZ.nd rfl (Or.inr rfl) zde)
   (zb (zaq A7 rfl (zw (pv 0)) (zm (i:=2) zfZ.nd rfl (Or.inl rfl))
    (ze (zaq A7 rfl (zw (zi Gr hr1 rfl mr Fr.kp br .nil pass0 (pa_cons (pv 2) pa_nil))) (zm (i:=3) zfZ.nd rfl (Or.inl rfl))
     (ze (zaV hu (pv 1) (pv 3) zba rfl)))))
   (ze (zt (zi Go hr rfl mo Fo.kp bo .nil pass0 (pa_cons (zy ["every","covered","piece","rim"] ["piece","covered"] [none,some 1] (zw (pv 0)) (fun cl C s₀ H₀ ex=>zm (i:=0) (ndN ["piece","covered"]) rfl (Or.inl rfl))
    (fun cl C s₀ H₀ ex=>zaR (zka (zh0 hu (pv 0) (pv 1)) (by with_unfolding_all rfl))) (fun cl C s₀ H₀ ex=>pv 0) (hfr:=frOf (za zd1) (by decide +kernel)) (tc:=tB (zeV (tVar 0) (tVar 1)))) pa_nil))))),?_⟩
  intro d hd;have hla:=ht.length;have h5:∀p∈canon pss,p.length<=5:=fun p hp=>by
   obtain⟨q,hq,hx⟩:=List.mem_flatMap.mp (zN.mp hp);exact (zB.mp (zaD (hpp q hq) hx)).2.1
  refine⟨_,rfl,l,rfl,⟨_,(Same.new hd).seq hl⟩,zaa (K:=K) (a:=l) (xs:=as.map V.ref) (fun i σ H2=>∃(v v':Option V),σ=[some (.ref l),some (.ref d),v,v']/\Same H H2/\H2 d=some (.dT (kvM (((canon pss).take i).flatMap rims))))
   ⟨none,none,rfl,Same.new hd,upd_same⟩ (fun i σ H2 _ ⟨_,_,_,sm,_⟩=>sm.seq hl) ?_ ?_⟩
  ·rintro i x σ H2 hx ⟨v,v',rfl,sm,hd2⟩
   obtain⟨a,ea,rfl⟩:=zP hx;obtain⟨ps,eps,hps⟩:=ht.get ea;have hps5:=h5 ps (Aq eps);have hi:i<(canon pss).length:=(List.getElem?_eq_some_iff.mp eps).1;refine⟨_,rfl,a,ps,rfl,sm.tp hps,hps5,fun D H3 cs sm3 hD0 hD hcs=>⟨D,rfl,⟨_,SqL.of hD⟩,?_⟩⟩;have hlc:=hcs.length;have hdD:D≠d:=za2 hD (sm3 _ _ hd2) (by intro z; cases z);refine zaa (K:=K) (a:=D) (xs:=cs.map V.ref) (fun j σ H4=>∃(v':Option V),σ=[some (.ref l),some (.ref d),some (.ref a),v']/\Same H H4/\H4 D=some (.lst (cs.map V.ref))/\Tps H4 cs (rims ps)/\H4 d=some (.dT (kvM (((canon pss).take i).flatMap rims++(rims ps).take j))))
    ⟨_,rfl,sm.trans sm3,hD,hcs,by rw[List.take_zero,List.append_nil]; exact sm3 _ _ hd2⟩ (fun j σ H4 _ ⟨_,_,_,q,_⟩=>SqL.of q) ?_ ?_
   ·rintro j x σ H4 hx ⟨v',rfl,sm4,hD4,hcs4,hd4⟩
    obtain⟨c,ec,rfl⟩:=zP hx;obtain⟨f,ef,hf⟩:=hcs4.get ec;have hlen:(kvM (((canon pss).take i).flatMap rims++(rims ps).take j)).length<sizeLine:=by
     refine zab (AF (zeL _) ?_);rw[At];have h1:=zdP (m:=5) (b:=(canon pss).take i) (fun q hq=>AF (zfl q) (h5 q (List.mem_of_mem_take hq)));have h2:=zfl ps;rw[AS] at h1 ⊢;omega
    refine⟨_,rfl,_,rfl,d,_,rfl,DPut.t (k:=f.map Sum.inl) hd4 (by rw[Aw]; exact hf) hlen,⟨_,rfl,sm4.then hd,?_,?_,?_⟩⟩
    ·rw[zk hdD]; exact hD4
    ·exact Tps.upd hcs4 hd4 (by intro xs z; cases z)
    ·rw[upd_same,zeO,List.append_assoc,<- AQ ef]
   ·rintro σ H4 ⟨v',rfl,sm4,hD4,hcs4,hd4⟩
    refine⟨_,_,rfl,sm4,?_⟩;rw[Ab,hlc,take_all] at hd4;rw[AQ eps,List.flatMap_append,List.flatMap_singleton];exact hd4
  ·rintro σ H2 ⟨v,v',rfl,sm,hd2⟩
   rw[Ab,hla,take_all] at hd2;refine⟨_,rfl,l,rfl,⟨_,sm.seq hl⟩,fun L2' hL2=>zz (zhi (sm.seq hl) (sm.tps ht) hd2 (by omega) hL2 fun H3 bs sm3 hL3 hb=>?_)⟩;rw[zhL hpp] at hb;refine⟨L2',bs,tops (canon pss),rfl,SqL.of hL3,hb,Nat.lt_of_le_of_lt (List.length_filter_le _ _) h200,fun D H4 qs sm4 hD hD4 hp hs=>?_⟩;have hlb:=hb.length;have hq:∀q∈qs,Tp H4 q.2 q.1:=fun q hq=>by
    obtain⟨m,em⟩:=List.mem_iff_getElem?.mp (hp.mem_iff.mp hq);rw[Srt.zipget] at em;cases e1:(tops (canon pss))[m]? with
    | none=>rw[e1] at em; cases em
    | some f=>
     cases e2:bs[m]? with
     | none=>rw[e1,e2] at em; cases em
     | some b=>
      rw[e1,e2] at em;obtain rfl:(f,b)=q:=Ao em;exact sm4.tp (zbf hb m b f e2 e1)
   have hperm:(qs.map (·.1)).Perm (tops (canon pss)):=by
    have:=hp.map (·.1);rw[List.map_fst_zip (by omega)] at this;exact this
   have e:qs.map (·.1)=tops (canon pss):=zcK hperm ((List.pairwise_map.mpr hs).imp fun h=>zb1.mpr h) (zeM pss);have sm24:=sm3.trans sm4;refine k D H4 (qs.map (·.2)) (sm.trans sm24) (sm.free (sm3.free hD)) (by rw[hD4,Aw]; rfl) ?_;rw[<- e];exact zdm hq
end
end K52
end
section
namespace L2
open PySem PySem.Spec PyProof.Rows
theorem zaT {cells:List (Str×Addr)}{x:Str}{c:Addr}:∀{names:List (Str×NameKind)}{acc:List (Str×Addr)},(∀y∈names,y.2=.free->∃d,cells.lookup y.1=some d)->(∀p∈acc,False)->(x,c)∈clOf cells names acc->cells.lookup x=some c/\(x,Bd)∈names:=by
 have gen:∀{names:List (Str×NameKind)} {acc:List (Str×Addr)},(∀y∈names,y.2=.free->∃d,cells.lookup y.1=some d)->(x,c)∈clOf cells names acc->(x,c)∈acc \/ (cells.lookup x=some c/\(x,Bd)∈names):=by
  intro names
  induction names with
  | nil=>intro acc _ h; exact .inl h
  | cons y r ih=>
   intro acc hn h;obtain⟨n,k⟩:=y;unfold clOf at h;have hn':∀y∈r,y.2=.free->∃d,cells.lookup y.1=some d:=fun y hy=>hn y (Ax _ hy)
   by_cases hk:(k == Bd)=true
   ·have hk':k=.free:=by cases k <;> first | rfl | cases hk
    obtain⟨d,hd⟩:=hn (n,k) AB hk';rw[if_pos hk] at h;rcases ih hn' h with q | ⟨q1,q2⟩
    ·rcases List.mem_cons.mp q with q | q
     ·refine .inr ⟨?_,?_⟩
      ·have hd':cells.lookup n=some d:=hd
       rw[hd'] at q;cases q;exact hd'
      ·cases q
       rw[hk'];exact AB
     ·exact .inl q
    ·exact .inr ⟨q1,Ax _ q2⟩
   ·rw[if_neg hk] at h
    rcases ih hn' h with q | ⟨q1,q2⟩
    ·exact .inl q
    ·exact .inr ⟨q1,Ax _ q2⟩
 intro names acc hn ha h;rcases gen hn h with q | q
 ·exact (ha _ q).elim
 ·exact q
theorem cf_mem:∀(names:List (Str×NameKind)) (h:Heap) (acc:List (Str×Addr)) (x:Str) (c:Addr),(x,c)∈Bg h.objs.size names acc->(x,c)∈acc \/ ((x,NameKind.cell)∈names/\h.objs.size<=c/\(pushCells h names).IsCell c none)
 | [],h,acc,x,c,hm=>.inl hm
 | (n,k)::r,h,acc,x,c,hm=>by
  rw[cellsFrom.eq_2] at hm;have ep:pushCells h ((n,k)::r)=if (k == NameKind.cell)=true then pushCells (h.push { cls:=Value.type "cell",data:=Data.cell none }) r else pushCells h r:=rfl
  by_cases hk:(k == NameKind.cell)=true
  ·have hk':k=.cell:=by cases k <;> first | rfl | cases hk
   rw[if_pos hk] at hm;rw[ep,if_pos hk];have es:(h.push { cls:=Value.type "cell",data:=Data.cell none }).objs.size=h.objs.size+1:=Heap.size_push ..;rw[<- es] at hm;rcases cf_mem r _ _ x c hm with q | ⟨q1,q2,q3⟩
   ·rcases List.mem_cons.mp q with q | q
    ·cases q
     refine .inr ⟨by rw[hk']; exact AB,Af _,_,pushCells_keeps r _ _ _ (Al _ rfl),rfl⟩
    ·exact .inl q
   ·rw[es] at q2
    exact .inr ⟨Ax _ q1,Nat.le_of_succ_le q2,q3⟩
  ·rw[if_neg hk] at hm
   rw[ep,if_neg hk];rcases cf_mem r h acc x c hm with q | ⟨q1,q2,q3⟩
   ·exact .inl q
   ·exact .inr ⟨Ax _ q1,q2,q3⟩
theorem zh4:∀(names:List (Str×NameKind)) (n:Nat) (acc:List (Str×Addr)),(∀x y c,(x,c)∈acc->(y,c)∈acc->x=y)->(∀p∈acc,p.2<n)->∀x y c,(x,c)∈Bg n names acc->(y,c)∈Bg n names acc->x=y
 | [],n,acc,hi,_,x,y,c,h1,h2=>hi x y c h1 h2
 | (m,k)::r,n,acc,hi,hl,x,y,c,h1,h2=>by
  rw[cellsFrom.eq_2] at h1 h2
  by_cases hk:(k == NameKind.cell)=true
  ·rw[if_pos hk] at h1 h2
   refine zh4 r (n+1) ((m,n)::acc) (fun x y c p q=>?_) (fun p hp=>?_) x y c h1 h2
   ·rcases List.mem_cons.mp p with p | p <;> rcases List.mem_cons.mp q with q | q
    ·cases p; cases q; rfl
    ·cases p
     have:n<n:=hl _ q;omega
    ·cases q
     have:n<n:=hl _ p;omega
    ·exact hi x y c p q
   ·rcases List.mem_cons.mp hp with rfl | hp
    ·exact Nat.lt_succ_self _
    ·exact AL (hl p hp)
  ·rw[if_neg hk] at h1 h2
   exact zh4 r n acc hi hl x y c h1 h2
theorem zgc {M:Model}{A:Around}{E:Value->Shared->Prop}{s:Shared}{scope:Scope}{globals:Addr}{cl:List (Str×Addr)}{qual:Str}{env:Env}{Q:Env->Shared->Prop}
  (h:∀h₁:Heap,(h₁.Ns s.heap.objs.size fun _=>none)->(∀b o,s.heap.get? b=some o->h₁.get? b=some o)->
   (∀x c,(x,c)∈Bg (s.heap.objs.size+1) scope.names cl->(x,c)∈cl \/ ((x,NameKind.cell)∈scope.names/\s.heap.objs.size+1<=c/\h₁.IsCell c none))->
   Q (newEnv scope s.heap.objs.size globals (Bg (s.heap.objs.size+1) scope.names cl) qual none .none (some env) builtinsNs) { s with heap:=h₁ }) :
  wpAny M A (newFunctionEnv scope globals cl [] qual none Value.none (some env)) Q E s:=by
 unfold newFunctionEnv;refine Aa (wpAny_alloc ?_);refine Aa (wpAny_layCells _ (fun name kind cells=>rfl) scope.names cl _ _ ?_);have es:(s.heap.push { cls:=Value.type "dict",data:=Data.dict #[] }).objs.size=s.heap.objs.size+1:=Heap.size_push ..;have:=h (pushCells (s.heap.push { cls:=Value.type "dict",data:=Data.dict #[] }) scope.names) ((Heap.Ns.new s.heap (.type "dict")).keeps fun b o e=>pushCells_keeps _ _ _ _ e) (fun b o e=>pushCells_keeps _ _ _ _ (Ad _ e)) (fun x c hm=>by
  rw[<- es] at hm ⊢;exact cf_mem scope.names _ cl x c hm)
 show wpAny M A _ _ _ _;refine Aa (Ac ?_);refine Ac ?_;rw[<- es] at this;exact this
def cxD (X:Cx) (scope:Scope) (N:List Str) (cl:List (Str×Addr)) (C:Addr) (s₀:Shared) (H₀:Hp) (ex:List Addr):Cx:={ cxC X scope N cl C s₀ H₀ ex with fn:=fun x=>decide (scope.names.lookup x=some .cell) }
section
variable {X:Cx}{scope:Scope}{N':List Str}{caps:List (Option Nat)}{tg iter elt:Expr}{ifs:List Expr}{wi:TI}{g:TG}{tc:TT}{te:TE}{pos:Pos}
theorem ziA (hc:X.calm=true) (hk:scope.kind=.function) (hcellL:∀y∈scope.names,y.2=.cell->scope.names.lookup y.1=some .cell) (hfreeL:∀y∈scope.names,y.2=.free->scope.names.lookup y.1=some .free) (hnames:∀y∈scope.names,y.2=.local->scope.names.lookup y.1=some .local)
  (hfr:∀y∈scope.names,y.2=.free->X.env.kindOf y.1=some .cell \/ X.env.kindOf y.1=some .free) (hcap:zgS X.N N' caps scope)
  (hi:PI X tg iter wi) (hg:∀cl C s₀ H₀ ex,PG (cxD X scope N' cl C s₀ H₀ ex) tg g) (ht:∀cl C s₀ H₀ ex,PTL (cxD X scope N' cl C s₀ H₀ ex) ifs tc) (he:∀cl C s₀ H₀ ex,PE (cxD X scope N' cl C s₀ H₀ ex) elt te)
  (hs:∀x,foldedSetIterable iter X.env x=pure x:=by intro _; rfl):PE X (.ListComp elt [⟨tg,iter,ifs,0⟩] scope pos) (tLC wi caps g tc te):=by
 intro pins s σ H Q I h;have hcl:∀y∈scope.names,y.2=.free->∃c,X.env.cells.lookup y.1=some c:=fun y hy e=>I.ok.has y.1 (hfr y hy e);rw[eval_ListComp];refine wpAny_comprehension_free (use:=none) rfl hs (zcX hcl) hk hnames ?_;refine thn (hi pins s σ H _ I h) fun xv s1 h1=>thn h1 fun itv s2 h2=>?_;obtain⟨it,fp,tn,J,H2,e,I2,T,st2,f2,q⟩:=h2;subst e;have hf2:H2 s2.heap.objs.size=none:=I2.hok.fresh (Af _);obtain⟨W,⟨m0,w0⟩,turn⟩:=q s2.heap.objs.size hf2;refine AO (zgc fun h₁ hns₁ hold₁ hown₁=>?_);dsimp only at hns₁ hold₁ hown₁ ⊢;generalize hD:s2.heap.objs.size=D at *;obtain⟨s3,e3⟩:∃s3:Shared,s3={ s2 with heap:=s2.heap.push { cls:=.type "list",dict:=none,data:=.seq ([]:List Value).toArray } }:=⟨_,rfl⟩;have h3:s3.heap=s2.heap.push { cls:=.type "list",dict:=none,data:=.seq ([]:List Value).toArray }:=by rw[e3]
 rw[<- h3] at hns₁ hold₁ hown₁ ⊢;have hD3:s3.heap.objs.size=D+1:=by rw[h3,Heap.size_push,hD]
 have I3:Inv X pins σ (upd H2 D (.lst [])) s3:=by
  rw[e3,<- hD];exact I2.lnew (t':=s2.toks) (ys:=[]) .nil (AV _)
 obtain⟨Xc,eX⟩:∃Xc,Xc=cxD X scope N' (Bg (s3.heap.objs.size+1) scope.names (clOf X.env.cells scope.names [])) s3.heap.objs.size s3 (upd H2 D (.lst [])) fp:=⟨_,rfl⟩;have hg':PG Xc tg g:=by rw[eX]; exact hg _ _ _ _ _
 have ht':PTL Xc ifs tc:=by rw[eX]; exact ht _ _ _ _ _
 have he':PE Xc elt te:=by rw[eX]; exact he _ _ _ _ _
 have xP:Xc.prog=X.prog:=by rw[eX]; rfl
 have xw:Xc.w=X.w:=by rw[eX]; rfl
 have xK:Xc.K=X.K:=by rw[eX]; rfl
 have xA:Xc.A=X.A:=by rw[eX]; rfl
 have xc:Xc.calm=true:=by rw[eX]; exact hc
 have xe:Xc.env=compEnvC scope (Bg (s3.heap.objs.size+1) scope.names (clOf X.env.cells scope.names [])) s3.heap.objs.size X.env:=by rw[eX]; rfl
 have xE:Xc.xe=fun _ _=>False:=by rw[eX]; rfl
 have hcin:∀x c,(Bg (s3.heap.objs.size+1) scope.names (clOf X.env.cells scope.names [])).lookup x=some c->(X.env.cells.lookup x=some c/\scope.names.lookup x=some .free) \/ (scope.names.lookup x=some .cell/\s3.heap.objs.size+1<=c/\h₁.IsCell c none):=fun x c e=>by
  rcases hown₁ x c (A3 e) with q | ⟨q1,q2,q3⟩
  ·obtain⟨q4,q5⟩:=zaT hcl (fun p hp=>absurd hp (by simp)) q
   exact .inl ⟨q4,hfreeL _ q5 rfl⟩
  ·exact .inr ⟨hcellL _ q1 rfl,q2,q3⟩
 have hlow:∀p∈clOf X.env.cells scope.names [],p.2<s3.heap.objs.size+1:=fun p hp=>by
  obtain⟨q4,_⟩:=zaT hcl (fun p hp=>absurd hp (by simp)) (x:=p.1) (c:=p.2) hp;obtain⟨v,o,ho,_⟩:=I3.cell p.1 p.2 q4;exact AL (Ah ho)
 have hfd:∀b∈fp,b≠D/\b<D:=fun b hb=>by
  obtain⟨ob,eb,_⟩:=T.obj 0 _ st2 b hb;have:=Ah eb;rw[hD] at this;exact⟨An this,this⟩
 have hfs:∀b∈frs X.stack,b<D:=fun b hb=>by
  obtain⟨_,ob,eb,_⟩:=I2.stack.mem hb;have:=Ah eb;rw[hD] at this;exact this
 have hold:∀b o,s3.heap.get? b=some o->h₁.get? b=some o:=hold₁;have hCf:(upd H2 D (.lst [])) s3.heap.objs.size=none:=I3.hok.fresh (Af _);have Ic:Inv Xc pins (zdC caps σ) (upd H2 D (.lst [])) { s3 with heap:=h₁ }:=by
  have okc:Xc.Ok:=by
   rw[eX];refine⟨I.ok.mod,hk,I.ok.glob,I.ok.blt,Af _,fun x y c a b=>zh4 scope.names _ _ (fun x y c p q=>I.ok.inj x y c (zaT hcl (fun p hp=>absurd hp (by simp)) p).1 (zaT hcl (fun p hp=>absurd hp (by simp)) q).1) hlow x y c (A3 a) (A3 b),fun x hx=>?_,(fun x c a e=>by
    rcases hcin x c e with ⟨_,q⟩ | ⟨_,q,_⟩
    ·have a':=of_decide_eq_true a
     rw[q] at a'; cases a'
    ·exact Nat.le_of_succ_le q),I.ok.hd,I.ok.frames,.inl rfl,fun b hb=>⟨?_,fun x c e=>?_⟩,fun b o e=>?_,?_,fun b o e z=>?_,fun b hb z=>?_,?_,fun b hb=>?_⟩
   ·have hx':(relabel scope X.env).names.lookup x=some .cell \/ (relabel scope X.env).names.lookup x=some .free:=hx
    have key:∃k',scope.names.lookup x=some k'/\(k'=.free \/ k'=.cell):=by
     rcases hx' with q | q
     ·obtain⟨k',e1,e2⟩:=zaE q
      rcases e2 with e2 | ⟨e2,_⟩
      ·exact⟨k',e1,.inr e2.symm⟩
      ·exact⟨k',e1,.inl e2⟩
     ·obtain⟨k',e1,e2⟩:=zaE q
      rcases e2 with e2 | ⟨e2,_⟩
      ·exact⟨k',e1,.inl e2.symm⟩
      ·exact⟨k',e1,.inl e2⟩
    obtain⟨k',e1,e2⟩:=key;have hm:=A3 e1;rcases e2 with rfl | rfl
    ·obtain⟨c,hc'⟩:=zbl (cells:=X.env.cells) (acc:=[]) (.inl hm)
     obtain⟨d,hd⟩:=zJ hc';exact Option.isSome_iff_exists.mp (PySem.W.cellsFrom_some scope.names (s3.heap.objs.size+1) _ (.inr (by rw[hd]; rfl)))
    ·exact Option.isSome_iff_exists.mp (PySem.W.cellsFrom_some scope.names (s3.heap.objs.size+1) _ (.inl e1))
   ·show b≠s3.heap.objs.size
    exact An (by rw[hD3]; exact AL (hfd b hb).2)
   ·rcases hcin x c e with ⟨q,_⟩ | ⟨_,q,_⟩
    ·exact (f2 b hb).2.2.2.2.1 x c q
    ·have h1:b<s3.heap.objs.size+1:=by rw[hD3]; exact AL (AL (hfd b hb).2)
     exact Nat.ne_of_gt (AD h1 q)
   ·exact I3.bs b o e
   ·exact AF I.ok.bsz I3.sz
   ·obtain⟨f,_,_,fx,_,_⟩:=f2 b z
    rcases fx with fx | fx
    ·exact I.ok.noex b o e fx
    ·have:=AD (Ah e) I.ok.bsz
     omega
   ·rcases List.mem_cons.mp (I2.stkSub b z) with r | r
    ·exact (f2 b hb).2.1 r
    ·exact (f2 b hb).2.2.1 r
   ·exact I3.stack
   ·exact I3.stkFree b hb
  refine⟨okc,(by rw[eX]; rfl),I3.bare,?_,?_,fun x c e=>?_,?_,fun x c e=>?_,fun p hp=>?_,?_,?_⟩
  ·rw[eX]
   exact Un.kept hold
  ·rw[xe]
   refine⟨_,hns₁,fun i x v e1 e2 e3=>?_⟩;obtain⟨c1,c2⟩:=hcap;unfold zdC at e2;rw[Ap] at e2;cases e4:caps[i]? with
   | none=>rw[e4] at e2; cases e2
   | some cc=>
    rw[e4] at e2;cases cc with
    | none=>cases e2
    | some j=>
     obtain⟨y,d1,d2,d3⟩:=c2 i j e4;have e1':N'[i]?=some x:=by rw[eX] at e1; exact e1
     rw[d1] at e1';have exy:y=x:=Ao e1';subst exy;have e5:σ[j]?=some (some v):=by
      simp only[Option.map_some,Option.some.injEq] at e2;cases e6:σ[j]? with
      | none=>rw[e6] at e2; cases e2
      | some ov=>rw[e6] at e2; simp only[Option.getD_some] at e2; rw[e2]
     have hm:=A3 d3;have vis:Vis X.env.scope y:=by
      rcases hfr _ hm rfl with q | q
      ·exact .inr (.inl q)
      ·exact .inr (.inr q)
     obtain⟨m,_,hl⟩:=I3.loc;obtain⟨u,ru,lk⟩:=hl j y v d2 e5 vis;refine⟨u,ru,?_⟩;have lk2:∃c,X.env.cells.lookup y=some c/\s3.heap.IsCell c (some u):=by
      rcases lk with ⟨k1,_⟩ | ⟨_,c,k2,k3⟩
      ·rcases hfr _ hm rfl with q | q
       ·rw[k1] at q; cases q
       ·rw[k1] at q; cases q
      ·exact⟨c,k2,k3⟩
     obtain⟨c,k2,k3⟩:=lk2;obtain⟨d,hd'⟩:=zbl (cells:=X.env.cells) (acc:=[]) (.inl hm);obtain⟨d',hd2⟩:=zJ hd';obtain⟨d2,hd3⟩:=Option.isSome_iff_exists.mp (PySem.W.cellsFrom_some scope.names (s3.heap.objs.size+1) (clOf X.env.cells scope.names []) (x:=y) (.inr (by rw[hd2]; rfl)));have:c=d2:=by
      rcases hcin y d2 hd3 with ⟨q,_⟩ | ⟨q,_⟩
      ·rw[k2] at q
       exact Ao q
      ·rw[d3] at q; cases q
     subst this;refine .inr ⟨?_,c,hd3,k3.keeps hold⟩;have rl:=zaz (scope:=scope) (env:=X.env) (x:=y) (names:=scope.names) (.inl d3);rcases rl with q | q
     ·exact .inr q
     ·exact .inl q
  ·rw[xe] at e
   rcases hcin x c e with ⟨q,_⟩ | ⟨_,_,q⟩
   ·obtain⟨v,k3⟩:=I3.cell x c q
    exact⟨v,k3.keeps hold⟩
   ·exact⟨_,q⟩
  ·rw[xe]; exact hCf
  ·rw[xe] at e
   rcases hcin x c e with ⟨q,_⟩ | ⟨_,q,_⟩
   ·exact I3.freeC x c q
   ·exact I3.hok.fresh (Nat.le_of_succ_le q)
  ·have hp':p∈X.pn++pins:=by rw[eX] at hp; exact hp
   obtain⟨a1,a2,a3,a4,a5⟩:=I3.pin p hp';refine⟨hold _ _ a1,a2,?_,?_,a5⟩
   ·rw[xe]
    show p.1≠s3.heap.objs.size;exact An (Ah a1)
   ·rw[eX]
    intro z;rcases List.mem_cons.mp (I3.stkSub p.1 z) with r | r
    ·exact a3 r
    ·exact a4 r
  ·rw[xP,xw]
   exact I3.hok.kept hold
  ·unfold zdC
   rw[Ab,hcap.1,eX]
   rfl
 have leave:∀{σ':St} {H':Hp} {s4:Shared} {h':Heap},Inv Xc pins σ' H' s4->A2 s3.heap.objs.size s4.heap h'->Inv X pins σ H' { s4 with heap:=h' }:=fun {σ' H' s4 h'} I4 hs'=>by
  have hlt:∀b o,s2.heap.get? b=some o->b≠D/\b≠s3.heap.objs.size:=fun b o e=>by
   have hb:=Ah e;rw[hD] at hb;exact⟨An hb,An (by rw[hD3]; exact AL hb)⟩
  have up3:∀b o,s2.heap.get? b=some o->s3.heap.get? b=some o:=fun b o e=>by rw[h3]; exact Ad _ e
  have base:Un (frs X.stack) fp (upd H2 D (.lst [])) H' s3.heap s4.heap:=by
   have:=I4.base;rw[eX] at this;exact this
  have hCn:H' s3.heap.objs.size=none:=by
   have:=I4.free;rw[xe] at this;exact this
  have os4:s4.os=s2.os:=by
   have:=I4.os;rw[eX] at this;rw[this];show s3.os=s2.os;rw[e3]
  refine I2.call' (s':={ s4 with heap:=h' }) (ch:=fp) os4 ⟨fun b o q n hb hx=>?_,fun b o q n hb hx=>?_,fun b o q n hx=>?_,fun b o q hx=>?_,fun b xs q=>?_,fun b o u q=>?_,fun b ps q=>?_⟩ ?_ I4.bare fun b hb=>?_
  ·obtain⟨n1,n2⟩:=hlt b o q
   exact (hs'.2 b n2).trans (base.keep b o (up3 b o q) (by rw[zk n1]; exact n) hb hx)
  ·obtain⟨n1,n2⟩:=hlt b o q
   obtain⟨sl,e⟩:=base.slot b o (up3 b o q) (by rw[zk n1]; exact n) hb hx;exact⟨sl,(hs'.2 b n2).trans e⟩
  ·obtain⟨n1,n2⟩:=hlt b o q
   exact base.free b o (up3 b o q) (by rw[zk n1]; exact n) hx
  ·obtain⟨n1,n2⟩:=hlt b o q
   obtain⟨o',e⟩:=base.there b o (up3 b o q) hx;exact⟨o',(hs'.2 b n2).trans e⟩
  ·exact base.tups b xs (by rw[zk (zg q hf2)]; exact q)
  ·exact base.frzs b o u (by rw[zk (zg q hf2)]; exact q)
  ·exact base.tbls b ps (by rw[zk (zg q hf2)]; exact q)
  ·intro b u e
   have hk4:=I4.hok b u e;rw[xP,xw] at hk4;refine hk4.stay (fun c v hc q=>(hs'.2 c ?_).trans q) (fun _ q=>q) fun _ _ q=>q;rintro rfl;rcases hc with z | z
   ·rw[<- z,hCn] at e; cases e
   ·rw[hCn] at z; cases z
  ·obtain⟨f0,f1,f3,f4,f5,f6⟩:=f2 b hb
   exact⟨f4,f1,f5,f6⟩
 have stat:∀{H':Hp},(∀b∈fp,H' b=none)->∀b∈fp,FpOk Xc pins H' b:=fun {H'} hn b hb=>by
  obtain⟨f0,f1,f3,f4,f5,f6⟩:=f2 b hb;refine⟨hn b hb,?_,?_,.inl (by rw[eX]; exact hb),fun x c e=>?_,fun p hp=>?_⟩
  ·rw[xe]
   show b≠s3.heap.objs.size;exact An (by rw[hD3]; exact AL (hfd b hb).2)
  ·rw[eX]
   intro z;rcases List.mem_cons.mp (I2.stkSub b z) with r | r
   ·exact f1 r
   ·exact f3 r
  ·rw[xe] at e
   rcases hcin x c e with ⟨q,_⟩ | ⟨_,q,_⟩
   ·exact f5 x c q
   ·have h1:b<s3.heap.objs.size+1:=by rw[hD3]; exact AL (AL (hfd b hb).2)
    exact Nat.ne_of_gt (AD h1 q)
  ·rw[eX] at hp
   exact f6 p hp
 subst eX;have loop:∀n s',(∃i σ' H',Inv (cxD X scope N' (Bg (s3.heap.objs.size+1) scope.names (clOf X.env.cells scope.names [])) s3.heap.objs.size s3 (upd H2 D (.lst [])) fp) pins σ' H' s'/\tn i s'.heap/\(∀b∈fp,H' b=none)/\W i n σ' H')->
   codeAny (model X.prog X.w) X.A (.compLoop (.ListComp elt [⟨tg,iter,ifs,0⟩] scope pos) 0 (.ref it) (.ref D) (compEnvC scope (Bg (s3.heap.objs.size+1) scope.names (clOf X.env.cells scope.names [])) s3.heap.objs.size X.env)) (compPost (model X.prog X.w) X.A X.xe none (EP X pins σ Q) (.ref D) s3.heap.objs.size) s':=by
  intro n0 s0' hI0;refine codeAny_loop rfl (fun n s'=>∃i σ' H',Inv (cxD X scope N' (Bg (s3.heap.objs.size+1) scope.names (clOf X.env.cells scope.names [])) s3.heap.objs.size s3 (upd H2 D (.lst [])) fp) pins σ' H' s'/\tn i s'.heap/\(∀b∈fp,H' b=none)/\W i n σ' H') (fun n s' hI=>?_) n0 hI0;obtain⟨i,σ',H',I',st',fr',w'⟩:=hI;show wpAny _ X.A ((compTurn (.ListComp elt [⟨tg,iter,ifs,0⟩] scope pos) 0 (.ref it) (.ref D) (compEnvC scope (Bg (s3.heap.objs.size+1) scope.names (clOf X.env.cells scope.names [])) s3.heap.objs.size X.env)).onRaise (fun x=>do noteFrame x (compEnvC scope (Bg (s3.heap.objs.size+1) scope.names (clOf X.env.cells scope.names [])) s3.heap.objs.size X.env); theTreesLotGoes x)) _ _ s';refine wpAny_noted ?_;rw[compTurn_list];refine Aa (wpAny_standAt (Aa ?_));rcases turn i n σ' H' w' with ⟨stop,qn⟩ | ⟨go,step⟩
  ·refine thn (T.done (cxD X scope N' (Bg (s3.heap.objs.size+1) scope.names (clOf X.env.cells scope.names [])) s3.heap.objs.size s3 (upd H2 D (.lst [])) fp) rfl rfl rfl hc i pins s' σ' H' _ I' (stat fr') st' stop) fun r s4 ⟨hr,I4⟩=>?_
   subst hr;refine Ac ?_;obtain⟨m,hn,_⟩:=id I4.loc;exact⟨m,hn,fun h' hs'=>⟨.ref D,H',leave I4 hs',rfl,qn⟩⟩
  ·refine thn (T.item (cxD X scope N' (Bg (s3.heap.objs.size+1) scope.names (clOf X.env.cells scope.names [])) s3.heap.objs.size s3 (upd H2 D (.lst [])) fp) rfl rfl rfl hc i pins s' σ' H' _ I' (stat fr') st' go) fun r s4 ⟨u,hr,h4⟩=>?_
   subst hr;refine Aa (thn h4 fun _ s5 ⟨x,H5,I5,r5,y5,st5,fr5⟩=>?_);have I5':=I5.pinned (stat fr5) (T.obj _ _ st5);refine Aa (Ba (hg' _ s5 σ' H5 x u _ I5' r5 (step x H5 y5)) (fun _ s6 h6=>?_) fun _ _ z=>z.elim);obtain⟨σ6,H6,I6,q6⟩:=h6;refine Aa (Ba (ht' _ s6 σ6 H6 _ I6 q6) (fun ok s7 h7=>?_) fun _ _ z=>z.elim);obtain⟨H7,I7,q7⟩:=h7;have again:∀{σ8:St} {H8:Hp} {s8:Shared} {m':Nat},Inv (cxD X scope N' (Bg (s3.heap.objs.size+1) scope.names (clOf X.env.cells scope.names [])) s3.heap.objs.size s3 (upd H2 D (.lst [])) fp) (pins++zc5 fp s5.heap) σ8 H8 s8->m'<n->W (i+1) m' σ8 H8->
     ∃m,m<n/\∃i σ' H',Inv (cxD X scope N' (Bg (s3.heap.objs.size+1) scope.names (clOf X.env.cells scope.names [])) s3.heap.objs.size s3 (upd H2 D (.lst [])) fp) pins σ' H' s8/\tn i s8.heap/\(∀b∈fp,H' b=none)/\W i m σ' H':=fun {σ8 H8 s8 m'} I8 hm w8=>by
    refine⟨m',hm,i+1,σ8,H8,I8.unpinned,T.keep _ _ _ st5 fun b hb o e=>(I8.pin (b,o) (AT _ (AT _ (zav hb e)))).1,fun b hb=>?_,w8⟩;obtain⟨o,e,d⟩:=T.obj _ _ st5 b hb;exact (I8.pin (b,o) (AT _ (AT _ (zav hb e)))).2.1
   cases ok with
   | false=>
    obtain⟨m',hm,w7⟩:=q7;exact Ac ⟨rfl,again I7 hm w7⟩
   | true=>
    refine Aa (Aa (Ba (he' _ s7 σ6 H7 _ I7 q7) (fun v s8 h8=>?_) fun _ _ z=>z.elim));obtain⟨y,H8,I8,r8,ys,m',hD8,hl8,hm8,w8⟩:=h8;refine Aa (Ba (zax (X:=cxD X scope N' (Bg (s3.heap.objs.size+1) scope.names (clOf X.env.cells scope.names [])) s3.heap.objs.size s3 (upd H2 D (.lst [])) fp) _ s8 σ6 H8 (.ref D) [y] (.ref D) [v] (fun _ H9=>H9=upd H8 D (.lst (ys++[y]))) I8 rfl (.cons r8 .nil) ⟨D,ys,y,rfl,rfl,hD8,hl8,rfl⟩) (fun _ s9 h9=>?_) fun _ _ z=>z.elim);obtain⟨_,H9,I9,_,e9⟩:=h9;subst e9;exact Ac (Ac ⟨rfl,again I9 hm8 w8⟩)
 have start:∃i σ' H',Inv (cxD X scope N' (Bg (s3.heap.objs.size+1) scope.names (clOf X.env.cells scope.names [])) s3.heap.objs.size s3 (upd H2 D (.lst [])) fp) pins σ' H' { s3 with heap:=h₁ }/\tn i ({ s3 with heap:=h₁ }:Shared).heap/\(∀b∈fp,H' b=none)/\W i m0 σ' H':=by
  refine⟨0,zdC caps σ,upd H2 D (.lst []),Ic,T.keep 0 _ _ st2 fun b hb o e=>hold b o (by rw[h3]; exact Ad _ e),fun b hb=>?_,w0⟩;rw[zk (hfd b hb).1];exact (f2 b hb).1
 have es:({ s2 with heap:=h₁ }:Shared)={ s3 with heap:=h₁ }:=by rw[e3]
 show codeAny (model X.prog X.w) X.A _ _ ({ s2 with heap:=h₁ }:Shared);rw[es];refine codeAny_compStart_list (loop m0 _ start) (T.self _ 0 _ _ _ ?_ (loop m0 _ start));exact T.keep 0 _ _ st2 fun b hb o e=>hold b o (by rw[h3]; exact Ad _ e)
end
end L2
end
section
namespace PySem.RvT
open PyProof.Rows
theorem zah:Slot "reversed" "__next__" "reversed.__next__":=
 .of (owner:="reversed") (n:="__next__") (by rw[typeLookup_type,builtinLookup_eq_fast]; kernel_rfl) (by decide +kernel) (by decide +kernel) (by decide +kernel)
  (by first | exact .inl (by decide +kernel) | exact .inr (by decide +kernel)) (by rw[isSubtype_type]; kernel_rfl)
theorem zbq:entryFor table "reversed.__next__"=some Builtin.«reversed.__next__»:=entryFor_of_tree (by kernel_rfl)
theorem za6 (a:Value):argsOk "reversed.__next__" ⟨[a],[]⟩:=by unfold argsOk; kernel_rfl
theorem zbH:Slot "reversed" "__iter__" "reversed.__iter__":=
 .of (owner:="reversed") (n:="__iter__") (by rw[typeLookup_type,builtinLookup_eq_fast]; kernel_rfl) (by decide +kernel) (by decide +kernel) (by decide +kernel)
  (by first | exact .inl (by decide +kernel) | exact .inr (by decide +kernel)) (by rw[isSubtype_type]; kernel_rfl)
theorem zcN (a:Value):argsOk "reversed.__iter__" ⟨[a],[]⟩:=by unfold argsOk; kernel_rfl
theorem zcW:entryFor table "reversed.__iter__"=some Builtin.«dict_keyiterator.__iter__»:=
 entryFor_alias (id':="dict_keyiterator.__iter__") (by kernel_rfl) (by first | rfl | decide +kernel | (unfold String.splitOn; simp +decide [String.splitOnAux])) (by decide +kernel) (by kernel_rfl)
theorem zig:typeLookup (.type "tuple") "__reversed__"=pure none:=by rw[typeLookup_type,builtinLookup_eq_fast]; kernel_rfl
theorem zek:isSubtype (.type "tuple") (.type "dict")=pure false:=by rw[isSubtype_type]; kernel_rfl
theorem zdj:Slot "reversed" "__init__" "object.__init__":=
 .of (owner:="object") (n:="__init__") (by rw[typeLookup_type,builtinLookup_eq_fast]; kernel_rfl) (by decide +kernel) (by decide +kernel) (by decide +kernel)
  (by first | exact .inl (by decide +kernel) | exact .inr (by decide +kernel)) (by rw[isSubtype_type]; kernel_rfl)
theorem zbZ:TypeCalled "reversed" "reversed.__new__" "object.__init__":=
 ⟨by decide +kernel,by decide +kernel,⟨_,_,F.mro_reversed⟩,F.made_reversed,by decide +kernel,F.sub_reversed_self,zdj⟩
def revT (t:Addr) (i:Int):Obj:={ cls:=.type "reversed",data:=.fields #[.ref t,rawInt i] }
def IsRT (h:Heap) (a t:Addr) (i:Int):Prop:=∃o,h.get? a=some o/\o.cls=.type "reversed"/\o.data=.fields #[.ref t,rawInt i]
section
variable {prog:Program}{w:World}{A:Around}{E:Value->Shared->Prop}{s:Shared}
theorem IsRT.typeIs {a t:Addr}{i:Int} (x:IsRT s.heap a t i):s.TypeIs (.ref a) "reversed":=let ⟨o,ho,hc,_⟩:=x; ⟨o,ho,hc⟩
theorem IsRT.at {h h':Heap}{a l:Addr}{i:Int} (x:IsRT h a l i) (e:∀o,h.get? a=some o->h'.get? a=some o):IsRT h' a l i:=let ⟨o,ho,r⟩:=x; ⟨o,e _ ho,r⟩
theorem zio {t:Addr}{items:Array Value}{Q₁:Value->Shared->Prop} (ht:IsTup s.heap t items) (hz:items.size<=sizeLine)
  (h:∀tk,Q₁ (.ref s.heap.objs.size) { s with heap:=s.heap.push (revT t ((items.size:Int) - 1)),toks:=tk }) :
  codeAny (model prog w) A (.call (.builtin "reversed.__new__") ⟨[.type "reversed",.ref t],[]⟩) (wants Q₁ E) s:=by
 refine codeAny_of_tree ?_;show wpAny _ A.in1 (do checkBuiltinCall "reversed.__new__" ⟨[.type "reversed",.ref t],[]⟩; again (.builtin "reversed.__new__" ⟨[.type "reversed",.ref t],[]⟩)) _ _ s;refine Aa (wpAny_of_eq (F.newCall_reversed_1 _) (Ac ⟨plainId_quiet F.plain_reversed_new _,A6 F.entry_reversed_new ?_⟩));rw[A1 F.plain_reversed_new _];unfold Builtin.«reversed.__new__»;refine Aa (wpAny_of_eq (newClass_reversed _) ?_)
 try dsimp only
 refine Aa (wpAny_of_eq (a:=()) (by first | rfl | kernel_rfl) ?_);refine Aa (wpAny_of_eq (a:=()) (by first | rfl | kernel_rfl) ?_)
 try dsimp only
 refine Aa (wpAny_specialOf ht.typeIs zig ?_)
 try dsimp only
 refine Aa (Ba (Q:=fun b s'=>b=true/\s'=s) (E:=fun _ _=>False) ?slot ?rest fun _ _ z=>z.elim)
 case slot=>
  show wpAny _ _ (isInstance (.ref t) (.type "dict") >>= _) _ _ s;refine Aa (wpAny_isInstance ht.typeIs zek ?_)
  try dsimp only
  simp only[Aj,if_false];refine Aa (wpAny_specialOf ht.typeIs PyProof.Rows.slot_tuple_getitem.lookup ?_)
  try dsimp only
  rw[if_pos (by decide +kernel)];exact Ac ⟨rfl,rfl⟩
 case rest=>
  rintro b s' ⟨rfl,rfl⟩;simp only[Bool.not_true,Aj,if_false];refine Aa (len_tuple ht (by rw[sizeLine_eq] at hz; omega) ?_);refine Aa (m:=asInt? _) (Ac ?_)
  try dsimp only
  refine Aa ?_;show wpAny _ _ (newObj (.type "reversed") (.fields #[.ref t,rawInt ((items.size:Int) - 1)])) _ _ _;refine AO (Ac ?_);exact h _
theorem zb4 {t:Addr}{items:Array Value}{Q:Value->Shared->Prop} (ht:IsTup s.heap t items) (hz:items.size<=sizeLine)
  (h:∀tk,Q (.ref s.heap.objs.size) { s with heap:=s.heap.push (revT t ((items.size:Int) - 1)),toks:=tk }):wpAny (model prog w) A (call (.type "reversed") [.ref t]) Q E s:=by
 refine callType_codes (Q₁:=fun obj s₁=>s₁.TypeIs obj "reversed"/\Q obj s₁) zbZ (F.typeCall_reversed_1 _) F.entry_object_init (zio ht hz fun tk=>⟨⟨_,Al _ rfl,rfl⟩,h tk⟩) fun obj s₁ h₁=>?_;exact⟨h₁.1,F.args_object_init_2 obj _,object_init_meets zbZ.init.lookup zbZ.made (by decide) prog w A.in1 _ s₁ ⟨h₁.1,rfl,h₁.2⟩⟩
theorem next_item {it t:Addr}{i:Nat}{items:Array Value}{x:Value}{Q:Option Value->Shared->Prop} (hit:IsRT s.heap it t (i:Int)) (ht:IsTup s.heap t items) (hx:items[i]?=some x) (hz:items.size<=sizeLine)
  (hQ:∀h' tk,IsRT h' it t ((i:Int) - 1)->A2 it s.heap h'->Q (some x) { s with heap:=h',toks:=tk }):wpAny (model prog w) A (pyNext (.ref it)) Q E s:=by
 obtain⟨o,ho,hc,hd⟩:=id hit;unfold pyNext;refine Aa (wpAny_attempt (AX (name:=Str.ofString "__next__") hit.typeIs zah
  (AR zah hit.typeIs zbq ?_ (za6 _))))
 unfold Builtin.«reversed.__next__»;refine Aa (wpAny_of_eq (a:=(Value.ref it,[])) rfl ?_)
 try dsimp only
 refine Aa (AU ho hd (x:=.ref t) rfl ?_);refine Aa (AU ho hd (x:=rawInt (i:Int)) rfl ?_);show wpAny _ _ (if (i:Int)<0 then _ else _) _ _ s;rw[if_neg (by omega)];refine Aa (wpAny_specialOf ht.typeIs PyProof.Rows.slot_tuple_getitem.lookup ?_);simp only[Option.isNone_some,Aj,if_false];have hi:i<items.size:=(Array.getElem?_eq_some_iff.mp hx).1;have hsi:seqIndex? (i:Int) items.size=some i:=by
  unfold seqIndex?;simp;omega
 refine Aa (wpAny_mkInt ?_);refine Aa (wpAny_attempt (getItem_tuple (s:={ s with toks:=s.toks+1 }) (j:=i) ht (by omega) (by rw[sizeLine_eq] at hz; omega) hsi hx ?_))
 try dsimp only
 refine Aa (AU (s:={ s with toks:=s.toks+1 }) ho hd (x:=rawInt (i:Int)) rfl ?_);show wpAny _ _ (setField (.ref it) 1 (rawInt ((i:Int) - 1)) >>= _) _ _ _;refine Aa (wpAny_setField (s:={ s with toks:=s.toks+1 }) ho hd (by simp) ?_);refine Ac ⟨x,rfl,Ac (hQ _ _ ?_ (AZ ..))⟩;exact⟨_,Heap.get?_update_self _ ho (Obj.isFreed_of_fields (A8 hd _)),(Obj.cls_mapFields ..).trans hc,by
  rw[A8 hd]; simp⟩
theorem next_end {it t:Addr}{Q:Option Value->Shared->Prop} (hh:A.handled=none) (hit:IsRT s.heap it t (-1))
  (hQ:∀h',(∀b o,b≠it->s.heap.get? b=some o->h'.get? b=some o)->Q none { s with heap:=h' }):wpAny (model prog w) A (pyNext (.ref it)) Q E s:=by
 obtain⟨o,ho,hc,hd⟩:=id hit;unfold pyNext;refine Aa (wpAny_attempt (AX (name:=Str.ofString "__next__") hit.typeIs zah
  (AR zah hit.typeIs zbq ?_ (za6 _))))
 unfold Builtin.«reversed.__next__»;refine Aa (wpAny_of_eq (a:=(Value.ref it,[])) rfl ?_)
 try dsimp only
 refine Aa (AU ho hd (x:=.ref t) rfl ?_);refine Aa (AU ho hd (x:=rawInt (-1)) rfl ?_);show wpAny _ _ (if (-1:Int)<0 then _ else _) _ _ s;rw[if_pos (by decide)];refine Aa (wpAny_rule ?_);refine Aa ?_;show wpAny _ _ (setField (.ref it) 1 (rawInt (-1)) >>= fun _=>setField (.ref it) 0 .none) _ _ _;refine Aa (wpAny_setField ho hd (by simp) ?_);have ho2:=Heap.get?_update_self (Obj.mapFields fun vs=>vs.setIfInBounds 1 (rawInt (-1))) ho (Obj.isFreed_of_fields (A8 hd _));have hd2:(Obj.mapFields (fun vs=>vs.setIfInBounds 1 (rawInt (-1))) o).data=.fields #[.ref t,rawInt (-1)]:=by rw[A8 hd]; simp
 refine wpAny_setField ho2 hd2 (by simp) ?_;refine Aa ?_;show wpAny _ _ (newExc (.type "StopIteration") [] >>= _) _ _ _;refine Aa ?_;simp only[newExc,newTuple];refine Aa (AO ?_ (by size_fits));refine Aa (m:=firstArgMember _ _) (wpAny_of_eq (a:=Value.none) (by first | rfl | (simp only[firstArgMember]; rfl)) ?_);refine AO ?_ (by size_fits);simp only[raiseNew];refine Aa (wpAny_handled ?_)
 first | rw[show A.in1.handled=none from hh] | rw[hh]
 refine Aa (Ac (wpAny_throw ?_));refine Aa (wpAny_isInstance (T:="StopIteration") (b:=true) ⟨_,Al _ rfl,rfl⟩ isSubtype_stop ?_);refine Ac (hQ _ fun b ob hb e=>?_);refine Ad _ (Ad _ ?_);rw[Heap.get?_update_ne _ _ _ _ hb,Heap.get?_update_ne _ _ _ _ hb];exact e
theorem zea {it t:Addr}{i:Int}{Q:Value->Shared->Prop} (hit:IsRT s.heap it t i) (h:Q (.ref it) s):wpAny (model prog w) A (pyIter (.ref it)) Q E s:=by
 refine wpAny_pyIter_slot hit.typeIs zbH (AR zbH hit.typeIs zcW ?_ (zcN _));show wpAny _ _ (ret (.ref it)) _ _ s;exact Ac ⟨_,rfl,"reversed",_,hit.typeIs,zah.lookup,h⟩
end
section
variable {prog:Program}{w:World}{A:Around}{E:Value->Shared->Prop}{s:Shared}
end
end PySem.RvT
namespace L2
open PySem PySem.Spec PyProof.Rows
section
variable {X:Cx}
end
end L2
end
section
namespace L2
open PySem PySem.Spec PyProof.Rows
section
variable {X:Cx}{scope:Scope}{caps:List (Option Nat)}{tg iter elt:Expr}{ifs:List Expr}{wi:TI}{g:TG}{tc:TT}{te:TE}{pos:Pos}
theorem zgJ (N N':List Str) (caps:List (Option Nat)) (hi:PI X tg iter wi) (hg:∀cl C s₀ H₀ ex,PG (cxD X scope N' cl C s₀ H₀ ex) tg g) (ht:∀cl C s₀ H₀ ex,PTL (cxD X scope N' cl C s₀ H₀ ex) ifs tc) (he:∀cl C s₀ H₀ ex,PE (cxD X scope N' cl C s₀ H₀ ex) elt te)
  (hc:X.calm=true:=by rfl) (hk:scope.kind=.function:=by rfl) (hcellL:∀y∈scope.names,y.2=.cell->scope.names.lookup y.1=some .cell:=by decide +kernel) (hfreeL:∀y∈scope.names,y.2=.free->scope.names.lookup y.1=some .free:=by decide +kernel)
  (hnames:∀y∈scope.names,y.2=.local->scope.names.lookup y.1=some .local:=by decide +kernel)
  (hfr:∀y∈scope.names,y.2=.free->X.env.kindOf y.1=some .cell \/ X.env.kindOf y.1=some .free) (hN:X.N=N:=by rfl) (hcap:capB N N' caps scope=true:=by decide +kernel)
  (hs:∀x,foldedSetIterable iter X.env x=pure x:=by intro _; rfl):PE X (.ListComp elt [⟨tg,iter,ifs,0⟩] scope pos) (tLC wi caps g tc te):=
 ziA hc hk hcellL hfreeL hnames hfr (zdk (by rw[hN]; exact hcap)) hi hg ht he hs
end
theorem zmX {env env0:Env}{scope osc:Scope} (hsc:env.scope=relabel osc env0) (h:scope.names.all (fun y=>decide (y.2≠.free) || decide (osc.names.lookup y.1=some .cell) || decide (osc.names.lookup y.1=some .free))=true):∀y∈scope.names,y.2=.free->env.kindOf y.1=some .cell \/ env.kindOf y.1=some .free:=by
 intro y hy e;have:=List.all_eq_true.mp h y hy;simp only[Bool.or_eq_true,decide_eq_true_eq] at this;have key:osc.names.lookup y.1=some .free \/ osc.names.lookup y.1=some .cell:=by
  rcases this with (q | q) | q
  ·exact absurd e q
  ·exact .inr q
  ·exact .inl q
 have:=zaz (scope:=osc) (env:=env0) key;unfold Env.kindOf;rw[hsc];rcases this with q | q
 ·exact .inr q
 ·exact .inl q
end L2
end
section
namespace K52
open K1
open PySem L2 STb
abbrev zan:Stmt:=top 44
theorem zfq (q:Int):∀os:List Int,inV (.int q) (os.map V.int)=decide (q∈os)
 | []=>by simp[inV]
 | o::r=>by
  have ih:=zfq q r;unfold inV at ih ⊢;rw[AK,List.any_cons,ih];show ((o == q) || _)=_
  by_cases e:o=q
  ·subst e; simp
  ·have:¬ q=o:=fun z=>e z.symm
   simp[e,this]
theorem zhX (os:List Int):(os.map V.int).all zbD=true:=by
 rw[List.all_map,List.all_eq_true];exact fun _ _=>rfl
abbrev zlP (K:Ae):List V->Hp->VK->Prop:=fun xs H Q=>∃p ys,xs=[.ref p]/\(SqL K H p ys \/ SqT K H p ys)/\Q (.int ys.length) H
abbrev zmZ (K:Ae):List V->Hp->VK->Prop:=fun xs H Q=>∃(l:Addr) (bs:List Bool),xs=[.ref l]/\SqL K H l (bs.map V.bl)/\Q (.bl (bs.all id)) H
abbrev tHas (K:Ae):TE:=tOp (rIn K false) (tVar 0) (tVar 1)
abbrev zmj (K:Ae):TT:=tAnd (zfh (tOp (rI0 fun i j=>.bl (decide (j<i))) (tCB (zlP K) (zQ (tVar 0) tNil)) (tCB (zlP K) (zQ (tVar 1) tNil)))) (tB (tCB (zmZ K) (zQ (tLC (iTup K (tVar 1)) [none,some 0] (zai 0) tYes (tHas K)) tNil)))
section
variable {P:Program}{w:World}{K:Ae}{mg:Str->Option Value}{base:Heap}
theorem zjx {H2:Hp}{a o D:Addr}{ps os:List Int}{Q:VK} (ha:Tp H2 a ps) (ho:Tp H2 o os) (hz:ps.length<=5) (hD:H2 D=none)
  (k:∀H3,Same H2 H3->H3 D=some (.lst ((ps.map fun x=>decide (x∈os)).map V.bl))->Q (.ref D) H3) :
  zaf (Itt K a) (zai 0) tYes (tHas K) [none,some (.ref o)] H2 D Q:=by
 refine zcl (xs:=ps.map V.int) (fun j σ ys H3=>∃v,σ=[v,some (.ref o)]/\Same H2 H3/\H3 D=some (.lst ys)/\ys=((ps.map fun x=>decide (x∈os)).take j).map V.bl) ?_ ?_ ?_ ?_
 ·exact⟨none,rfl,Same.new hD,upd_same,rfl⟩
 ·rintro j σ ys H3 ⟨v,rfl,sm,hD3,rfl⟩
  exact SqT.of (sm.tp ha)
 ·rintro j σ ys H3 x hx hj hy ⟨v,rfl,sm,hD3,rfl⟩
  obtain⟨q,eq,rfl⟩:=zbo hx;have e:(ps.map fun x=>decide (x∈os))[j]?=some (decide (q∈os)):=by rw[Ap,eq]; rfl
  refine gyes ?_;refine⟨_,rfl,_,rfl,o,_,rfl,.inr (SqT.of (sm.tp ho)),rfl,zhX os,?_⟩;rw[if_neg (by decide),zfq];exact cput (by rw[Ab]; exact zd (by omega)) hj hy hD3 ⟨_,rfl,sm.then hD,upd_same,by rw[AQ e,Ak]; rfl⟩
 ·rintro σ ys H3 ⟨v,rfl,sm,hD3,rfl⟩
  rw[Ay (by simp)] at hD3;exact k H3 sm hD3
theorem zgW {H2:Hp}{L a D:Addr}{as:List Addr}{kn:List (List Int)}{ps:List Int}{Q:VK} (hl:SqL K H2 L (as.map V.ref)) (ht:Tps H2 as kn) (ha:Tp H2 a ps) (hz:kn.length<=1000) (hp:ps.length<=5) (hD:H2 D=none)
  (k:∀(H3:Hp) (bs:List Addr),Same H2 H3->H3 D=some (.lst (bs.map V.ref))->bs.length=(kn.filter fun o=>over o ps).length->Q (.ref D) H3) :
  zaf (Itl K L) (zai 0) (zmj K) (tVar 0) [none,some (.ref a)] H2 D Q:=by
 have hla:=ht.length;refine zH (xs:=as.map V.ref) (fun j σ ys H3=>∃(v:Option V) (bs:List Addr),σ=[v,some (.ref a)]/\Same H2 H3/\H3 D=some (.lst ys)/\ys=bs.map V.ref/\bs.length=((kn.take j).filter fun o=>over o ps).length) ?_ ?_ ?_ ?_
 ·exact⟨none,[],rfl,Same.new hD,upd_same,rfl,rfl⟩
 ·rintro j σ ys H3 ⟨v,bs,rfl,sm,hD3,rfl,_⟩
  exact sm.seq hl
 ·rintro j σ ys H3 x hx hj hy ⟨v,bs,rfl,sm,hD3,rfl,hb⟩
  obtain⟨o,eo,rfl⟩:=zP hx;obtain⟨os,eos,ho⟩:=ht.get eo;have ho3:=sm.tp ho;have ha3:=sm.tp ha;have hn:(as.map V.ref).length<=sizeLine:=by rw[Ab]; exact zd (by omega)
  have skip:∀H4,Same H3 H4->over os ps=false->CSkip (as.map V.ref).length (fun j σ ys H3=>∃(v:Option V) (bs:List Addr),σ=[v,some (.ref a)]/\Same H2 H3/\H3 D=some (.lst ys)/\ys=bs.map V.ref/\bs.length=((kn.take j).filter fun o=>over o ps).length) j [some (.ref o),some (.ref a)] H4:=fun H4 sm4 ov=>
   cskip hj hy ⟨_,bs,rfl,sm.trans sm4,sm4 _ _ hD3,rfl,by rw[AQ eos,A9,List.filter_cons_of_neg (by rw[ov]; decide)]; simpa using hb⟩
  refine⟨_,rfl,o,_,rfl,.inr (SqT.of ho3),_,rfl,a,_,rfl,.inr (SqT.of ha3),_,_,rfl,rfl,_,rfl,?_⟩;refine ite2 (fun g=>?_) (fun g=>?_)
  ·have g':ps.length<os.length:=by
    have:=of_decide_eq_true g;simp only[Ab] at this;omega
   refine⟨_,rfl,a,rfl,⟨_,SqT.of ha3⟩,fun D2 hD2=>zz (zjx ha3 ho3 hp hD2 fun H4 sm4 hD4=>⟨D2,_,rfl,SqL.of hD4,_,rfl,?_⟩)⟩;have eb:(ps.map fun x=>decide (x∈os)).all id=over os ps:=by
    unfold over;rw[decide_eq_true g',Bool.true_and,List.all_map]; rfl
   rw[eb];cases ov:over os ps with
   | true=>
    refine iteT ⟨_,rfl,cput hn hj hy (sm4 _ _ hD3) ⟨_,bs++[o],rfl,(sm.trans sm4).then hD,upd_same,by rw[Ak]; rfl,?_⟩⟩;rw[AQ eos,A9,List.filter_cons_of_pos (by rw[ov]),At,At,hb]
    rfl
   | false=>exact iteF (skip H4 sm4 ov)
  ·have g':¬ ps.length<os.length:=fun z=>g (decide_eq_true (by simp only[Ab]; omega))
   exact iteF (skip H3 (Same.refl H3) (by unfold over; rw[decide_eq_false g']; rfl))
 ·rintro σ ys H3 ⟨v,bs,rfl,sm,hD3,rfl,hb⟩
  rw[Ab,hla,Ay (Af _)] at hb;exact k H3 bs sm hD3 hb
def zc4 (K:Ae):Sp:=fun vs H Q _=>∃l as pss,vs=[.ref l]/\SqL K H l (as.map V.ref)/\Tps H as pss/\(∀q∈pss,zY q=true)/\pss.length<=60/\(canon pss).length<64/\∀D H2 bs,Same H H2->H D=none->H2 D=some (.lst (bs.map V.ref))->Tps H2 bs (tops (canon pss))->Q (.ref D) H2
theorem zbi:zp ["web","known","found","piece"] ["web"] (za zan):=⟨rfl,rfl,rfl,by decide +kernel,rfl,by decide +kernel,by decide +kernel⟩
theorem zet {f fl:Addr}{fd fdl:FuncData} (F:Fun K "_law_greatest" "_law_greatest" zan f fd) (B:Bt mg) (Fl:Fun K "_law_pieces" "_law_pieces" zar fl fdl) (bl:Binds K fdl ["web"] []) (ml:mg "_law_pieces"=some (.ref fl)) (Gl:FnOk P w K mg base CX0 2 fl fdl ["web"] (zdS K)) :
  FnOk P w K mg base CX0 3 f fd ["web"] (zc4 K):=by
 refine F.ok zbi (fun vs H Q E h=>?_) (fun cdv A outer s H vs Q E hr h=>?_)
 ·obtain⟨l,as,pss,rfl,_⟩:=h; rfl
 ·obtain⟨l,as,pss,rfl,hl,ht,hpc,h20,h64,k⟩:=h
  refine⟨_,zb (zn (i:=1) zbi.nd rfl (Or.inl rfl) (zi Gl hr rfl ml Fl.kp bl .nil pass0 (pa_cons (pv 0) pa_nil)))
   (zb (zn (i:=2) zbi.nd rfl (Or.inl rfl) (zO pa_nil))
   (zb (zaq A7 rfl (zw (pv 1)) (zm (i:=3) zbi.nd rfl (Or.inr rfl))
    (ze (zU (zo zaC (zj zh rfl B.len z0 (pa_cons (zgJ ["web","known","found","piece"] ["one","piece"] [none,some 3] (zw (pv 1)) (fun cl C s₀ H₀ ex=>zm (i:=0) (ndN ["one","piece"]) rfl (Or.inr rfl))
      (fun cl C s₀ H₀ ex=>zaR (PW.pt (zfY (zo zeF (zj zh rfl B.len z0 (pa_cons (pv 0) pa_nil)) (zj zh rfl B.len z0 (pa_cons (pv 1) pa_nil)) (nomark _))
       (zdq (zaY (zj (zbm rfl) rfl B.all zgA (pa_cons (zy ["one","piece"] ["point","one"] [none,some 0] (zcM (pv 1)) (fun cl C s₀ H₀ ex=>zm (i:=0) (ndN ["point","one"]) rfl (Or.inl rfl)) (fun cl C s₀ H₀ ex=>zL)
        (fun cl C s₀ H₀ ex=>zaS zhb (pv 0) (pv 1) (by with_unfolding_all rfl)) (hfr:=zmX rfl (by decide +kernel)) (te:=tHas K)) pa_nil)))))))
      (fun cl C s₀ H₀ ex=>pv 0) (hfr:=frOf (za zan) (by decide +kernel)) (tc:=zmj K)) pa_nil)) zf (nomark _))
     (ze (zaB (zdc PySem.F.plainAttrs_list PySem.F.slot_list_append PySem.F.type_list_append zax (pv 2) (pa_cons (pv 3) pa_nil)))) zv)))
   (ze (zt (pv 2))))),?_⟩
  have h5:∀q∈pss,q.length<=5:=fun q hq=>(zB.mp (hpc q hq)).2.1;refine⟨_,rfl,l,as,pss,rfl,hl,ht,h5,h20,(by rw[<- zI]; exact h64),fun KN H1 qs t=>?_⟩;obtain⟨ks,sm1,hKN0,hKN1,hks1⟩:=zae t;have hkl:(canon pss).length<=200:=by omega
  have hla:=hks1.length;refine⟨zd (by simp),fun FD hFD=>?_⟩;have hFD0:H FD=none:=sm1.free hFD;have hne:KN≠FD:=zg hKN1 hFD;have hpar:∀p∈canon pss,p.length<=5:=fun p hp=>by
   obtain⟨q,hq,hx⟩:=List.mem_flatMap.mp (zN.mp hp);exact (zB.mp (zaD (hpc q hq) hx)).2.1
  refine⟨_,rfl,KN,rfl,⟨_,SqL.of (by rw[zk hne]; exact hKN1)⟩,zaa (K:=K) (a:=KN) (xs:=ks.map V.ref) (fun i σ H2=>∃(v:Option V) (bs:List Addr),σ=[some (.ref l),some (.ref KN),some (.ref FD),v]/\Same H H2/\H2 KN=some (.lst (ks.map V.ref))/\Tps H2 ks (canon pss)/\H2 FD=some (.lst (bs.map V.ref))/\Tps H2 bs (((canon pss).take i).filter (zdf (canon pss))))
   ⟨none,[],rfl,sm1.then hFD0,by rw[zk hne]; exact hKN1,(Same.new hFD).tps hks1,upd_same,.nil⟩ (fun i σ H2 _ ⟨_,_,_,_,h,_⟩=>SqL.of h) ?_ ?_⟩
  ·rintro i x σ H2 hx ⟨v,bs,rfl,sm2,hKN2,hks2,hFD2,hbs2⟩
   obtain⟨a,ea,rfl⟩:=zP hx;obtain⟨p,ep,hp⟩:=hks2.get ea;have hi:i<(canon pss).length:=(List.getElem?_eq_some_iff.mp ep).1;refine⟨_,rfl,KN,rfl,⟨_,SqL.of hKN2⟩,fun D hD=>zz (zgW (SqL.of hKN2) hks2 hp (by omega) (hpar p (Aq ep)) hD fun H3 cs sm3 hD3 hcs=>⟨D,_,rfl,.inl (SqL.of hD3),rfl,_,rfl,?_⟩)⟩;rw[Ab];have hbl:bs.length<=i:=by
    rw[hbs2.length];exact AF (List.length_filter_le _ _) (by rw[AS]; omega)
   have sm23:=sm2.trans sm3
   by_cases hz:cs.length=0
   ·have htop:zdf (canon pss) p=true:=by unfold zdf; rw[<- hcs]; exact decide_eq_true hz
    rw[hz];refine iteT ⟨_,rfl,.inl ⟨rfl,_,SqL.of (sm3 _ _ hFD2)⟩,_,rfl,FD,_,_,rfl,rfl,sm3 _ _ hFD2,zab (by rw[Ab]; omega),⟨_,bs++[a],rfl,sm23.then hFD0,by rw[zk hne]; exact sm3 _ _ hKN2,Tps.upd (sm3.tps hks2) (sm3 _ _ hFD2) (by intro xs z; cases z),by rw[upd_same,Ak]; rfl,?_⟩⟩;rw[AQ ep,A9,List.filter_cons_of_pos htop];exact Tps.upd (Tps.snoc (sm3.tps hbs2) (sm3.tp hp)) (sm3 _ _ hFD2) (by intro xs z; cases z)
   ·have htop:¬ zdf (canon pss) p=true:=by unfold zdf; rw[<- hcs]; exact fun z=>hz (of_decide_eq_true z)
    rw[show decide (V.int (cs.length:Int)=V.int 0)=false from decide_eq_false fun z=>hz (by injection z with z; omega)];refine iteF ⟨_,bs,rfl,sm23,sm3 _ _ hKN2,sm3.tps hks2,sm3 _ _ hFD2,?_⟩;rw[AQ ep,A9,List.filter_cons_of_neg htop,List.filter_nil,List.append_nil];exact sm3.tps hbs2
  ·rintro σ H2 ⟨v,bs,rfl,sm2,hKN2,hks2,hFD2,hbs2⟩
   rw[Ab,hla,Ay (Af _)] at hbs2;exact⟨_,rfl,k FD H2 bs sm2 hFD0 hFD2 hbs2⟩
end
end K52
end
section
namespace L2
open PySem PySem.Spec PyProof.Rows
section
variable {X:Cx}
theorem zfg:zat X (.builtin "isinstance") (fun xs H Q=>∃n,xs=[.int n,.ty "int"]/\Q (.bl true) H):=by
 intro pins s σ H xs us Q I r h;obtain⟨n,rfl,q⟩:=h;obtain⟨u,u',rfl,ru,ru'⟩:=vals2 r;cases ru';exact zbW I ru (.int n) (by first | rfl | kernel_rfl | decide +kernel) fun tk=>⟨.bl true,H,I.tok _,rfl,q⟩
theorem zeA:zat X (.builtin "isinstance") (fun xs H Q=>∃n,xs=[.int n,.ty "bool"]/\Q (.bl false) H):=by
 intro pins s σ H xs us Q I r h;obtain⟨n,rfl,q⟩:=h;obtain⟨u,u',rfl,ru,ru'⟩:=vals2 r;cases ru';exact zbW I ru (.int n) (by first | rfl | kernel_rfl | decide +kernel) fun tk=>⟨.bl false,H,I.tok _,rfl,q⟩
theorem zeB:zat X (.builtin "isinstance") (fun xs H Q=>∃a ys,xs=[.ref a,.ty "list"]/\H a=some (.lst ys)/\Q (.bl true) H):=by
 intro pins s σ H xs us Q I r h;obtain⟨a,ys,rfl,ha,q⟩:=h;obtain⟨u,u',rfl,ru,ru'⟩:=vals2 r;cases ru';exact zbW I ru (.lst ha) (by first | rfl | kernel_rfl | decide +kernel) fun tk=>⟨.bl true,H,I.tok _,rfl,q⟩
theorem zes:zat X (.builtin "isinstance") (fun xs H Q=>∃a ys,xs=[.ref a,.ty "tuple"]/\H a=some (.tup ys)/\Q (.bl true) H):=by
 intro pins s σ H xs us Q I r h;obtain⟨a,ys,rfl,ha,q⟩:=h;obtain⟨u,u',rfl,ru,ru'⟩:=vals2 r;cases ru';exact zbW I ru (.tup ha) (by first | rfl | kernel_rfl | decide +kernel) fun tk=>⟨.bl true,H,I.tok _,rfl,q⟩
end
end L2
end
section
namespace K52
open K1
open PySem L2 STb
abbrev zcH:Stmt:=top 45
abbrev ze2:Stmt:=top 46
section
variable {P:Program}{w:World}{K:Ae}{mg:Str->Option Value}{base:Heap}
def zhw:Sp:=fun vs H Q _=>∃n,vs=[.int n]/\Q (.bl true) H
theorem zls:zp ["x"] ["x"] (za zcH):=⟨rfl,rfl,rfl,by decide +kernel,rfl,by decide +kernel,by decide +kernel⟩
theorem ziS {f:Addr}{fd:FuncData} (F:Fun K "_law_whole" "_law_whole" zcH f fd) (B:Bt mg):FnOk P w K mg base CX0 1 f fd ["x"] zhw:=by
 refine F.ok zls (fun vs H Q E h=>?_) (fun cdv A outer s H vs Q E hr h=>?_)
 ·obtain⟨n,rfl,_⟩:=h; rfl
 ·obtain⟨n,rfl,k⟩:=h
  refine⟨_,ze (zt (zjM (zj zfg rfl B.isinstance zR (pa_cons (pv 0) (pa_cons (zb3 (v:=.ty "int") rfl B.int zl2 rfl) pa_nil))) (zj1 (zma (zj zeA rfl B.isinstance zR (pa_cons (pv 0) (pa_cons (zb3 (v:=.ty "bool") rfl B.bool zke rfl) pa_nil))))))),?_⟩;exact⟨_,rfl,n,rfl,_,rfl,iteT ⟨_,rfl,n,rfl,_,rfl,k⟩⟩
theorem zeU {H2:Hp}{a D:Addr}{ps:List Int}{Q:VK}{te:TE} (hte:∀(n:Int) (H:Hp) (R:VK),R (.bl true) H->te [some (.int n)] H R) (ha:Tp H2 a ps) (hz:ps.length<=5) (hD:H2 D=none)
  (k:∀H3,Same H2 H3->H3 D=some (.lst ((ps.map fun _=>true).map V.bl))->Q (.ref D) H3):zaf (Itt K a) (zai 0) tYes te [none] H2 D Q:=by
 refine zcl (xs:=ps.map V.int) (fun j σ ys H3=>∃v:Option V,σ=[v]/\Same H2 H3/\H3 D=some (.lst ys)/\ys=((ps.map fun _=>true).take j).map V.bl) ?_ ?_ ?_ ?_
 ·exact⟨none,rfl,Same.new hD,upd_same,rfl⟩
 ·rintro j σ ys H3 ⟨v,rfl,sm,hD3,rfl⟩
  exact SqT.of (sm.tp ha)
 ·rintro j σ ys H3 x hx hj hy ⟨v,rfl,sm,hD3,rfl⟩
  obtain⟨q,eq,rfl⟩:=zbo hx;have e:(ps.map fun _=>true)[j]?=some true:=by rw[Ap,eq]; rfl
  refine gyes ?_;exact hte q H3 _ (cput (by rw[Ab]; exact zd (by omega)) hj hy hD3 ⟨_,rfl,sm.then hD,upd_same,by rw[AQ e,Ak]; rfl⟩)
 ·rintro σ ys H3 ⟨v,rfl,sm,hD3,rfl⟩
  rw[Ay (by simp)] at hD3;exact k H3 sm hD3
theorem ziw {α:Type} (l:List α):(l.map fun _=>true).all id=true:=by rw[List.all_map,List.all_eq_true]; exact fun _ _=>rfl
def zjQ (K:Ae):Sp:=fun vs H Q _=>∃l m as bs pss,vs=[.ref l,.ref m]/\H l=some (.lst (List.map V.ref as))/\Tps H as pss/\SqL K H m (List.map V.ref bs)/\Tps H bs pss/\(∀p∈pss,p.length<=5)/\pss.length<=1000/\∀H2,Same H H2->Q (.bl true) H2
theorem zjO:zp ["found","due","piece"] ["found","due"] (za ze2):=⟨rfl,rfl,rfl,by decide +kernel,rfl,by decide +kernel,by decide +kernel⟩
theorem zki {f fw:Addr}{fd fdw:FuncData} (F:Fun K "_law_pieces_like" "_law_pieces_like" ze2 f fd) (B:Bt mg) (Fw:Fun K "_law_whole" "_law_whole" zcH fw fdw) (bw:Binds K fdw ["x"] []) (mw:mg "_law_whole"=some (.ref fw)):FnOk P w K mg base CX0 2 f fd ["found","due"] (zjQ K):=by
 have Gw:FnOk P w K mg base CX0 1 fw fdw ["x"] zhw:=ziS Fw B;refine F.ok zjO (fun vs H Q E h=>?_) (fun cdv A outer s H vs Q E hr h=>?_)
 ·obtain⟨l,m,as,bs,pss,rfl,_⟩:=h; rfl
 ·obtain⟨l,m,as,bs,pss,rfl,hl,ht,hm,htm,h5,hz,k⟩:=h
  have hu64:=hr.units;have hla:=ht.length;have hlb:=htm.length;refine⟨_,zb (zU (PW.pt (zgy (za1 (zaY (zj zeB rfl B.isinstance zR (pa_cons (pv 0) (pa_cons (zb3 (v:=.ty "list") rfl B.list zbS rfl) pa_nil)))))
     (zd6 (zo zjp (zj zh rfl B.len z0 (pa_cons (pv 0) pa_nil)) (zj zh rfl B.len z0 (pa_cons (pv 1) pa_nil)) (nomark _))))) (ze (zt zba)) zv)
   (zb (zaq A7 rfl (zw (pv 0)) (zm (i:=2) zjO.nd rfl (Or.inl rfl))
    (ze (zU (PW.pt (zgy (za1 (zaY (zj zes rfl B.isinstance zR (pa_cons (pv 2) (pa_cons (zb3 (v:=.ty "tuple") rfl B.tuple zby rfl) pa_nil)))))
     (zd6 (za1 (zaY (zj (zbm rfl) rfl B.all zgA (pa_cons (zy ["found","due","piece"] ["point"] [none] (zcM (pv 2)) (fun cl C s₀ H₀ ex=>zm (i:=0) (ndN ["point"]) rfl (Or.inl rfl)) (fun cl C s₀ H₀ ex=>zL)
      (fun cl C s₀ H₀ ex=>zi Gw hr rfl mw Fw.kp bw .nil pass0 (pa_cons (pv 0) pa_nil)) (hfr:=nofr (by decide +kernel))) pa_nil))))))) (ze (zt zba)) zv)))
   (ze (zt (zaS (zj4 hu64) (pv 0) (pv 1) (nomark _))))),?_⟩
  refine⟨_,rfl,l,_,rfl,hl,_,rfl,iteF ⟨_,rfl,l,_,rfl,.inl (SqL.of hl),_,rfl,m,_,rfl,.inl hm,rfl,_,rfl,?_⟩⟩;rw[show (!decide (V.int (((as.map V.ref).length:Nat):Int)=V.int (((bs.map V.ref).length:Nat):Int)))=false by rw[Ab,Ab,hla,hlb]; simp];refine iteF ⟨_,rfl,l,rfl,⟨_,SqL.of hl⟩,zaa (K:=K) (a:=l) (xs:=as.map V.ref) (fun i σ H2=>∃v:Option V,σ=[some (.ref l),some (.ref m),v]/\Same H H2) ⟨none,rfl,Same.refl H⟩ (fun i σ H2 _ ⟨_,_,sm⟩=>SqL.of (sm _ _ hl)) ?_ ?_⟩
  ·rintro i x σ H2 hx ⟨v,rfl,sm⟩
   obtain⟨a,ea,rfl⟩:=zP hx;obtain⟨ps,eps,hps⟩:=ht.get ea;refine⟨_,rfl,a,_,rfl,sm.tp hps,_,rfl,iteF ⟨_,rfl,a,rfl,⟨_,SqT.of (sm.tp hps)⟩,fun D hD=>zz (zeU (fun n H R h=>⟨_,rfl,n,rfl,h⟩) (sm.tp hps) (h5 ps (Aq eps)) hD fun H3 sm3 hD3=>⟨D,_,rfl,SqL.of hD3,_,rfl,?_⟩)⟩⟩;rw[ziw];exact iteF ⟨_,rfl,sm.trans sm3⟩
  ·rintro σ H2 ⟨v,rfl,sm⟩
   refine⟨_,rfl,_,rfl,.inr ⟨l,m,as,bs,pss,pss,rfl,rfl,SqL.of (sm _ _ hl),sm.tps ht,sm.seq hm,sm.tps htm,?_⟩⟩;rw[if_neg (by decide),decide_eq_true rfl];exact k H2 sm
end
end K52
end
section
namespace DCp
open PySem
theorem zdn:mroOf (.type "dict")=pure [.type "dict",.type "object"]:=by rw[mroOf_type]; kernel_rfl
theorem zcp:typeLookup (.type "dict") "__new__"=pure (some (.builtin "dict.__new__")):=by rw[typeLookup_type,builtinLookup_eq_fast]; kernel_rfl
theorem zM:TypeCalled "dict" "dict.__new__" "dict.__init__":=
 ⟨by decide +kernel,by decide +kernel,⟨_,_,zdn⟩,madeBy_type zdn zcp (by decide +kernel),by decide +kernel,by rw[isSubtype_type]; kernel_rfl,PySem.F.slot_dict_init⟩
theorem zcz (a:Value):checkTypeCall "dict" ⟨[a],[]⟩=pure ():=by kernel_rfl
theorem zcQ (a:Value):checkBuiltinCall "dict.__new__" ⟨[.type "dict",a],[]⟩=pure ():=by kernel_rfl
theorem zcS:entryFor table "dict.__new__"=some Builtin.«dict.__new__»:=entryFor_of_tree (by kernel_rfl)
theorem zbs:plainId "dict.__new__"=true:=by decide +kernel
theorem zbR:isSubtype (.type "dict") (.type "dict")=pure true:=by rw[isSubtype_type]; kernel_rfl
section
variable {prog:Program}{w:World}{A:Around}{E:Value->Shared->Prop}{s:Shared}
theorem zgD (a:Value) {Q₁:Value->Shared->Prop} (h:Q₁ (.ref s.heap.objs.size) { s with heap:=s.heap.push { cls:=.type "dict",data:=.dict #[] } }) :
  codeAny (model prog w) A (.call (.builtin "dict.__new__") ⟨[.type "dict",a],[]⟩) (wants Q₁ E) s:=by
 refine codeAny_of_tree (show wpAny _ A.in1 (do checkBuiltinCall "dict.__new__" ⟨[.type "dict",a],[]⟩; again (.builtin "dict.__new__" ⟨[.type "dict",a],[]⟩)) _ _ s from Aa (wpAny_of_eq (zcQ a) (Ac ⟨plainId_quiet zbs _,A6 zcS ?_⟩)));rw[A1 zbs _]; unfold Builtin.«dict.__new__»;have hsub:=zbR;have hmro:=zdn;obtain⟨hp,g,d,tk,os⟩:=s;dsimp only;refine Aa (wpAny_of_eq (a:=true) rfl ?_);simp only[Bool.not_true,Aj,if_false];refine Aa (wpAny_of_eq hsub ?_);simp only[Bool.not_true,Aj,if_false];refine Aa (wpAny_of_eq hmro ?_);rw[if_neg (by decide)];refine Aa (AO ?_);exact Ac h
end
end DCp
end
section
set_option maxHeartbeats 3200000
namespace STb
open PySem PySem.SetTable PyProof.Rows
theorem zeE {α:Type} (next:Nat->Nat):∀(fuel k:Nat) (left:List α) (out:Array α),left.length=fuel->∃l,l.Perm left/\(pickOrder.go next fuel k left out).toList=out.toList++l
 | 0,k,left,out,h=>⟨[],by rw[List.eq_nil_of_length_eq_zero h],by simp[pickOrder.go]⟩
 | fuel+1,k,left,out,h=>by
  have hlt:next k % left.length<left.length:=Nat.mod_lt _ (by omega);unfold pickOrder.go;rw[Ag hlt];dsimp only;obtain⟨l,hl,e⟩:=zeE next fuel (k+1) (left.eraseIdx (next k % left.length)) (out.push left[next k % left.length]) (by rw[List.length_eraseIdx,if_pos hlt]; omega);refine⟨left[next k % left.length]::l,?_,?_⟩
  ·refine (List.Perm.cons _ hl).trans ?_
   rw[List.eraseIdx_eq_take_drop_succ];refine (List.perm_middle (l₁:=left.take (next k % left.length))).symm.trans ?_;rw[<- List.drop_eq_getElem_cons hlt,List.take_append_drop]
  ·rw[e,Array.toList_push,List.append_assoc]
   rfl
theorem zhC {α:Type} (next:Nat->Nat) (xs:Array α):(pickOrder next xs).toList.Perm xs.toList:=by
 obtain⟨l,hl,e⟩:=zeE next xs.size 0 xs.toList #[] (by simp);unfold pickOrder;rw[e]
 simpa using hl
section
variable {prog:Program}{w:World}{K:Type} [DecidableEq K] {knd:KeyKind prog w K}{A:Around}{E:Value->Shared->Prop}{s:Shared}
theorem zhT {Q:Bool->Shared->Prop} (h:Q (w.params.followText "set-order") s):wpAny (model prog w) A setsByText Q E s:=by
 unfold setsByText;exact Aa (wpAny_askSetting (Ac h))
theorem wp_walk {B:List Addr}{S:Addr}{o:Obj}{es:Array (Int×Value)}{ep:Nat}{t:SetTable}{ks:List (List K)} (X:TS knd s.heap S o es ep t ks B) {Q:Array (Int×Value)->Shared->Prop}
  (h:∀r:Array (Int×Value),r.toList.Perm es.toList->Q r s):wpAny (model prog w) A (setWalk S) Q E s:=by
 have fit:=fits_of X.tb;unfold setWalk;refine Aa (wpAny_setState_of X.at_ X.dt fit ?_);dsimp only;refine Aa (zhT ?_);cases hb:w.params.followText "set-order" with
 | true=>
  simp only[if_true];exact Aa (wpAny_askSetting (Ac (h _ (zhC _ es))))
 | false=>
  have hw:t.led=true/\t.plain=true:=X.wk.resolve_left (by rw[hb]; simp);simp only[Aj,if_false];show wpAny _ _ (ite ((!t.plain && decide (es.size > 1))=true) _ _) _ _ _;rw[hw.2];simp only[Bool.not_true,Bool.false_and,Aj,if_false];show wpAny _ _ ((ite ((!t.led && decide (es.size > 1))=true) _ _) >>= _) _ _ _;rw[hw.1];simp only[Bool.not_true,Bool.false_and,Aj,if_false];exact Aa (Ac (Ac (h es (List.Perm.refl _))))
end
end STb
end
section
namespace L2
open PySem PySem.Spec PyProof.Rows
theorem ziY {P:Program}{w:World} (ps:List Int):Av (zq P w) (ps.map Sum.inl)=Av (intKind P w) ps:=by
 unfold Av;rw[Aw]
 rfl
section
variable {X:Cx}
end
end L2
end
section
namespace DEq
open PySem
section
variable {prog:Program}{w:World}{K:Type} [DecidableEq K] {knd:HeapKind prog w K}{A:Around}{E:Value->Shared->Prop}{s:Shared}
theorem zln {id:String}{a b:Addr}{xs ys:List (K×Addr×Value)}{Q:Bool->Shared->Prop} (hu:knd.room A) (ha:(a == sysModules)=false) (hb:(b == sysModules)=false) (hx:s.heap.DictOfH knd a xs) (hy:s.heap.DictOfH knd b ys)
  (hl:xs.length=ys.length) (hv:∀(i:Nat) k p v,xs[i]?=some (k,p,v)->∃q n t t',v=.int n t/\ys[i]?=some (k,q,.int n t')) (h:Q true s):wpAny (model prog w) A (Builtin.Dict.samePairs id a b) Q E s:=by
 obtain⟨oa,ea,pa,ha0,ha1,ha2,ha3,ha4,ha5⟩:=hx;obtain⟨ob,eb,pb,hb0,hb1,hb2,hb3,hb4,hb5⟩:=hy;have sa:=size_of_entries (knd:=knd) ha3;have sb:=size_of_entries (knd:=knd) hb3;unfold Builtin.Dict.samePairs Builtin.Dict.showsAll;rw[if_neg (by rw[ha]; exact Au),if_neg (by rw[hb]; exact Au)];refine Aa (Ac (Aa (Ac ?_)));refine Aa (wpAny_dictEntries ha0 ha2 ?_);dsimp only;refine Aa (wpAny_dictEntries hb0 hb2 ?_);rw[if_neg (by rw[sa,sb,hl]; simp)];refine Aa (wpAny_dictEpoch ha0 ha2 ?_);refine Aa ?_;rw[Std.Legacy.Range.forIn_eq_forIn_range'];simp only[Std.Legacy.Range.size,Nat.sub_zero,Nat.add_sub_cancel,Nat.div_one];refine wpAny_forIn_list _ (fun rest r s'=>s'=s/\r.1=none/\∃i,rest=List.range' i (ea.size - i)/\i<=ea.size) _ ?_ ?_ _ _ ⟨rfl,rfl,0,by simp,AV _⟩
 ·rintro x rest r s' ⟨rfl,hr1,i,hr,hi⟩
  have hlt:i<ea.size:=by
   rcases Nat.lt_or_ge i ea.size with h | h
   ·exact h
   ·rw[Nat.sub_eq_zero_of_le h] at hr; simp at hr
  obtain⟨rfl,hrest⟩:x=i/\rest=List.range' (i+1) (ea.size - (i+1)):=by
   have e:ea.size - i=(ea.size - (i+1))+1:=by omega
   rw[e,List.range'_succ] at hr;injection hr with h1 h2
   exact⟨h1,h2⟩
  obtain⟨⟨k,p,v⟩,hkv⟩:∃y,xs[x]?=some y:=⟨xs[x]'(by rw[<- sa]; exact hlt),Ag _⟩;obtain⟨q,n,t,t',rfl,hyv⟩:=hv x k p v hkv;have hex:ea[x]?=some ⟨knd.hash k,.ref p,.int n t⟩:=by rw[entry_at ha3 x,hkv]; rfl
  have hip:knd.is s'.heap k p:=ha4 _ (Aq hkv);refine Aa (wpAny_dictEntries ha0 ha2 ?_);rw[hex];dsimp only;refine Aa (AJ (Aa (wpAny_dictFind_heap hu hip hb0 hb2 hb3 hb4 hb5 (fun hno=>absurd hyv (hno x _)) fun j pj hj=>?_)));obtain rfl:=idxH_unique hb5 hj hyv;dsimp only;refine Aa (wpAny_dictEntries hb0 hb2 ?_);have hey:eb[j]?=some ⟨knd.hash k,.ref q,.int n t'⟩:=by rw[entry_at hb3 j,hyv]; rfl
  rw[hey];dsimp only;refine AJ (wpAny_eqBool_int ?_);rw[if_neg (by simp)];refine Aa (wpAny_dictEpoch ha0 ha2 ?_);rw[if_neg (by simp)];exact Ac ⟨rfl,rfl,j+1,hrest,hlt⟩
 ·rintro⟨r1,r2⟩ s' ⟨rfl,hr1,_⟩
  simp only at hr1;subst hr1;exact Ac h
end
end DEq
end
section
namespace DEq
open PySem
section
variable {prog:Program}{w:World}{K:Type} [DecidableEq K] {knd:HeapKind prog w K}{A:Around}{E:Value->Shared->Prop}{s:Shared}
theorem zgZ {a b:Addr}{xs ys:List (K×Addr×Value)}{Q:Bool->Shared->Prop} (hu:∀A':Around,A'.units<=A.units+8->knd.room A') (hu':A.units<cLine) (ha:(a == sysModules)=false) (hb:(b == sysModules)=false) (hx:s.heap.DictOfH knd a xs) (hy:s.heap.DictOfH knd b ys)
  (hl:xs.length=ys.length) (hv:∀(i:Nat) k p v,xs[i]?=some (k,p,v)->∃q n t t',v=.int n t/\ys[i]?=some (k,q,.int n t')) (h:Q true s):wpAny (model prog w) A (eqBool (.ref a) (.ref b)) Q E s:=by
 unfold eqBool
 try with_reducible refine AJ ?_
 show wpAny _ _ (if (Value.ref a == Value.ref b)=true then _ else _) Q E s
 by_cases hab:(Value.ref a == Value.ref b)=true
 ·rw[if_pos hab]
  exact Aa (wpAny_rule (Ac h))
 ·rw[if_neg hab]
  refine Aa (wpAny_richCompare_same_room (op:=.Eq) hx.typeIs hy.typeIs F.slot_dict_eq
   (AR F.slot_dict_eq hx.typeIs F.entry_dict_eq ?_ (F.args_dict_eq_2 _ _)) hu')
  unfold Builtin.«dict.__eq__»
  wp_delta
  refine Aa ?_;unfold Builtin.Dict.dictSlotArgs;refine Aa (wpAny_notOrdered_dict hx.typeIs ?_);refine Aa (show wpAny _ _ (pure (Value.ref a,[Value.ref b])) _ _ _ from Ac ?_);refine Ac ?_;dsimp only;refine Aa (wpAny_isInstance hy.typeIs DCp.zbR ?_);simp only[Bool.not_true,Aj,if_false];refine Aa (show wpAny _ _ (pure a) _ _ _ from Ac ?_);refine Aa (show wpAny _ _ (pure b) _ _ _ from Ac ?_);refine Aa (zln (hu _ (by show A.units+1<=_; omega)) ha hb hx hy hl hv ?_);exact Ac ⟨_,rfl,(fun e=>nomatch e),wpAny_truthy_bool h⟩
end
end DEq
end
section
namespace L2
open PySem PySem.Spec PyProof.Rows
theorem zjJ {P:Program}{w:World}{H:Hp}{h:Heap}{a:Addr}{kvs:List (List Key×V)}{pss:List (List Int)} (ok:HOk P w H h) (hq:Rd H a (.dT kvs)) (hp:kvs.map (·.1)=pss.map (·.map Sum.inl)) :
  (a == sysModules)=false/\∃xs:List (List Int×Addr×Value),(∀P' w',h.DictOfH (tupleKind (intKind P' w')) a xs)/\xs.length=kvs.length/\∀(i:Nat) x,xs[i]?=some x->pss[i]?=some x.1/\∃kv,kvs[i]?=some kv/\RelV kv.2 x.2.2:=by
 obtain⟨z,y,ys,rel,o,es,ep,h1,h2,h3,h4,h5⟩:=(show zF P w H h a (.dT kvs) from hq.ok ok);have key:∀{l:List (List Key×V)} {m:List (List Key×Addr×Value)} {qs:List (List Int)},KT H l m->l.map (·.1)=qs.map (·.map Sum.inl)->
   ∃xs:List (List Int×Addr×Value),m=xs.map (fun x=>(x.1.map Sum.inl,x.2))/\xs.map (·.1)=qs/\(∀x∈xs,Tp H x.2.1 x.1)/\xs.length=l.length/\∀(i:Nat) x,xs[i]?=some x->qs[i]?=some x.1/\∃kv,l[i]?=some kv/\RelV kv.2 x.2.2:=by
  intro l m qs q
  induction q generalizing qs with
  | nil=>intro e; cases qs with
   | nil=>exact⟨[],rfl,rfl,(fun x hx=>by cases hx),rfl,(fun i x e=>by simp at e)⟩
   | cons p ps=>simp at e
  | @cons p q' ps qs' hq t ih=>intro e; cases qs with
   | nil=>simp at e
   | cons r rs=>
    simp only[AK,List.cons.injEq] at e;obtain⟨xs,e1,e2,e3,e4,e5⟩:=ih e.2;have hk:=hq.2.1;rw[e.1,Aw] at hk;refine⟨(r,q'.2)::xs,?_,by rw[AK,e2],fun x hx=>?_,by simp[e4],fun i x ex=>?_⟩
    ·rw[AK,<- e1,<- e.1,hq.1]
    ·rcases List.mem_cons.mp hx with rfl | hx
     ·exact hk
     ·exact e3 x hx
    ·cases i with
     | zero=>
      simp at ex;subst ex;exact⟨rfl,p,rfl,hq.2.2⟩
     | succ i=>simpa using e5 i x (by simpa using ex)
 obtain⟨xs,e1,e2,e3,e4,e5⟩:=key rel hp;refine⟨y,xs,fun P' w'=>⟨o,es,ep,h1,h2,h3,?_,fun x hx=>?_,?_⟩,e4,e5⟩
 ·rw[h4,e1,Aw]
  refine List.map_congr_left fun x _=>?_;show DictEntry.mk (Av (zq P w) (x.1.map Sum.inl)) (.ref x.2.1) x.2.2=DictEntry.mk (Av (intKind P' w') x.1) (.ref x.2.1) x.2.2;rw[ziY]
  rfl
 ·obtain⟨_,its,r,p⟩:=(show zF P w H h x.2.1 (.tup (x.1.map V.int)) from ok x.2.1 _ (e3 x hx))
  exact zic p (intsAre_of r)
 ·have e6:xs.map (fun x=>x.1.map (Sum.inl:Int->Key))=(xs.map (·.1)).map (·.map Sum.inl):=by rw[Aw]; rfl
  rw[e1,Aw] at h5;have h6:((xs.map (·.1)).map (·.map (Sum.inl:Int->Key))).Nodup:=by rw[<- e6]; exact h5
  exact List.Pairwise.of_map _ (fun a b hne e=>hne (by rw[e])) h6
theorem zkZ {P:Program}{w:World}{A:Around}{H:Hp}{s:Shared}{a b:Addr}{kvs:List (List Key×V)}{pss:List (List Int)}{ns:List Int} (hu:A.units+64<cLine) (ok:HOk P w H s.heap) (ha:Rd H a (.dT kvs)) (hb:Rd H b (.dT kvs))
  (hp:kvs.map (·.1)=pss.map (·.map Sum.inl)) (hv:kvs.map (·.2)=ns.map V.int):SeqAt.EqAt A s (.ref a) (.ref b) true:=by
 intro prog w E Q h;obtain⟨ya,xs,ax,al,a5⟩:=zjJ ok ha hp;obtain⟨yb,ys,bx,bl,b5⟩:=zjJ ok hb hp;refine DEq.zgZ (knd:=tupleKind (intKind prog w)) (fun A' z=>show A'.units<cLine by omega) (by omega) ya yb (ax prog w) (bx prog w) (by omega) (fun i k p v e=>?_) h;obtain⟨g1,kv,g2,g3⟩:=a5 i _ e;have hi:i<ys.length:=by
  have:=(List.getElem?_eq_some_iff.mp e).1;omega
 obtain⟨f1,kv',f2,f3⟩:=b5 i ys[i] (Ag hi);rw[g2] at f2;obtain rfl:=Ao f2;rw[g1] at f1;have fk:k=ys[i].1:=Ao f1;have hn:=congrArg (·[i]?) hv;simp only[Ap,g2,Option.map_some] at hn;cases en:ns[i]? with
 | none=>rw[en] at hn; simp at hn
 | some n=>
  rw[en] at hn;have hn':kv.2=V.int n:=by simpa using hn
  rw[hn'] at g3 f3;obtain⟨t,et⟩:=(show ∃t,v=Value.int n t from g3);obtain⟨t',et'⟩:=(show ∃t,ys[i].2.2=Value.int n t from f3);refine⟨ys[i].2.1,n,t,t',et,?_⟩;rw[Ag hi,fk,<- et']
end L2
end
section
namespace L2
open PySem PySem.Spec PyProof.Rows
mutual
inductive DV (K:Ae) (H:Hp):V->PyData->Prop where
 | bl (b:Bool):DV K H (.bl b) (.bool b)
 | int (i:Int):DV K H (.int i) (.int i)
 | str (z:Str):DV K H (.str z) (.str z)
 | lst {l:Addr} {xs:List V} {ds:List PyData} (h:SqL K H l xs) (t:DVs K H xs ds):DV K H (.ref l) (.list ds)
inductive DVs (K:Ae) (H:Hp):List V->List PyData->Prop where
 | nil:DVs K H [] []
 | cons {x:V} {d:PyData} {xs:List V} {ds:List PyData} (h:DV K H x d) (t:DVs K H xs ds):DVs K H (x::xs) (d::ds)
end
section
variable {X:Cx}{pins:List (Addr×Obj)}{σ:St}{H:Hp}{s:Shared}
mutual
theorem DV.reads (I:Inv X pins σ H s):∀{x:V}{d:PyData}{u:Value},DV X.K H x d->RelV x u->∃ads,Reads s.heap u d ads
 | _,_,_,.bl b,r=>by cases r; exact⟨_,.bool b⟩
 | _,_,_,.int i,r=>by obtain⟨t,rfl⟩:=r; exact⟨_,.int i t⟩
 | _,_,_,.str z,r=>by obtain⟨t,rfl⟩:=r; exact⟨_,.str z t⟩
 | _,_,_,.lst h t,r=>by
  cases r;obtain⟨its,rv,p,_⟩:=I.list h;obtain⟨o,ho,hc,n,hd⟩:=p.isList;obtain⟨ads,q⟩:=DVs.reads I t rv;exact⟨_,.list ho hc hd (by simpa using q)⟩
theorem DVs.reads (I:Inv X pins σ H s):∀{xs:List V}{ds:List PyData}{us:List Value},DVs X.K H xs ds->Vals xs us->∃ads,ReadsAll s.heap us ds ads
 | _,_,_,.nil,.nil=>⟨_,.nil⟩
 | _,_,_,.cons h t,.cons r rs=>by
  obtain⟨a,q⟩:=DV.reads I h r;obtain⟨b,q'⟩:=DVs.reads I t rs;exact⟨_,.cons q q'⟩
end
end
def rEqD (neg:Bool) (K:Ae):R2:=fun x y H Q=>∃d e,DV K H x d/\DV K H y e/\SeqAt.shaped d=true/\SeqAt.shaped e=true/\SeqAt.noMix d e=true/\Q (.bl (if neg then !same d e else same d e)) H
section
variable {X:Cx}
theorem zj6 (hu:X.A.units+64<cLine):OpR X (compareOp .NotEq) (rEqD true X.K):=by
 intro pins s σ H x y v u Q I rx ry h;obtain⟨d,e,h1,h2,s1,s2,nm,q⟩:=h;obtain⟨a1,r1⟩:=h1.reads I rx;obtain⟨a2,r2⟩:=h2.reads I ry;exact ne_dataH_same r1 r2 s1 s2 hu nm ⟨.bl _,H,I,rfl,q⟩
end
abbrev liD (ns:List Int):PyData:=.list (ns.map A4)
theorem ziT (ns ms:List Int):same (liD ns) (liD ms)=decide (ns=ms):=by simp only[same]; exact PySem.W.ke_sameAll ns ms
theorem zmt (a b:List Int):SeqAt.noMix (liD a) (liD b)=true:=SeqAt.noMix_of_shape (.list .int) rfl _ _ (by simp[Shape.has]) (by simp[Shape.has])
theorem zfm {K:Ae}{H:Hp}:∀ns:List Int,DVs K H (ns.map V.int) (ns.map A4)
 | []=>.nil
 | n::r=>.cons (.int n) (zfm r)
theorem zgQ {K:Ae}{H:Hp}{l:Addr}{ns:List Int} (h:SqL K H l (ns.map V.int)):DV K H (.ref l) (liD ns):=.lst h (zfm ns)
end L2
end
section
namespace STb
theorem ze6 (ns:List Int):∀i,i<=ns.length->PyProof.Rows.firstMet (fun i=>ns.getD i 0) i=dd (ns.take i):=by
 intro i
 induction i with
 | zero=>intro _; simp[PyProof.Rows.firstMet,dd]
 | succ i ih=>
  intro hi;have hx:ns[i]?=some ns[i]:=Ag (by omega);have et:ns.take (i+1)=ns.take i++[ns[i]]:=by rw[List.take_add_one,hx]; rfl
  rw[PyProof.Rows.firstMet_succ,ih (by omega),et,zbX];have eg:ns.getD i 0=ns[i]:=by rw[List.getD_eq_getElem?_getD,hx]; rfl
  rw[eg];unfold PyProof.Rows.step_dedup
  by_cases q:ns[i]∈dd (ns.take i)
  ·rw[if_pos q]; simp[q]
  ·rw[if_neg q]; simp[q]
end STb
namespace L2
open PySem PySem.Spec PyProof.Rows
section
variable {X:Cx}
end
end L2
end
section
namespace STb
open PySem PySem.SetTable PyProof.Rows
def iv:Value->Int
 | .int n _=>n
 | _=>0
def SI (prog:Program) (w:World) (h:Heap) (S:Addr) (ns:List Int):Prop:=
 ∃o es ep t,h.get? S=some o/\o.ExactSet/\o.data=.set es ep t/\Tb t (es.map (·.1))/\ElemsOf (intKind prog w) es.toList/\(es.toList.map fun e=>iv e.2).Perm ns/\ns.Nodup/\
  ((t.mask=7/\es.size<=4) \/ (t.mask=31/\es.size<=18))/\(w.params.followText "set-order"=true \/ (t.led=true/\t.plain=true))
theorem SI.keep {prog:Program}{w:World}{h h':Heap}{S:Addr}{ns:List Int} (x:SI prog w h S ns) (k:∀o,h.get? S=some o->h'.get? S=some o):SI prog w h' S ns:=
 let ⟨o,es,ep,t,h1,r⟩:=x; ⟨o,es,ep,t,k o h1,r⟩
theorem zf8 {l:List Nat}{n:Nat} (nd:l.Nodup) (hl:l.length=n) (hb:∀q∈l,q<n):l.Perm (Bc n):=by
 refine (List.perm_ext_iff_of_nodup nd List.nodup_range).mpr fun q=>⟨fun h=>List.mem_range.mpr (hb q h),fun h=>?_⟩;apply Classical.byContradiction;intro z;have nd2:(q::l).Nodup:=List.nodup_cons.mpr ⟨z,nd⟩;have sub:(q::l) ⊆ Bc n:=fun x hx=>by
  rcases List.mem_cons.mp hx with e | e
  ·rw[e]; exact h
  ·exact List.mem_range.mpr (hb x e)
 have:=nd2.length_le_of_subset sub;rw[As,List.length_range] at this;omega
theorem zku {t:SetTable}{hs:Array Int} (T:Tb t hs) (h:Int):∃ne,¬ Occ t (pos t.mask h ne)/\(∀m,m<ne->Occ t (pos t.mask h m))/\t.freeSlot h=some (pos t.mask h ne,false):=by
 obtain⟨ne,hne,he,hm⟩:=zc3 T h;refine⟨ne,he,hm,?_⟩;unfold SetTable.freeSlot;have e0:t.probeStart h=pr t.mask h 0:=rfl;rw[e0];rcases probe_spec T (hashAt:=fun _=>h+1) hne he hm (AV _) with ⟨e,_⟩ | ⟨N,i,_,_,_,e,_⟩
 ·rw[e]; rfl
 ·omega
theorem zjk {t:SetTable}{es:Array (Int×Value)}{want m2:Nat} (hw:SetTable.sizeAbove want - 1=m2) (hc:Cov m2) (ho:m2 % 2=1) (hr:es.size<=m2) :
  ∃es' t',relayAll t es want=(es',t',false)/\t'.mask=m2/\t'.led=t.led/\t'.plain=t.plain/\Tb t' (es'.map (·.1)):=by
 obtain⟨t2,order,e1,e2,e3,e4,e5,e6,e7,e8⟩:=zhU hc ho t.finger (t.movedTo m2) t.led t.plain (es.map (·.1)) (by rw[A0]; exact hr);have er:t.relaid (es.map (·.1)) want=some (t2,order):=by
  unfold SetTable.relaid;rw[hw];exact e1
 rw[A0] at e5 e7;obtain⟨l',f1,f2,f3,f4⟩:=zhn (es:=es) e7;have eo:order.filterMap (es[·]?)=l'.toArray:=by
  apply Array.toList_inj.mp;rw[Array.toList_filterMap,f1]
 have hl:l'.length=es.size:=by rw[f2,Az,e5]
 have hes:(l'.toArray.map (·.1))=order.map fun q=>((es.map (·.1))[q]?).getD 0:=by
  apply Array.ext_getElem?;intro i;rw[Array.getElem?_map,Array.getElem?_map,List.getElem?_toArray];cases q:order[i]? with
  | none=>
   have:order.toList.length<=i:=by rw[Az]; exact Array.getElem?_eq_none_iff.mp q
   rw[List.getElem?_eq_none (by omega)]
   rfl
  | some p=>
   have e:=f4 i p (by rw[AH]; exact q);have hp:=e7 p (by rw[<- AH] at q; exact Aq q);rw[e,getElem?_pos es p hp];simp[hp]
 have T2:Tb t2 (l'.toArray.map (·.1)):=by rw[hes]; exact e8
 refine⟨l'.toArray,t2,?_,e2,e3,e4,T2⟩;unfold relayAll;rw[er];dsimp only;have c1:coversAll order es.size=true:=by
  unfold coversAll;rw[List.isPerm_iff];exact zf8 e6 (by rw[Az]; exact e5) e7
 have c2:t2.fits (order.filterMap (es[·]?)).size=true:=by rw[eo]; exact fits_of T2
 rw[c1,c2,eo]
 rfl
section
variable {prog:Program}{w:World}{A:Around}{E:Value->Shared->Prop}{s:Shared}
theorem zkc {e:Int×Value}{l:List (Int×Value)} (h:ElemsOf (intKind prog w) l) (he:e∈l):∃n t,e=((intKind prog w).hash n,.int n t):=by
 obtain⟨⟨k,h1,h2⟩,_⟩:=h e he;obtain⟨t,h3⟩:=Value.isInt_shape h1;exact⟨k,t,Prod.ext h2 h3⟩
theorem zlN {S:Addr}{ns:List Int} (X:SI prog w s.heap S ns) (hn:ns.length<18) {n:Int}{tk:Tok}{Q:Bool->Shared->Prop}
  (h:∀(r:Bool) h',SI prog w h' S (if n∈ns then ns else ns++[n])->A2 S s.heap h'->Q r { s with heap:=h' }):wpAny (model prog w) A (setAddHashed S (.int n tk) ((intKind prog w).hash n)) Q E s:=by
 obtain⟨o,es,ep,t,ho,hex,hd,T,hel,hp,nd,mk,wk⟩:=id X;have hf:=fits_of T;have hkey:(intKind prog w).is n (.int n tk)=true:=intKind_is _ _ _ _;have hlen:es.size=ns.length:=by have:=hp.length_eq; simpa using this
 have hb:es.size<scanBound:=by unfold scanBound; omega
 unfold setAddHashed setAddHashedIn;refine AJ (Aa (wpAny_setState_of ho hd hf ?_));dsimp only;rw[byScan_of (knd:=intKind prog w) rfl hb hel];simp only[↓reduceIte];unfold setAddByScan;refine Aa ?_;refine Aa (wpAny_rule ?_);refine Aa (wpAny_setScan_of hkey ho hd hf hel ?_);cases hr:List.findIdx? (fun e=>(intKind prog w).is n e.2) es.toList with
 | some j=>
  dsimp only;obtain⟨hj,hpj,_⟩:=List.findIdx?_eq_some_iff_getElem.mp hr;have hin:n∈ns:=by
   refine hp.mem_iff.mp (List.mem_map.mpr ⟨es.toList[j],List.getElem_mem hj,?_⟩);obtain⟨t',e⟩:=Value.isInt_shape hpj;rw[e]; rfl
  refine Ac (Ac ?_);have e:s={ s with heap:=s.heap }:=by cases s; rfl
  have:=h false s.heap (by rw[if_pos hin]; exact X) (Heap.SameBut.refl _ _);exact this
 | none=>
  dsimp only;have hout:n∉ns:=fun z=>by
   obtain⟨e,he,e2⟩:=List.mem_map.mp (hp.mem_iff.mpr z);obtain⟨m,t',e3⟩:=zkc hel he;have:=List.findIdx?_eq_none_iff.mp hr e he;subst e3;obtain rfl:m=n:=e2;rw[intKind_is] at this;exact Bool.noConfusion this
  obtain⟨ne,he,hm,ef⟩:=zku T ((intKind prog w).hash n);have hroom:(es.map (·.1)).size+1<=t.mask:=by
   rw[A0];rcases mk with ⟨a,b⟩ | ⟨a,b⟩ <;> omega
  obtain⟨p1,p2,p3⟩:=zjE T he hm hroom;rw[A0] at p1;obtain⟨t1,p,eput⟩:∃t1 p,t.put (pos t.mask ((intKind prog w).hash n) ne)=(t1,p):=⟨_,_,rfl⟩;have el1:t1.led=t.led:=by
   have e1:t1=(t.put (pos t.mask ((intKind prog w).hash n) ne)).1:=by rw[eput]
   rw[e1]; rfl
  have epl:t1.plain=t.plain:=by
   have e1:t1=(t.put (pos t.mask ((intKind prog w).hash n) ne)).1:=by rw[eput]
   rw[e1]; rfl
  rw[eput] at p1 p2 p3;dsimp only at p1 p2 p3;have hsz2:(insertAt es p ((intKind prog w).hash n,Value.int n tk)).size=es.size+1:=zbO _ _ _ p1;have emap:(insertAt es p ((intKind prog w).hash n,Value.int n tk)).map (·.1)=insertAt (es.map (·.1)) p ((intKind prog w).hash n):=ins_map (·.1) es p _ p1;have T1:Tb t1 ((insertAt es p ((intKind prog w).hash n,Value.int n tk)).map (·.1)):=by rw[emap]; exact p3
  have f1:=fits_of T1;have eL:layNew t es ((intKind prog w).hash n) (.int n tk)=(insertAt es p ((intKind prog w).hash n,Value.int n tk),t1,false,false):=by
   unfold layNew;rw[ef];dsimp only;rw[eput];dsimp only;unfold SetTable.orStandIn;rw[f1]
   rfl
  have hperm:=layNew_perm t es ((intKind prog w).hash n) (.int n tk);rw[eL] at hperm;rw[eL];dsimp only at hperm ⊢;rw[Array.toList_push] at hperm;have hel1:ElemsOf (intKind prog w) (insertAt es p ((intKind prog w).hash n,Value.int n tk)).toList:=(hel.push hkey rfl).perm hperm;have hp1:((insertAt es p ((intKind prog w).hash n,Value.int n tk)).toList.map fun e=>iv e.2).Perm (ns++[n]):=by
   refine (hperm.map _).trans ?_;rw[Ak];exact hp.append_right _
  have nd2:(ns++[n]).Nodup:=by
   rw[List.nodup_append];refine⟨nd,by simp,fun x hx y hy=>?_⟩;rw[List.mem_singleton.mp hy];exact fun z=>hout (z ▸ hx)
  have wk1:w.params.followText "set-order"=true \/ (t1.led=true/\t1.plain=true):=by rw[el1,epl]; exact wk
  have hb1:(insertAt es p ((intKind prog w).hash n,Value.int n tk)).size<scanBound:=by rw[hsz2]; unfold scanBound; omega
  generalize insertAt es p ((intKind prog w).hash n,Value.int n tk)=es1 at *;refine Aa (Ac ?_);have tail:wpAny (model prog w) A (storeSet S es1 t1 >>= fun _=>if (!false && t1.tooFull)=true then (do
      (match (relayAll t1 es1 (SetTable.grown es1.size)).2.2 with | true=>rule "set.scan.the-table-gave-way" | false=>pure ())
      storeSet S (relayAll t1 es1 (SetTable.grown es1.size)).1 (relayAll t1 es1 (SetTable.grown es1.size)).2.1
      pure (some true))
     else pure (some true)) (fun a s'=>wpAny (model prog w) A (match a with | some added=>pure added | none=>setAddHashedIn S (.int n tk) ((intKind prog w).hash n) 99999) Q E s') E s:=by
   refine Aa (wpAny_storeSet_of ho hd ?_ (fits_of_scanBound hb1));have hg:=zbk (es':=es1) (t':=t1) ho hd;have hsb1:=AZ s.heap S (Obj.putSet es1 t1);have fl:t1.fill=es.size+1:=by
    unfold SetTable.fill;rw[T1.dum,T1.size,A0,hsz2]
    rfl
   have tf:t1.tooFull=decide ((es.size+1)*5 ≥ t.mask*3):=by unfold SetTable.tooFull; rw[fl,p2]
   by_cases q:(es.size+1)*5 ≥ t.mask*3
   ·rw[tf,decide_eq_true q]
    simp only[Bool.not_false,Bool.and_self,if_true];have h5:es.size+1=5/\t.mask=7:=by rcases mk with ⟨a,b⟩ | ⟨a,b⟩ <;> omega
    obtain⟨es2,t3,r1,r2,r3,r4,r5⟩:=zjk (t:=t1) (es:=es1) (want:=SetTable.grown es1.size) (m2:=31) (by rw[hsz2,h5.1]; decide +kernel) cov31 rfl (by omega);have hp2:=relayAll_perm t1 es1 (SetTable.grown es1.size);rw[r1] at hp2 ⊢;dsimp only at hp2 ⊢;have hsz3:es2.size=es1.size:=by rw[<- Az,hp2.length_eq,Az]
    refine Aa (Ac ?_);refine Aa (wpAny_storeSet_of hg rfl ?_ (fits_of_scanBound (by rw[hsz3]; exact hb1)));refine Ac (Ac (h true _ ?_ (hsb1.trans (AZ _ S _))));rw[if_neg hout];exact⟨_,es2,ep+1+1,t3,zbk hg rfl,hex,rfl,r5,hel1.perm hp2,(hp2.map _).trans hp1,nd2,.inr ⟨r2,by omega⟩,by rw[r3,r4]; exact wk1⟩
   ·rw[tf,decide_eq_false q]
    simp only[Bool.and_false,Aj,if_false];have mk1:(t1.mask=7/\es1.size<=4) \/ (t1.mask=31/\es1.size<=18):=by
     rcases mk with ⟨a,b⟩ | ⟨a,b⟩
     ·left; omega
     ·right; omega
    refine Ac (Ac (h true _ ?_ hsb1));rw[if_neg hout];exact⟨_,es1,ep+1,t1,hg,hex,rfl,T1,hel1,hp1,nd2,mk1,wk1⟩
  cases hpl:t1.plain with
  | true=>
   simp only[if_true];refine Aa ?_;rw[hashByValue_scannable 8 rfl];refine Ac ?_;simp only[plainKind,if_true];exact tail
  | false=>
   simp only[Aj,if_false];refine Aa (Ac ?_);simp only[if_true];exact tail
end
end STb
end
section
namespace STb
open PySem PySem.SetTable PyProof.Rows
section
variable {prog:Program}{w:World}{A:Around}{R:Result->Shared->Prop}{I:Addr}{fp wr:List Addr}{G:Array GenState->Array GenState->Prop}{n:Nat}{P:Nat->Value->Prop}{St:Nat->Shared->Prop}
theorem zkm (W:WalksS prog w A.in1 I fp wr G n P St) (S:Addr) (hSf:S∉fp)
  (val:Nat->Int) (hval:∀i v,P i v->∃t,v=.int (val i) t) (hb:n<=18) :
  ∀(k i:Nat) (s:Shared),n - i=k->i<=n->St i s->SI prog w s.heap S (firstMet val i)->
   (∀s',Moved (S::wr) G s s'->SI prog w s'.heap S (firstMet val n)->R (.ok (.ret .none)) s')->
   codeAny (model prog w) A (.builtin "set.update.loop" ⟨[.ref S,.ref I],[]⟩) R s:=by
 have hSw:S∉wr:=fun h=>hSf (W.sub _ h);have hsub:∀b∈wr,b∈S::wr:=fun b hb=>Ax _ hb;intro k
 induction k with
 | zero=>
  intro i s hk hi hst hS hR;have hin:i=n:=by omega
  subst hin;refine A6 F.entry_set_update_loop ?_;rw[A1 F.plain_set_update_loop _];show wpAny _ A.in1 (pyNext (.ref I) >>= _) _ _ s;refine Aa (W.done s _ _ hst fun s' hm=>?_);show wpAny _ A.in1 (ret Value.none) _ _ s';exact Ac (hR s' (hm.mono hsub) (hS.keep fun o e=>hm.heap S o hSw e))
 | succ k ih=>
  intro i s hk hi hst hS hR;have hlt:i<n:=by omega
  refine A6 F.entry_set_update_loop ?_;rw[A1 F.plain_set_update_loop _];show wpAny _ A.in1 (pyNext (.ref I) >>= _) _ _ s;refine Aa (W.item i s _ _ hlt hst fun v s' hP hst' hm=>?_);obtain⟨t,rfl⟩:=hval i v hP;have hS':SI prog w s'.heap S (firstMet val i):=hS.keep fun o e=>hm.heap S o hSw e;show wpAny _ A.in1 (holding [Value.int (val i) t] (setAdd S (.int (val i) t)) >>= _) _ _ s';refine Aa (AJ ?_);unfold setAdd;refine AJ ?_;refine Aa ((intKind prog w).pyHash (k:=val i) (intKind_is _ _ _ _) ?_);have hroom:(firstMet val i).length<18:=by have:=firstMet_length_le val i; omega
  refine zlN (s:={ s' with toks:=s'.toks+1 }) hS' hroom fun r h' hS2 hsb=>?_;have hSi:SI prog w h' S (firstMet val (i+1)):=by
   rw[firstMet_succ];unfold step_dedup
   by_cases q:val i∈firstMet val i
   ·rw[if_pos q] at hS2; rw[if_pos (List.any_eq_true.mpr ⟨_,q,by simp⟩)]; exact hS2
   ·rw[if_neg q] at hS2; rw[if_neg fun z=>by obtain⟨x,hx,e⟩:=List.any_eq_true.mp z; exact q (eq_of_beq e ▸ hx)]; exact hS2
  refine Ac ⟨plainId_quiet F.plain_set_update_loop _,ih (i+1) _ (by omega) hlt (W.frame _ s' _ _ hst' (Nat.le_succ _) fun b hb o e=>?_) hSi fun s'' hm'' hS''=>?_⟩
  ·rw[hsb.2 b (fun h:b=S=>hSf (by rw[<- h]; exact hb))]; exact e
  ·refine hR s'' (Moved.trans W.gtrans ((hm.mono hsub).then_heap (Nat.le_succ _) fun b o hb e=>?_) hm'') hS''
   rw[hsb.2 b (fun h:b=S=>hb (by rw[h]; exact AB))]; exact e
end
section
variable {prog:Program}{w:World}{A:Around}{E:Value->Shared->Prop}{s:Shared}
theorem zdM {l:Addr}{items:Array Value}{ns:List Int}{Q:Value->Shared->Prop}
  (hh:A.handled=none) (hl:s.heap.IsList l items) (hi:IntsAre items.toList ns) (hb:items.size<=18)
  (h:∀(h':Heap) (tk:Nat),SI prog w h' s.heap.objs.size (dd ns)->
   (∀b o,b<s.heap.objs.size->s.heap.get? b=some o->h'.get? b=some o)->Q (.ref s.heap.objs.size) { s with heap:=h',toks:=tk }) :
  wpAny (model prog w) A (call (.type "set") [.ref l]) Q E s:=by
 obtain⟨c,tl,hmro⟩:=F.called_set.mro;have hmade:=F.called_set.made;have hsub:=F.called_set.sub;have hfm:firstMet (fun i=>ns.getD i 0) items.size=dd ns:=by
  have hn:items.size=ns.length:=by rw[<- Az]; exact hi.length
  rw[hn,ze6 ns _ (Af _),List.take_length]
 refine wpAny_call (codeAny_of_tree ?_);show wpAny _ _ (callAny (.type "set") _) _ _ _;refine Ac ⟨Code.quiet_builtin _ (by decide +kernel),A6 F.entry_type_call ?_⟩;rw[Around.under_plain (weight_type_call_type "set" [.ref l] []) rfl];have h1:=F.called_set.notType;have h2:=F.called_set.canCreate;have hct:=F.typeCall_set_1 (.ref l)
 repeat (any_goals (first | assumption | wp_step))
 refine codeAny_mono (zfL (.ref l) (E:=E) (Q₁:=fun obj s₁=>∃led:Bool,(w.params.followText "set-order"=true \/ led=true)/\obj=.ref s.heap.objs.size/\s₁={ s with heap:=s.heap.push { cls:=.type "set",dict:=none,data:=.set #[] 0 (.fresh 0 0 led) } }) ⟨_,by cases w.params.followText "set-order" <;> simp,rfl,rfl⟩) fun r s₁ hr=>?_;cases r with
 | error e=>exact hr
 | ok fl=>
  cases fl with
  | ret obj=>
   obtain⟨led,hled,rfl,rfl⟩:=hr;have hS:(s.heap.push { cls:=.type "set",dict:=none,data:=.set #[] 0 (.fresh 0 0 led) }).get? s.heap.objs.size=some { cls:=.type "set",dict:=none,data:=.set #[] 0 (.fresh 0 0 led) }:=Al _ rfl;have hTy:Shared.TypeIs { s with heap:=s.heap.push { cls:=.type "set",dict:=none,data:=.set #[] 0 (.fresh 0 0 led) } } (.ref s.heap.objs.size) "set":=⟨_,hS,rfl⟩;have hli:=F.called_set.init.lookup;have hbi:=F.called_set.init.bind (.ref s.heap.objs.size)
   repeat (any_goals (first | assumption | wp_step))
   refine codeAny_mono (codeAny_call_builtin (R:=wants (fun r s₂=>r=.none/\∃h' tk,s₂={ s with heap:=h',toks:=tk }/\
     SI prog w h' s.heap.objs.size (dd ns)/\
     (∀b o,b<s.heap.objs.size->s.heap.get? b=some o->h'.get? b=some o)) E) F.called_set.init.plain F.entry_set_init (check_set_init_1 hTy ?_)) fun r₂ s₂ hr₂=>?_
   ·obtain⟨ol,hol,hcl,nl,hdl⟩:=hl
    obtain⟨ocls,odict,odata,oslots⟩:=ol;simp only at hcl hdl;subst hcl; subst hdl;have hol':(s.heap.push { cls:=.type "set",dict:=none,data:=.set #[] 0 (.fresh 0 0 led) }).get? l=some { cls:=.type "list",dict:=odict,data:=.seq items nl,slots:=oslots }:=Ad _ hol;have hsls:=F.sub_list_set;have hslf:=F.sub_list_frozenset;have hne:(Value.type "list" == Value.type "dict")=false:=by decide
    have hl1:(s.heap.push { cls:=.type "set",dict:=none,data:=.set #[] 0 (.fresh 0 0 led) }).IsList l items:=⟨_,hol',rfl,nl,rfl⟩;unfold Builtin.«set.__init__» noKeywords Builtin.Frozenset.updateFrom;generalize hPI:pyIter=PI
    wp_walk
    subst hPI;refine wpAny_pyIter_list hl1 ?_;refine Aa (wpAny_runValue ?_);have hlS:l<s.heap.objs.size:=Ah hol;have hh3:A.in1.in1.in1.handled=none:=by simp[hh]
    have hneI:l≠(s.heap.push { cls:=.type "set",dict:=none,data:=.set #[] 0 (.fresh 0 0 led) }).objs.size:=by
     rw[Heap.size_push]; exact An (AL hlS)
    have hSf:s.heap.objs.size∉[(s.heap.push { cls:=.type "set",dict:=none,data:=.set #[] 0 (.fresh 0 0 led) }).objs.size,l]:=by
     rw[Heap.size_push]; simp only[List.mem_cons,List.mem_singleton,List.not_mem_nil,or_false,not_or];exact⟨An (Nat.lt_succ_self _),Nat.ne_of_gt hlS⟩
    have hval:∀(i:Nat) (v:Value),items[i]?=some v->∃t,v=.int ((fun i=>ns.getD i 0) i) t:=fun i v hv=>
     PyProof.Rows.IntsAre.int_at hi i v (by rw[AH]; exact hv)
    refine zkm ((Walks.list hh3 _ l hneI items).toS) s.heap.objs.size
     hSf (fun i=>ns.getD i 0) hval hb (items.size - 0) 0 _ (by omega) (AV _)
     ⟨⟨_,Al _ rfl,rfl,rfl⟩,⟨_,Ad _ hol',rfl,nl,rfl⟩⟩ ?hS0 ?hR
    case hS0=>
     have hget:∀oI,((s.heap.push { cls:=.type "set",dict:=none,data:=.set #[] 0 (.fresh 0 0 led) }).push oI).get? s.heap.objs.size
      =some { cls:=.type "set",dict:=none,data:=.set #[] 0 (.fresh 0 0 led) }:=fun oI=>Ad _ hS
     exact⟨_,#[],0,.fresh 0 0 led,hget _,⟨rfl,rfl,rfl⟩,rfl,(by simpa using zfu 0 0 led),fun e he=>by simp at he,List.Perm.refl _,List.nodup_nil,.inl ⟨rfl,AV _⟩,hled.imp id fun z=>⟨z,rfl⟩⟩
    case hR=>
     intro s' hm hS';obtain⟨h',g',d',tk',os'⟩:=s';have eg:g'=s.gens:=hm.gens;have ed:d'=s.drawn:=hm.drawn;have eo:os'=s.os:=hm.os;subst eg; subst ed; subst eo;show wpAny _ _ _ _ _ _;refine Ac ?_;show wpAny _ _ (ret Value.none) _ _ _;rw[hfm] at hS';refine Ac ⟨rfl,h',tk',rfl,hS',fun b o hb e=>?_⟩;have hb1:b≠s.heap.objs.size:=An hb;have hb2:b≠(s.heap.push { cls:=.type "set",dict:=none,data:=.set #[] 0 (.fresh 0 0 led) }).objs.size:=by
      rw[Heap.size_push]; exact An (AL hb)
     exact hm.heap b o (by simp only[List.mem_cons,List.mem_singleton,List.not_mem_nil,or_false,not_or]; exact⟨hb1,hb2⟩) (Ad _ (Ad _ e))
   ·cases r₂ with
    | error e=>exact hr₂
    | ok fl₂=>
     cases fl₂ with
     | ret r=>
      obtain⟨rfl,h',tk,rfl,hS',hk'⟩:=hr₂
      repeat (any_goals (first | assumption | wp_step))
      exact h _ _ hS' hk'
     | _=>exact hr₂.elim
  | _=>exact hr.elim
end
end STb
namespace L2
open PySem PySem.Spec PyProof.Rows
def SetZ (P:Program) (w:World) (D:Addr) (ns:List Int):HO:=.ext fun h=>STb.SI P w h D ns
section
variable {X:Cx}
theorem zlk {P:Program}{w:World}{H:Hp}{h:Heap}{D:Addr}{ns:List Int} (x:STb.SI P w h D ns):zF P w H h D (SetZ P w D ns):=
 ⟨x,(let ⟨o,_,_,_,h1,_⟩:=x; ⟨o,h1⟩),fun h1 h2 y kp=>y.keep fun o e=>kp o e⟩
theorem zkI {pins:List (Addr×Obj)}{s:Shared}{σ:St}{H:Hp}{D:Addr}{ns:List Int} (I:Inv X pins σ H s) (e:H D=some (SetZ X.prog X.w D ns)):STb.SI X.prog X.w s.heap D ns:=
 (show zF X.prog X.w H s.heap D (SetZ X.prog X.w D ns) from I.hok D _ e).1
theorem zbr (hc:X.calm=true):zat X (.type "set") (fun xs H Q=>∃(l:Addr) (ns:List Int),xs=[.ref l]/\SqL X.K H l (ns.map V.int)/\ns.length<=18/\
  ∀D,H D=none->Q (.ref D) (upd H D (SetZ X.prog X.w D (STb.dd ns)))):=by
 intro pins s σ H xs us Q I r h;obtain⟨l,ns,rfl,hq,hz,q⟩:=h;obtain⟨u,rfl,ru⟩:=vals1 r;cases ru;obtain⟨its,r1,p1,_⟩:=I.list hq;have hi:=intsAre_of r1;have hn:its.length=ns.length:=by simpa using (Paired.length r1).symm
 refine STb.zdM (ns:=ns) (I.ok.hd hc) p1.isList (by simpa using hi) (by rw[Ai]; omega) fun h' tk T kk=>?_;exact⟨.ref s.heap.objs.size,_,I.laid (o:=SetZ X.prog X.w s.heap.objs.size (STb.dd ns)) (fun b u e=>kk b u (Ah e) e) (Af _) (zlk T),rfl,q _ (I.hok.fresh (Af _))⟩
end
end L2
end
section
namespace STb
open PySem PySem.SetTable PyProof.Rows
def ord (w:World) (S:Addr) (ep:Nat) (es:Array (Int×Value)):Array (Int×Value):=if w.params.followText "set-order"=true then pickOrder (w.params.setOrder S ep) es else es
theorem zdB (w:World) (S:Addr) (ep:Nat) (es:Array (Int×Value)):(ord w S ep es).toList.Perm es.toList:=by
 unfold ord;split
 ·obtain⟨l,h1,h2⟩:=zeE (w.params.setOrder S ep) es.size 0 es.toList #[] (by simp)
  have:(pickOrder (w.params.setOrder S ep) es).toList=l:=by simpa[pickOrder] using h2
  rw[this]; exact h1
 ·exact List.Perm.refl _
theorem zga {xs:Array Nat} (hr:Ris xs):below xs 0=0:=by
 obtain⟨h1,h2,_⟩:=zaM hr 0;rcases Nat.eq_zero_or_pos (below xs 0) with e | e
 ·exact e
 ·have hx:(0:Nat)<xs.size:=by omega
  exact absurd (h2 0 xs[0] (getElem?_pos xs 0 hx) e) (Nat.not_lt_zero _)
theorem zgu {xs:Array Nat} (hr:Ris xs) {i j:Nat} (e:xs[i]?=some j):below xs (j+1)=i+1:=by
 obtain⟨h1,h2,h3⟩:=zaM hr (j+1);have hi:i<xs.size:=(Array.getElem?_eq_some_iff.mp e).1;rcases Nat.lt_trichotomy (below xs (j+1)) (i+1) with q | q | q
 ·have:=h3 i j e (by omega); omega
 ·exact q
 ·have hx:i+1<xs.size:=by omega
  have a:=h2 (i+1) xs[i+1] (getElem?_pos xs (i+1) hx) q;have b:=hr i (i+1) j xs[i+1] e (getElem?_pos xs (i+1) hx) (by omega);omega
theorem zfw:Manifest.owners.lookup (String.ofList ['r','o','t','a','r','e','t','i','_','t','e','s'].reverse)=some Manifest.sig_set_iterator:=by kernel_rfl
theorem zad:Slot "set_iterator" "__next__" "set_iterator.__next__":=
 .of (owner:="set_iterator") (n:="__next__") (by rw[typeLookup_type,builtinLookup_eq_fast]; kernel_rfl) (by decide +kernel) (by decide +kernel) (by decide +kernel)
  (by first | exact .inl (by decide +kernel) | exact .inr (by decide +kernel)) (by rw[isSubtype_type]; kernel_rfl)
theorem zbI:entryFor table "set_iterator.__next__"=some Builtin.«set_iterator.__next__»:=entryFor_of_tree (by kernel_rfl)
theorem zb7 (a:Value):argsOk "set_iterator.__next__" ⟨[a],[]⟩:=by
 unfold argsOk; rw[signature?_of (id:="set_iterator.__next__") (n:=['_','_','t','x','e','n','_','_']) (o:=['r','o','t','a','r','e','t','i','_','t','e','s']) (by kernel_rfl) zfw]; kernel_rfl
theorem zb9:Slot "set_iterator" "__iter__" "set_iterator.__iter__":=
 .of (owner:="set_iterator") (n:="__iter__") (by rw[typeLookup_type,builtinLookup_eq_fast]; kernel_rfl) (by decide +kernel) (by decide +kernel) (by decide +kernel)
  (by first | exact .inl (by decide +kernel) | exact .inr (by decide +kernel)) (by rw[isSubtype_type]; kernel_rfl)
theorem zdx:entryFor table "set_iterator.__iter__"=some Builtin.«dict_keyiterator.__iter__»:=
 entryFor_alias (id':="dict_keyiterator.__iter__") (by kernel_rfl) (by first | rfl | decide +kernel | (unfold String.splitOn; simp +decide [String.splitOnAux])) (by decide +kernel) (by kernel_rfl)
theorem zep (a:Value):argsOk "set_iterator.__iter__" ⟨[a],[]⟩:=by
 unfold argsOk; rw[signature?_of (id:="set_iterator.__iter__") (n:=['_','_','r','e','t','i','_','_']) (o:=['r','o','t','a','r','e','t','i','_','t','e','s']) (by kernel_rfl) zfw]; kernel_rfl
theorem zcT:entryFor table "set.__iter__"=some Builtin.«frozenset.__iter__»:=
 entryFor_alias (id':="frozenset.__iter__") (by kernel_rfl) rfl (by decide +kernel) (by kernel_rfl)
def ItS (h:Heap) (I S:Addr) (slot i n ep:Nat):Prop:=h.get? I=some { cls:=.type "set_iterator",dict:=none,data:=.fields #[.int slot 0,.int i 0,.ref S,.int n 0,.int ep 0],slots:=#[] }
section
variable {prog:Program}{w:World}{A:Around}{E:Value->Shared->Prop}{s:Shared}{I S:Addr}{o:Obj}{es:Array (Int×Value)}{ep:Nat}{t:SetTable}
theorem zib {slot i:Nat}{Q:Option (Value×Nat)->Shared->Prop} (ho:s.heap.get? S=some o) (hd:o.data=.set es ep t) (T:Tb t (es.map (·.1))) (wk:w.params.followText "set-order"=true \/ (t.led=true/\t.plain=true))
  (hb:w.params.followText "set-order"≠true->below t.place slot=i)
  (h:∀r,(∀e,(ord w S ep es)[i]?=some e->∃nx,r=some (e.2,nx)/\(w.params.followText "set-order"≠true->below t.place nx=i+1))->((ord w S ep es)[i]?=none->r=none)->Q r s) :
  wpAny (model prog w) A (setNext S slot i ep) Q E s:=by
 have fit:=fits_of T;have hsz:t.place.size=es.size:=by rw[T.size,A0]
 unfold setNext;refine Aa (wpAny_setState_of ho hd fit ?_);dsimp only;refine Aa (m:=setsByText) ?_;unfold setsByText;refine Aa (wpAny_askSetting (Ac ?_))
 by_cases q:w.params.followText "set-order"=true
 ·show wpAny _ _ (if w.params.followText "set-order"=true then _ else _) _ _ _
  rw[if_pos q,if_neg (by simp)];refine Aa ?_;unfold setWalk;refine Aa (wpAny_setState_of ho hd fit ?_);dsimp only;refine Aa (m:=setsByText) ?_;unfold setsByText;refine Aa (wpAny_askSetting (Ac ?_));show wpAny _ _ (if w.params.followText "set-order"=true then _ else _) _ _ _;rw[if_pos q];refine Aa (wpAny_askSetting ?_);refine Ac (Ac (h _ (fun e he=>?_) fun he=>?_))
  ·have he':(pickOrder (w.params.setOrder S ep) es)[i]?=some e:=by unfold ord at he; rw[if_pos q] at he; exact he
   exact⟨slot,by show Option.map _ (pickOrder (w.params.setOrder S ep) es)[i]?=_; rw[he']; rfl,fun z=>absurd q z⟩
  ·have he':(pickOrder (w.params.setOrder S ep) es)[i]?=none:=by unfold ord at he; rw[if_pos q] at he; exact he
   show Option.map _ (pickOrder (w.params.setOrder S ep) es)[i]?=_;rw[he']; rfl
 ·show wpAny _ _ (if w.params.followText "set-order"=true then _ else _) _ _ _
  rw[if_neg q];obtain⟨w1,w2⟩:=wk.resolve_left q;have eo:ord w S ep es=es:=by unfold ord; rw[if_neg q]
  rw[eo] at h;show wpAny _ _ (if (!t.plain && decide (es.size > 1))=true then _ else _) _ _ _;rw[w2];simp only[Bool.not_true,Bool.false_and,Aj,if_false];show wpAny _ _ ((if (!t.led && !es.isEmpty)=true then _ else _) >>= _) _ _ _;rw[w1];simp only[Bool.not_true,Bool.false_and,Aj,if_false];refine Aa (Ac ?_);rw[hb q];refine Ac (h _ (fun e he=>?_) fun he=>?_)
  ·have hi:i<t.place.size:=by rw[hsz]; exact (Array.getElem?_eq_some_iff.mp he).1
   have hp:t.place[i]?=some (t.place[i]'hi):=Array.getElem?_eq_getElem hi;rw[he,hp];exact⟨(t.place[i]'hi)+1,rfl,fun _=>zgu T.ris hp⟩
  ·rw[he]
theorem zlq (hh:A.handled=none) (hne:S≠I) (hd:o.data=.set es ep t) (T:Tb t (es.map (·.1))) (wk:w.params.followText "set-order"=true \/ (t.led=true/\t.plain=true)) :
  Walks prog w A I [I,S] [I] es.size (fun i v=>((ord w S ep es)[i]?).map (·.2)=some v) (fun i h=>(∃slot,ItS h I S slot i es.size ep/\(w.params.followText "set-order"≠true->below t.place slot=i))/\h.get? S=some o) where
 sub:=fun b hb=>by simp at hb; simp[hb]
 frame:=fun _ _ _ st hk=>by
  obtain⟨⟨slot,a,b⟩,c⟩:=st;exact⟨⟨slot,hk I (by simp) _ a,b⟩,hk S (by simp) _ c⟩
 item:=fun i s Q E hi st hQ=>by
  obtain⟨hp,g,dr,tk,os⟩:=s;obtain⟨⟨slot,hit,hb⟩,ho⟩:=st;have hT:Shared.TypeIs ⟨hp,g,dr,tk,os⟩ (.ref I) "set_iterator":=⟨_,hit,rfl⟩;unfold pyNext;refine Aa (wpAny_attempt (AX (name:=Str.ofString "__next__") hT zad (AR zad hT zbI ?_ (zb7 _))));unfold Builtin.«set_iterator.__next__»;refine Aa (Ac ?_);refine Aa (wpAny_fieldsOf hit rfl ?_);dsimp only;refine Aa (wpAny_setEntries_of ho hd (fits_of T) ?_);rw[if_neg (by simp)]
  try dsimp only
  refine Aa ?_;rw[Int.toNat_natCast,Int.toNat_natCast,Int.toNat_natCast];have hsz:(ord w S ep es).size=es.size:=by rw[<- Az,(zdB w S ep es).length_eq,Az]
  have he:(ord w S ep es)[i]?=some (ord w S ep es)[i]:=getElem?_pos _ _ (by rw[hsz]; exact hi);refine zib (s:=⟨hp,g,dr,tk,os⟩) ho hd T wk hb fun r h1 _=>?_;obtain⟨nx,rfl,hnx⟩:=h1 _ he;dsimp only;refine Aa (wpAny_setField_rec hit (by simp) fun h₁ he₁ hs₁=>?_);replace hs₁:A2 I hp h₁:=hs₁;refine Aa (wpAny_setField_rec he₁ (by simp) fun h₂ he₂ hs₂=>?_);replace hs₂:A2 I h₁ h₂:=hs₂;refine Ac ⟨_,rfl,Ac (hQ _ h₂ tk (by rw[he]; rfl) ⟨⟨nx,?_,hnx⟩,hs₂.extBut _ _ hne (hs₁.extBut _ _ hne ho)⟩ fun b o hb e=>?_)⟩
  ·unfold ItS
   have e:((i+1:Nat):Int)=(i:Int)+1:=by omega
   rw[e]
   simpa[rawInt] using he₂
  ·have hbI:b≠I:=fun z=>hb (by simp[z])
   exact hs₂.extBut b o hbI (hs₁.extBut b o hbI e)
 done:=fun s Q E st hQ=>by
  obtain⟨hp,g,dr,tk,os⟩:=s;obtain⟨⟨slot,hit,hb⟩,ho⟩:=st;have hT:Shared.TypeIs ⟨hp,g,dr,tk,os⟩ (.ref I) "set_iterator":=⟨_,hit,rfl⟩;unfold pyNext;refine Aa (wpAny_attempt (AX (name:=Str.ofString "__next__") hT zad (AR zad hT zbI ?_ (zb7 _))));unfold Builtin.«set_iterator.__next__»;refine Aa (Ac ?_);refine Aa (wpAny_fieldsOf hit rfl ?_);dsimp only;refine Aa (wpAny_setEntries_of ho hd (fits_of T) ?_);rw[if_neg (by simp)]
  try dsimp only
  refine Aa ?_;rw[Int.toNat_natCast,Int.toNat_natCast,Int.toNat_natCast];have hsz:(ord w S ep es).size=es.size:=by rw[<- Az,(zdB w S ep es).length_eq,Az]
  have he:(ord w S ep es)[es.size]?=none:=Array.getElem?_eq_none (by omega);refine zib (s:=⟨hp,g,dr,tk,os⟩) ho hd T wk hb fun r _ h2=>?_;obtain rfl:=h2 he;dsimp only;refine Aa (wpAny_setField hit rfl (by simp) ?_);refine Aa ?_;simp only[newExc,newTuple];refine Aa (AO ?_ (by size_fits));refine Aa (m:=firstArgMember _ _) (wpAny_of_eq (a:=Value.none) (by first | rfl | (simp only[firstArgMember]; rfl)) ?_);refine AO ?_ (by size_fits);simp only[raiseNew];refine Aa (wpAny_handled ?_);rw[show A.in1.handled=none from hh];refine Aa (Ac (wpAny_throw ?_));refine Aa (wpAny_isInstance (T:="StopIteration") (b:=true) ⟨_,Al _ rfl,rfl⟩ isSubtype_stop ?_);exact Ac (hQ _ tk fun b o hb e=>(((AZ ..).extBut.push _).push _) b o (fun h=>hb (by simp[h])) e)
 self:=fun i s Q E st hQ=>by
  obtain⟨⟨slot,hit,hb⟩,ho⟩:=st;have hT:s.TypeIs (.ref I) "set_iterator":=⟨_,hit,rfl⟩;refine wpAny_pyIter_slot hT zb9 (AR zb9 hT zdx ?_ (zep _));show wpAny _ _ (ret (.ref I)) _ _ s;exact Ac ⟨_,rfl,"set_iterator",_,hT,zad.lookup,hQ⟩
theorem zks {Q:Value->Shared->Prop} (ho:s.heap.get? S=some o) (hex:o.ExactSet) (hd:o.data=.set es ep t) (T:Tb t (es.map (·.1))) (wk:w.params.followText "set-order"=true \/ (t.led=true/\t.plain=true))
  (hQ:Q (.ref s.heap.objs.size) { s with heap:=s.heap.push { cls:=.type "set_iterator",data:=.fields #[.int 0 0,.int 0 0,.ref S,.int es.size 0,.int ep 0] } }):wpAny (model prog w) A (pyIter (.ref S)) Q E s:=by
 have hT:s.TypeIs (.ref S) "set":=⟨o,ho,hex.1⟩;have fit:=fits_of T;refine wpAny_pyIter_slot hT PySem.F.slot_set_iter (AR PySem.F.slot_set_iter hT zcT ?_ (PySem.F.args_set_iter_1 _));unfold Builtin.«frozenset.__iter__»;refine Aa (Aa (Ac (Ac ?_)));unfold Builtin.Frozenset.sizeOf;refine Aa (Aa (wpAny_setEntries_of ho hd fit (Ac ?_)));refine Aa ?_;unfold setDrawn;refine Aa (wpAny_setState_of ho hd fit ?_);dsimp only;refine Aa (m:=setsByText) ?_;unfold setsByText;refine Aa (wpAny_askSetting (Ac ?_));show wpAny _ _ (pure (!w.params.followText "set-order" && (!t.plain && decide (es.size > 1)))) _ _ _;have e0:(!w.params.followText "set-order" && (!t.plain && decide (es.size > 1)))=false:=by
  rcases wk with e | ⟨_,e⟩ <;> rw[e] <;> simp
 rw[e0];refine Ac ?_;simp only[Aj,if_false];refine Aa (Ac ?_);refine Aa (wpAny_setEpoch_of ho hd fit ?_);unfold newFields;refine Aa (AO (Ac ⟨_,rfl,"set_iterator",_,⟨_,Al _ rfl,rfl⟩,zad.lookup,?_⟩) (by size_fits))
 simpa[rawInt] using hQ
theorem zkS {Q:Bool->Shared->Prop} (hT:s.TypeIs (.ref S) "set") (h:Q false s):wpAny (model prog w) A (Builtin.List.listLengthHint (.ref S)) Q E s:=by
 unfold Builtin.List.listLengthHint;refine Aa (wpAny_specialOf hT PySem.F.slot_set_len.lookup ?_);generalize hid:("set.__len__":String)=id0
 wp_delta
 rw[show splitId id0=some ("set","__len__") from by subst hid; decide +kernel];subst hid;refine Aa (wpAny_isInstance (T:="set") (b:=true) hT (by rw[isSubtype_type]; kernel_rfl) ?_);refine wpAny_ite_split (fun hab=>absurd hab (by decide)) (fun _=>?_);refine wpAny_ite_split (fun _=>?_) (fun hab=>absurd (by decide +kernel) hab);refine Aa (wpAny_typeOf hT ?_);exact Ac h
end
end STb
end
section
namespace STb
open PySem PySem.SetTable PyProof.Rows Srt PySem.W
section
variable {prog:Program}{w:World}{A:Around}{E:Value->Shared->Prop}{s:Shared}{S:Addr}
theorem zlO {o:Obj}{es:Array (Int×Value)}{ep:Nat}{t:SetTable} (hex:o.ExactSet) (hd:o.data=.set es ep t) (T:Tb t (es.map (·.1))) (wk:w.params.followText "set-order"=true \/ (t.led=true/\t.plain=true)) :
  KdlSrc prog w "set" S S es.size (fun i v=>((ord w S ep es)[i]?).map (·.2)=some v) (fun h=>h.get? S=some o) where
 type:=fun s h=>⟨o,h,hex.1⟩
 there:=fun h e=>⟨Ah e,Ah e⟩
 keep:=fun h h' e k=>k S (.inl rfl) _ e
 notList:=by decide
 notTuple:=by decide
 hint:=fun A E s Q h q=>zkS ⟨o,h,hex.1⟩ q
 iter:=fun A s hh h=>⟨_,_,fun E Q q=>zks h hex hd T wk q,zlq (o:=o) hh (An (Ah h)) hd T wk,⟨⟨0,Al _ rfl,fun _=>zga T.ris⟩,Ad _ h⟩⟩
theorem zhh {T:String}{r d:Addr}{n:Nat}{P:Nat->Value->Prop}{OK:Heap->Prop}{R:List Value->Shared->Prop} (K:KdlSrc prog w T r d n P OK) (hh:A.handled=none) (hok:OK s.heap) (hn:n<=sizeLine)
  (h:∀(h':Heap) (tk:Nat) (acc:Array Value),s.heap.objs.size<=h'.objs.size->(∀b o,s.heap.get? b=some o->h'.get? b=some o)->ItemsOf P acc n->R acc.toList { s with heap:=h',toks:=tk }) :
  wpAny (model prog w) A (collect (.ref r)) R E s:=by
 obtain⟨hr,hd⟩:=K.there _ hok;unfold collect;refine Aa (wpAny_runValue (A6 entry_proto_collect' ?_));rw[A1 PySem.F.plain_proto_collect _];show wpAny _ A.in1 (do again (.builtin "list.__iadd__" ⟨[<- newList [],.ref r],[]⟩)) _ _ s;refine Aa (AO (Ac ⟨plainId_quiet PySem.F.plain_list_iadd _,A6 entry_list_iadd' ?_⟩));rw[A1 PySem.F.plain_list_iadd _];show wpAny _ A.in1 (Builtin.List.listExtendWith (.ref s.heap.objs.size) (.ref r) (.ref s.heap.objs.size)) _ _ _;have fin:∀(h':Heap) (tk:Nat) (acc:Array Value) (c:Nat),(∀b o,s.heap.get? b=some o->h'.get? b=some o)->h'.get? s.heap.objs.size=some { cls:=.type "list",dict:=none,data:=.seq acc c,slots:=#[] }->ItemsOf P acc n->
   wpAny (model prog w) A (do match (<- load s.heap.objs.size).data with
    | .seq xs _=>pure xs.toList
    | _=>unsupported "internal:collect") R E { s with heap:=h',toks:=tk }:=fun h' tk acc c hk hS hacc=>Aa (wpAny_load hS (Ac (h h' tk acc (Nat.le_of_lt (Ah hS)) hk hacc)))
 refine Ba (kdl_extend (A:=A) (s:={ s with heap:=s.heap.push { cls:=.type "list",data:=.seq ([]:List Value).toArray } })
  (R:=fun q s'=>∃h' tk acc c,q=Except.ok (Flow.ret (.ref s.heap.objs.size))/\s'={ s with heap:=h',toks:=tk }/\(∀b o,s.heap.get? b=some o->h'.get? b=some o)/\h'.get? s.heap.objs.size=some { cls:=.type "list",dict:=none,data:=.seq acc c,slots:=#[] }/\ItemsOf P acc n)
  K hh (K.keep _ _ hok fun b _ o e=>Ad _ e) s.heap.objs.size (Nat.ne_of_gt hr) (Nat.ne_of_gt hd) (.ref s.heap.objs.size) 0 (Al _ rfl)
  (fun h' tk acc c hk hS hacc=>⟨h',tk,acc,c,rfl,rfl,fun b o e=>hk b o (An (Ah e)) (Ad _ e),hS,hacc⟩) hn) (fun f s' x=>?_) fun e s' x=>?_
 ·cases f with
  | done f=>
   obtain⟨h',tk,acc,c,e,rfl,hk,hS,hacc⟩:=x;cases e;exact fin h' tk acc c hk hS hacc
  | again c₁=>
   refine⟨x.1,codeAny_mono x.2 fun q s₂ y=>?_⟩;obtain⟨h',tk,acc,c,rfl,rfl,hk,hS,hacc⟩:=y;exact fin h' tk acc c hk hS hacc
 ·obtain⟨_,_,_,_,e',_⟩:=x
  cases e'
theorem zhk {ns:List Int}{Q:Value->Shared->Prop} (hh:A.handled=none) (X:SI prog w s.heap S ns)
  (h:∀(D:Addr) (h':Heap) (tk e:Nat) (its:List Value) (ms:List Int) (out:Array Value),s.heap.objs.size<=D->(∀b o,s.heap.get? b=some o->h'.get? b=some o)->h'.get? D=some (seqObj "list" out e)->IntsAre its ms->ms.Perm ns->Out (ms.map fun n=>[n]) its out.toList->Q (.ref D) { s with heap:=h',toks:=tk }) :
  wpAny (model prog w) A (call (.builtin "sorted") [.ref S]) Q E s:=by
 obtain⟨o,es,ep,t,ho,hex,hd,T,hel,hp,nd,mk,wk⟩:=id X;have hz:es.size<=18:=by rcases mk with ⟨_,b⟩ | ⟨_,b⟩ <;> omega
 refine Calls.call_function_entry kind_sorted plain_sorted entry_sorted (args_sorted1 _) ?_;unfold Builtin.«sorted»;refine Aa (m:=checkCount "sorted" 1 1 _) (Ac ?_);refine Aa (zhh (A:=A.in1) (zlO (prog:=prog) (S:=S) hex hd T wk) hh ho (by rw[sizeLine_eq]; omega) fun h' tk acc hle hk hacc=>?_);have hop:=zdB w S ep es;have hsz:(ord w S ep es).toList.length=es.size:=by rw[hop.length_eq,Az]
 have ea:acc.toList=(ord w S ep es).toList.map (·.2):=by
  apply List.ext_getElem?;intro j;rw[Ap,AH,AH];cases q:acc[j]? with
  | none=>
   have:es.size<=j:=by rw[<- hacc.1]; exact Array.getElem?_eq_none_iff.mp q
   rw[Array.getElem?_eq_none (by rw[<- Az,hsz]; exact this)]
   rfl
  | some v=>exact (hacc.2 j v q).symm
 have hel2:ElemsOf (intKind prog w) (ord w S ep es).toList:=hel.perm hop;have hi:IntsAre acc.toList ((ord w S ep es).toList.map fun e=>iv e.2):=by
  rw[ea];generalize (ord w S ep es).toList=l at hel2
  induction l with
  | nil=>exact .nil
  | cons e l ih=>
   obtain⟨n,t',e1⟩:=zkc hel2 AB;subst e1;exact .cons n t' (ih hel2.tail)
 have hpm:((ord w S ep es).toList.map fun e=>iv e.2).Perm ns:=(hop.map _).trans hp;generalize ((ord w S ep es).toList.map fun e=>iv e.2)=ms at hi hpm;have hl:acc.toList.length=es.size:=by rw[Az]; exact hacc.1
 refine Aa (wpAny_newList ?_ (by rw[hl,sizeLine_eq]; omega));have hoL:(h'.push (seqObj "list" acc.toList.toArray 0)).get? h'.objs.size=some (seqObj "list" acc.toList.toArray 0):=Al _ rfl;refine Aa (AJ (AR slot_list_sort ⟨_,hoL,rfl⟩ entry_list_sort (zbe (s:={ s with heap:=h'.push (seqObj "list" acc.toList.toArray 0),toks:=tk }) (good:=fun _=>True) hoL (zeP hi) (fun _ _=>trivial) (by rw[hl,sizeLine_eq]; omega) (by omega) fun out hout=>⟨_,rfl,?_⟩) (args_list_sort _)));obtain⟨e,he⟩:=sortedHeap_at (out:=out) hoL;refine Ac ⟨_,rfl,h h'.objs.size _ tk e acc.toList ms out hle (fun b o e=>?_) he hi hpm hout⟩;have hb:b<h'.objs.size:=Ah (hk b o e);rw[sortedHeap_old (An hb) (by rw[size_push']; exact AL hb)];exact Ad _ (hk b o e)
end
end STb
namespace L2
open PySem PySem.Spec PyProof.Rows
section
variable {X:Cx}
theorem zfr {ns:List Int}{its:List Value}{out:List Value} (hi:IntsAre its ns) (ho:Srt.Out (ns.map fun n=>[n]) its out):∃ms:List Int,Vals (ms.map V.int) out/\ms.Perm ns/\ms.Pairwise (·<=·):=by
 obtain⟨ps,hp,ho,hs⟩:=ho;have hlen:its.length=ns.length:=hi.length;have all:∀p∈ps,∃n t,p.1=[n]/\p.2=Value.int n t:=fun p hp'=>by
  obtain⟨i,e⟩:=List.mem_iff_getElem?.mp (hp.mem_iff.mp hp');rw[Srt.zipget,Ap] at e;cases e1:ns[i]? with
  | none=>rw[e1] at e; simp at e
  | some n=>
   obtain⟨t,e2⟩:=hi.get i n e1;rw[e1,e2] at e;simp only[Option.map_some,Option.bind_some,Option.some.injEq] at e;subst e;exact⟨n,t,rfl,rfl⟩
 have vv:∀ps:List (List Int×Value),(∀p∈ps,∃n t,p.1=[n]/\p.2=Value.int n t)->Vals ((ps.map fun p=>p.1.headD 0).map V.int) (ps.map (·.2)):=by
  intro ps
  induction ps with
  | nil=>intro _; exact .nil
  | cons p ps ih=>
   intro h;obtain⟨n,t,e1,e2⟩:=h p AB;refine .cons ?_ (ih fun q hq=>h q (Ax _ hq));show RelV (V.int (p.1.headD 0)) p.2;rw[e1,e2];exact⟨t,rfl⟩
 refine⟨ps.map fun p=>p.1.headD 0,by rw[ho]; exact vv ps all,?_,?_⟩
 ·have h1:=hp.map (fun p:List Int×Value=>p.1.headD 0)
  have e:((ns.map fun n=>[n]).zip its).map (fun p:List Int×Value=>p.1.headD 0)=ns:=by
   rw[show (fun p:List Int×Value=>p.1.headD 0)=(fun l:List Int=>l.headD 0) ∘ Prod.fst from rfl,<- Aw,List.map_fst_zip (by rw[Ab]; lia),Aw];exact List.map_id' ns
  rw[e] at h1;exact h1
 ·rw[Bf]
  refine hs.imp_of_mem fun {p q} h1 h2 h3=>?_;obtain⟨n,t,e1,_⟩:=all p h1;obtain⟨m,t',e2,_⟩:=all q h2;rw[e1,e2,HT.zE] at h3;rw[e1,e2];show n<=m
  by_cases e:m=n
  ·lia
  ·rw[if_neg e] at h3
   have:=of_decide_eq_false h3
   lia
theorem zaZ (hc:X.calm=true):zat X (.builtin "sorted") (fun xs H Q=>∃(S:Addr) (ns:List Int),xs=[.ref S]/\H S=some (SetZ X.prog X.w S ns)/\∀(D:Addr) (ms:List Int),ms.Perm ns->ms.Pairwise (·<=·)->H D=none->Q (.ref D) (upd H D (.lst (ms.map V.int)))):=by
 intro pins s σ H xs us Q I r h;obtain⟨S,ns,rfl,hq,q⟩:=h;obtain⟨u,rfl,ru⟩:=vals1 r;cases ru;have hS:=zkI I hq;refine STb.zhk (I.ok.hd hc) hS fun D h' tk e its ms out hle kk he hi hp ho=>?_;obtain⟨ks,v1,v2,v3⟩:=zfr hi ho;have hz:ks.length<=sizeLine:=by
  obtain⟨o,es,ep,t,_,_,_,_,_,hp',_,mk,_⟩:=hS;have hk:ks.length=es.size:=by simpa using v2.length_eq.trans (hp.length_eq.trans hp'.length_eq.symm)
  rw[sizeLine_eq,hk];rcases mk with ⟨_,b⟩ | ⟨_,b⟩ <;> omega
 refine⟨.ref D,_,I.laid (o:=.lst (ks.map V.int)) (fun b u e=>kk b u e) hle (show zF X.prog X.w _ _ _ (.lst (ks.map V.int)) from ⟨by rw[Ab]; exact hz,out.toList,e,v1,by simpa using he⟩),rfl,q _ _ (v2.trans hp) v3 (I.hok.fresh hle)⟩
end
end L2
end
section
namespace STb
open PySem PySem.SetTable PyProof.Rows Srt PySem.W
section
variable {prog:Program}{w:World}{A:Around}{E:Value->Shared->Prop}{s:Shared}
theorem zgn {T:String}{r d:Addr}{n:Nat}{P:Nat->Value->Prop}{OK:Heap->Prop}{ns:List Int}{Q:Value->Shared->Prop} (K:KdlSrc prog w T r d n P OK) (hh:A.handled=none) (hok:OK s.heap) (hn:n<64)
  (hi:∀acc:Array Value,ItemsOf P acc n->IntsAre acc.toList ns)
  (h:∀(D:Addr) (h':Heap) (tk e:Nat) (its:List Value) (out:Array Value),s.heap.objs.size<=D->(∀b o,s.heap.get? b=some o->h'.get? b=some o)->h'.get? D=some (seqObj "list" out e)->IntsAre its ns->Out (ns.map fun n=>[n]) its out.toList->Q (.ref D) { s with heap:=h',toks:=tk }) :
  wpAny (model prog w) A (call (.builtin "sorted") [.ref r]) Q E s:=by
 refine Calls.call_function_entry kind_sorted plain_sorted entry_sorted (args_sorted1 _) ?_;unfold Builtin.«sorted»;refine Aa (m:=checkCount "sorted" 1 1 _) (Ac ?_);refine Aa (zhh (A:=A.in1) K hh hok (by rw[sizeLine_eq]; omega) fun h' tk acc hle hk hacc=>?_);have hi:=hi acc hacc;have hl:acc.toList.length=n:=by rw[Az]; exact hacc.1
 refine Aa (wpAny_newList ?_ (by rw[hl,sizeLine_eq]; omega));have hoL:(h'.push (seqObj "list" acc.toList.toArray 0)).get? h'.objs.size=some (seqObj "list" acc.toList.toArray 0):=Al _ rfl;refine Aa (AJ (AR slot_list_sort ⟨_,hoL,rfl⟩ entry_list_sort (zbe (s:={ s with heap:=h'.push (seqObj "list" acc.toList.toArray 0),toks:=tk }) (good:=fun _=>True) hoL (zeP hi) (fun _ _=>trivial) (by rw[hl,sizeLine_eq]; omega) (by omega) fun out hout=>⟨_,rfl,?_⟩) (args_list_sort _)));obtain⟨e,he⟩:=sortedHeap_at (out:=out) hoL;refine Ac ⟨_,rfl,h h'.objs.size _ tk e acc.toList out hle (fun b o e=>?_) he hi hout⟩;have hb:b<h'.objs.size:=Ah (hk b o e);rw[sortedHeap_old (An hb) (by rw[size_push']; exact AL hb)];exact Ad _ (hk b o e)
end
end STb
namespace L2
open PySem PySem.Spec PyProof.Rows
section
variable {X:Cx}
abbrev dZ (ps:List (Int×V)):HO:=.dK (ps.map fun p=>(Sum.inl p.1,p.2))
theorem ints_of {ps:List (Int×V)}:∀{m:List (Key×Value)}{as:List Value},KV (ps.map fun p=>((Sum.inl p.1:Key),p.2)) m->as.length=m.length->(∀(i:Nat) v,as[i]?=some v->∃k x,m[i]?=some (k,x)/\(zq X.prog X.w).is k v=true)->IntsAre as (ps.map (·.1)):=by
 induction ps with
 | nil=>
  intro m as q h1 _;cases q;cases as with
  | nil=>exact .nil
  | cons _ _=>simp at h1
 | cons p ps ih=>
  intro m as q h1 h2;cases q with
  | @cons _ q' _ qs hq t=>
   cases as with
   | nil=>simp at h1
   | cons v as=>
    obtain⟨k,x,g1,g2⟩:=h2 0 v rfl;simp only[List.getElem?_cons_zero,Option.some.injEq] at g1;have hk:(Sum.inl p.1:Key)=k:=by rw[g1] at hq; exact hq.1
    subst hk;obtain⟨t',e2⟩:∃t',v=Value.int p.1 t':=zj9 g2;subst e2;exact .cons _ _ (ih t (by simpa using h1) fun i v e=>by simpa using h2 (i+1) v (by simpa using e))
theorem zcU (hc:X.calm=true):zat X (.builtin "sorted") (fun xs H Q=>∃a ps,xs=[.ref a]/\H a=some (dZ ps)/\ps.length<64/\∀(D:Addr) (ms:List Int),ms.Perm (ps.map (·.1))->ms.Pairwise (·<=·)->H D=none->Q (.ref D) (upd H D (.lst (ms.map V.int)))):=by
 intro pins s σ H xs us Q I r h;obtain⟨a,ps,rfl,hq,hz,q⟩:=h;obtain⟨u,rfl,ru⟩:=vals1 r;cases ru;obtain⟨z,y,vs,rel,dd⟩:=zhR I.hok hq;obtain⟨ep,dd⟩:=dd.dictAt;have hl:ps.length=vs.length:=by simpa using rel.length
 refine STb.zgn (ns:=ps.map (·.1)) (PySem.W.kdl_dict (knd:=zq X.prog X.w) (kvs:=vs) (ep:=ep) y) (I.ok.hd hc) dd (by omega) (fun acc it=>ints_of (X:=X) rel (by simpa using it.1) fun i v e=>it.2 i v (by simpa using e)) fun D h' tk e its out hle kk he hi ho=>?_;obtain⟨ks,v1,v2,v3⟩:=zfr hi ho;have hk:ks.length=ps.length:=by simpa using v2.length_eq
 refine⟨.ref D,_,I.laid (o:=.lst (ks.map V.int)) (fun b u e=>kk b u e) hle (show zF X.prog X.w _ _ _ (.lst (ks.map V.int)) from ⟨by rw[Ab,sizeLine_eq]; omega,out.toList,e,v1,by simpa using he⟩),rfl,q _ _ v2 v3 (I.hok.fresh hle)⟩
end
end L2
end
section
namespace L2
open PySem PySem.Spec PyProof.Rows
theorem zkf {P P':Program}{w w':World}{h:Heap}{a:Addr}{vs:List (Key×Value)} (d:h.DictOf (zq P w) a vs) (hk:∀kv∈vs,∃i:Int,kv.1=Sum.inl i):h.DictOf (zq P' w') a vs:=by
 obtain⟨o,es,ep,h1,h2,h3,h4,h5,h6⟩:=d;have pp:∀{l:List DictEntry} {m:List (Key×Value)},Pairs (zq P w) l m->Pairs (zq P' w') l m:=by
  intro l m q
  induction q with
  | nil=>exact .nil
  | cons g1 g2 _ ih=>exact .cons g1 g2 ih
 refine⟨o,es,ep,h1,h2,h3,fun e he=>?_,pp h5,h6⟩;obtain⟨k,q1,q2⟩:=h4 e he;obtain⟨i,ei⟩:=List.mem_iff_getElem?.mp (Array.mem_toList_iff.mpr he);have hl:i<vs.length:=by
  have:=(List.getElem?_eq_some_iff.mp ei).1;rw[h5.length] at this;exact this
 obtain⟨g1,_⟩:=h5.get? (i:=i) (e:=e) (k:=vs[i].1) (v:=vs[i].2) ei (Ag hl);obtain⟨z,ez⟩:=hk vs[i] (List.getElem_mem hl);obtain rfl:k=vs[i].1:=(zq P w).inj _ _ _ q1 g1;refine⟨vs[i].1,q1,?_⟩;rw[q2,ez]
 rfl
theorem zeH {ps:List (Int×V)}{vs:List (Key×Value)} (rel:KV (ps.map fun p=>((Sum.inl p.1:Key),p.2)) vs):∀kv∈vs,∃i:Int,kv.1=Sum.inl i:=by
 induction ps generalizing vs with
 | nil=>cases rel; exact fun kv h=>nomatch h
 | cons p ps ih=>
  cases rel with
  | cons hq t=>
   intro kv hkv;rcases List.mem_cons.mp hkv with rfl | hkv
   ·exact⟨p.1,hq.1.symm⟩
   ·exact ih t kv hkv
theorem zhj {K:Type} [DecidableEq K] {A:Around}{s:Shared}{kb:List (K×Value)}:∀{l:List (K×Value)},(∀kv∈l,∃y,valueAt kb kv.1=some y/\SeqAt.EqAt A s kv.2 y true)->PySem.W.KeqHits A s kb l true
 | [],_=>.nil
 | (k,v)::r,h=>by
  obtain⟨y,h1,h2⟩:=h (k,v) AB;exact PySem.W.KeqHits.hit (e:=true) (b:=true) h1 h2 (zhj fun kv hkv=>h kv (Ax _ hkv))
theorem zmN {ns:List (Int×Int)}{k:Key}{x:V} (e:valV ((ns.map fun p=>(p.1,V.int p.2)).map fun p=>((Sum.inl p.1:Key),p.2)) k=some x):∃n,x=V.int n:=by
 induction ns with
 | nil=>exact nomatch e
 | cons p ns ih=>
  by_cases g:(Sum.inl p.1:Key)=k
  ·rw[AK,AK,zbL g] at e
   exact⟨p.2,(Ao e).symm⟩
  ·rw[AK,AK,zbP g] at e
   exact ih e
theorem zk9 {P:Program}{w:World}{A:Around}{H:Hp}{s:Shared}{a b:Addr}{ns:List (Int×Int)} (ok:HOk P w H s.heap)
  (ha:Rd H a (dZ (ns.map fun p=>(p.1,V.int p.2)))) (hb:Rd H b (dZ (ns.map fun p=>(p.1,V.int p.2)))):(a == sysModules)=false/\(b == sysModules)=false/\∃va vb,(∀P' w',s.heap.DictOf (zq P' w') a va)/\(∀P' w',s.heap.DictOf (zq P' w') b vb)/\va.length=vb.length/\PySem.W.KeqHits A s vb va true:=by
 obtain⟨_,ya,va,ra,da⟩:=zdD ok ha;obtain⟨_,yb,vb,rb,db⟩:=zdD ok hb;refine⟨ya,yb,va,vb,fun P' w'=>zkf da (zeH ra),fun P' w'=>zkf db (zeH rb),?_,zhj fun kv hkv=>?_⟩
 ·have h1:=ra.length
  have h2:=rb.length;omega
 obtain⟨i,ei⟩:=List.mem_iff_getElem?.mp hkv;obtain⟨_,_,_,_,_,_,_,_,nd⟩:=da;have e1:valueAt va kv.1=some kv.2:=valueAt_of_get nd (i:=i) ei;have r1:=ra.val kv.1;have r2:=rb.val kv.1;rw[e1] at r1;cases ex:valV ((ns.map fun p=>(p.1,V.int p.2)).map fun p=>((Sum.inl p.1:Key),p.2)) kv.1 with
 | none=>rw[ex] at r1; exact (show False from r1).elim
 | some x=>
  rw[ex] at r1 r2;obtain⟨n,rfl⟩:=zmN ex;obtain⟨y,e2,r3⟩:=r2.some_of;obtain⟨t,et⟩:=(show ∃t,kv.2=Value.int n t from r1);obtain⟨t',et'⟩:=(show ∃t,y=Value.int n t from r3);refine⟨y,e2,?_⟩;rw[et,et'];have:=SeqAt.EqAt.int_int (A:=A) (s:=s) n t n t'
  simpa using this
theorem zkG {P:Program}{w:World}{A:Around}{H:Hp}{s:Shared}{a b:Addr}{ns:List (Int×Int)} (hu:A.units+64<cLine) (ok:HOk P w H s.heap)
  (ha:Rd H a (dZ (ns.map fun p=>(p.1,V.int p.2)))) (hb:Rd H b (dZ (ns.map fun p=>(p.1,V.int p.2)))):SeqAt.EqAt A s (.ref a) (.ref b) true:=by
 intro prog w' E Q h;obtain⟨ya,yb,va,vb,da,db,hl,hits⟩:=zk9 (A:=A.in1) ok ha hb;unfold eqBool
 try with_reducible refine AJ ?_
 show wpAny _ _ (if (Value.ref a == Value.ref b)=true then _ else _) Q E s
 by_cases hab:(Value.ref a == Value.ref b)=true
 ·rw[if_pos hab]
  exact Aa (wpAny_rule (Ac h))
 ·rw[if_neg hab]
  refine Aa (PySem.W.keq_eq ya yb (da prog w') (db prog w') (by omega) (fun _=>hits) ?_);rw[hl,beq_self_eq_true,Bool.true_and];exact wpAny_truthy_bool h
section
variable {X:Cx}
end
inductive SV (K:Ae) (H:Hp):V->V->Prop where
 | lt {l m:Addr} {as bs:List Addr} {pss:List (List Int)} (hl:SqL K H l (as.map V.ref)) (hp:Tps H as pss) (hm:SqL K H m (bs.map V.ref)) (hq:Tps H bs pss):SV K H (.ref l) (.ref m)
 | dz {a b:Addr} {ns:List (Int×Int)} (ha:Rd H a (dZ (ns.map fun p=>(p.1,V.int p.2)))) (hb:Rd H b (dZ (ns.map fun p=>(p.1,V.int p.2)))):SV K H (.ref a) (.ref b)
 | dt {a b:Addr} {kvs:List (List Key×V)} {pss:List (List Int)} {ns:List Int} (ha:Rd H a (.dT kvs)) (hb:Rd H b (.dT kvs)) (hp:kvs.map (·.1)=pss.map (·.map Sum.inl)) (hv:kvs.map (·.2)=ns.map V.int):SV K H (.ref a) (.ref b)
section
variable {X:Cx}
theorem SV.eqAt {pins:List (Addr×Obj)}{σ:St}{H:Hp}{s:Shared}{x y:V}{u v:Value} (hu:X.A.units+128<cLine) (I:Inv X pins σ H s) (h:SV X.K H x y) (rx:RelV x u) (ry:RelV y v):SeqAt.EqAt X.A.in1 s u v true:=by
 cases h with
 | @lt l m as bs pss hl hp hm hq=>
  cases rx;cases ry;have hs:=za7 pss;have:=SeqAt.eqAt_reads _ _ X.A.in1 s _ _ _ _ (zbh I hl hp) (zbh I hm hq) (SeqAt.canLay_of_shaped hs) (SeqAt.canLay_of_shaped hs) (SeqAt.room_of_shaped hs (by show X.A.units+1+64<cLine; omega));rw[<- SeqAt.same_eq_eqv _ _ (SeqAt.noMix_of_shape (.list (.tuples .int)) rfl _ _ (zc2 _) (zc2 _)),show same (.list (pss.map fun ps=>PyData.tuple (ps.map A4))) (.list (pss.map fun ps=>PyData.tuple (ps.map A4)))=true from by unfold same; rw[zdp pss pss]; exact decide_eq_true rfl] at this;exact this
 | dz ha hb=>
  cases rx;cases ry;exact zkG (by show X.A.units+1+64<cLine; omega) I.hok ha hb
 | dt ha hb hp hv=>
  cases rx;cases ry;exact zkZ (by show X.A.units+1+64<cLine; omega) I.hok ha hb hp hv
theorem zjH {pins:List (Addr×Obj)}{σ:St}{H:Hp}{s:Shared} (hu:X.A.units+128<cLine) (I:Inv X pins σ H s):∀{xs ys:List V}{us vs:List Value},Paired (SV X.K H) xs ys->Vals xs us->Vals ys vs->us.length=vs.length/\∀(j:Nat) (h1:j<us.length) (h2:j<vs.length),SeqAt.EqAt X.A.in1 s us[j] vs[j] true:=by
 intro xs ys us vs z
 induction z generalizing us vs with
 | nil=>intro a b; cases a; cases b; exact⟨rfl,fun j h=>absurd h (Nat.not_lt_zero j)⟩
 | cons hh t ih=>
  intro a b;cases a with
  | cons ra ta=>
   cases b with
   | cons rb tb=>
    obtain⟨g1,g2⟩:=ih ta tb;refine⟨by rw[As,As,g1],fun j h1 h2=>?_⟩;cases j with
    | zero=>exact hh.eqAt hu I ra rb
    | succ j=>exact g2 j (by simpa using h1) (by simpa using h2)
theorem zlB (hu:X.A.units+128<cLine):OpR X (compareOp .Eq) (fun x y H Q=>∃(L M:Addr) (xs ys:List V),x=.ref L/\y=.ref M/\SqL X.K H L xs/\SqL X.K H M ys/\Paired (SV X.K H) xs ys/\Q (.bl true) H):=by
 intro pins s σ H x y v u Q I rx ry h;obtain⟨L,M,xs,ys,rfl,rfl,hL,hM,hp,q⟩:=h;cases rx;cases ry;obtain⟨its,r1,p1,_⟩:=I.list hL;obtain⟨its2,r2,p2,_⟩:=I.list hM;obtain⟨g1,g2⟩:=zjH hu I hp r1 r2;refine SeqAt.RcAt.lists (e:=fun _=>true) p1.isList p2.isList (by simpa using g1) (by omega) (fun j h1 h2=>?_) X.prog X.w X.xe _ ⟨.bl _,H,I,rfl,?_⟩
 ·simpa using g2 j (by simpa using h1) (by simpa using h2)
 ·rw[List.all_eq_true.mpr (fun _ _=>rfl)]; exact q
theorem zlz (hu:X.A.units+128<cLine):OpR X (compareOp .NotEq) (fun x y H Q=>∃(L M:Addr) (xs ys:List V),x=.ref L/\y=.ref M/\SqL X.K H L xs/\SqL X.K H M ys/\Paired (SV X.K H) xs ys/\Q (.bl false) H):=by
 intro pins s σ H x y v u Q I rx ry h;obtain⟨L,M,xs,ys,rfl,rfl,hL,hM,hp,q⟩:=h;cases rx;cases ry;obtain⟨its,r1,p1,_⟩:=I.list hL;obtain⟨its2,r2,p2,_⟩:=I.list hM;obtain⟨g1,g2⟩:=zjH hu I hp r1 r2;refine SeqAt.RcNeAt.lists (e:=fun _=>true) p1.isList p2.isList (by simpa using g1) (by omega) (fun j h1 h2=>?_) X.prog X.w X.xe _ ⟨.bl _,H,I,rfl,?_⟩
 ·simpa using g2 j (by simpa using h1) (by simpa using h2)
 ·rw[List.all_eq_true.mpr (fun _ _=>rfl)]; exact q
end
end L2
end
section
namespace DPr
open PySem PyProof.Rows
section
variable {prog:Program}{w:World}{A:Around}{E:Value->Shared->Prop}{s:Shared}
theorem zhJ:typeLookup (.type "list") "keys"=pure none:=by rw[typeLookup_type,builtinLookup_eq_fast]; kernel_rfl
theorem zhc {a:Addr}{o:Obj}{xs:Array Value}{k:Nat}{Q:Option Value->Shared->Prop}
  (hx:s.heap.get? a=some o) (hc:o.cls=.type "list") (hdat:o.data=.seq xs k) (hd:o.dict=none) (hA:A.handled=none)
  (h:∀h' tk e,Heap.NewExcOf s.heap h' e "AttributeError"->Q none { s with heap:=h',toks:=tk }):wpAny (model prog w) A (getAttr? (.ref a) "keys") Q E s:=by
 obtain⟨c,dct,dat,sl⟩:=o;simp only at hc hdat hd;subst hc hdat hd;obtain⟨hp,g,d,tk,os⟩:=s;have hT:∀tk',(⟨hp,g,d,tk',os⟩:Shared).TypeIs (.ref a) "list":=fun _=>⟨_,hx,rfl⟩;have f1:=sub_AttributeError;have f3:=F.slot_list_getattribute.lookup;have f4:=F.slot_list_getattribute.bind (.ref a);have f5:=am_list_getattr_none;unfold getAttr? getAttrBy? getAttrBy
 repeat (any_goals (first | assumption | exact hT _ | ((with_reducible show wpAny _ _ (call (Value.builtin "list.__getattribute__") _ _) _ _ _); refine call_meets F.slot_list_getattribute (hT _) am_entry_list_getattribute (F.args_list_getattribute_2 _ _) (meets_getattribute_miss_list a xs k sl "keys" _ zhJ (by decide) (by size_fits)) ⟨hx,hA,fun h' tk' e hx'=>?_⟩) | wp_step))
 obtain⟨t',u',he⟩:=hx'.there;show wpAny _ _ (getattributeRaised _ _ _ _ _ _ _) _ _ _;unfold getattributeRaised
 repeat (any_goals (first | assumption | wp_step))
 exact h _ _ _ hx'.of
theorem zbj:entryFor table "dict.update.loop"=some Builtin.«dict.update.loop»:=entryFor_of_tree (by kernel_rfl)
theorem zak:plainId "dict.update.loop"=true:=by decide +kernel
abbrev lp (D I:Addr) (i:Int):Code:=.builtin "dict.update.loop" ⟨[.ref D,.ref I,rawInt i,.none],[]⟩
variable {K:Type} [DecidableEq K] {knd:KeyKind prog w K}
abbrev Pr (K:Type):Type:=Addr×List K×Addr×Value
def Good (knd:KeyKind prog w K) (h:Heap) (x:Pr K):Prop:=h.IsTuple x.1 #[.ref x.2.2.1,x.2.2.2]/\AW knd h x.2.1 x.2.2.1
def zmP (xs:List (List K×Addr×Value)) (ts:List (Pr K)):List (List K×Addr×Value):=ts.foldl (fun acc x=>storedH acc x.2.1 x.2.2.1 x.2.2.2) xs
theorem zd5 {h h':Heap}{x:Pr K}{D I:Addr}{o:Obj} (g:Good knd h x) (hD:∃o,h.get? D=some o/\o.cls=.type "dict") (hI:∃o,h.get? I=some o/\o.cls=.type "list_iterator") (kk:∀b o,b≠D->b≠I->h.get? b=some o->h'.get? b=some o):Good knd h' x:=by
 obtain⟨⟨o1,e1,c1,r1⟩,o2,it,n,e2,c2,r2⟩:=g;obtain⟨od,ed,cd⟩:=hD;obtain⟨oi,ei,ci⟩:=hI;have ne:∀{a:Addr} {oa:Obj},h.get? a=some oa->oa.cls=.type "tuple"->a≠D/\a≠I:=fun {a oa} ea ca=>by
  refine⟨fun z=>?_,fun z=>?_⟩
  ·rw[z,ed] at ea
   rw[<- Ao ea,cd] at ca;exact absurd ca (by decide)
  ·rw[z,ei] at ea
   rw[<- Ao ea,ci] at ca;exact absurd ca (by decide)
 exact⟨⟨o1,kk _ _ (ne e1 c1).1 (ne e1 c1).2 e1,c1,r1⟩,o2,it,n,kk _ _ (ne e2 c2).1 (ne e2 c2).2 e2,c2,r2⟩
theorem zd3 {h h':Heap}{D I:Addr}{xs:List (List K×Addr×Value)} (d:h.DictOfH (tupleKind knd) D xs) (hne:D≠I) (hI:∃o,h.get? I=some o/\o.cls=.type "list_iterator") (kk:∀b o,b≠I->h.get? b=some o->h'.get? b=some o):h'.DictOfH (tupleKind knd) D xs:=by
 obtain⟨o,es,ep,ho,hc,hd,he,his,hn⟩:=d;obtain⟨oi,ei,ci⟩:=hI;refine⟨o,es,ep,kk _ _ hne ho,hc,hd,he,fun x hx=>?_,hn⟩;obtain⟨o2,it,n,e2,c2,r2⟩:=his x hx;refine⟨o2,it,n,kk _ _ (fun z=>?_) e2,c2,r2⟩;rw[z,ei] at e2;rw[<- Ao e2,ci] at c2;exact absurd c2 (by decide)
theorem pair_items {t:Addr}{items:Array Value}{Q:List Value->Shared->Prop} (ht:s.heap.IsTuple t items) (h:Q items.toList s):wpAny (model prog w) A (Builtin.Dict.pairItems (.ref t)) Q E s:=by
 obtain⟨o,ho,hc,n,hd⟩:=ht;unfold Builtin.Dict.pairItems;refine Aa (wpAny_typeOf (show s.TypeIs (.ref t) "tuple" from ⟨o,ho,hc⟩) ?_);rw[if_pos (by decide)];exact Aa (wpAny_seqItems ho hd (Ac h))
theorem zgv (xs:List (List K×Addr×Value)) (k:List K) (a:Addr) (v:Value):(storedH xs k a v).length<=xs.length+1:=by
 unfold storedH;split
 ·rw[Ab]; omega
 ·rw[At]; simp
theorem zdF {D I L:Addr}{ts:List (Pr K)}{R:Result->Shared->Prop} (hh:A.handled=none) (hu:A.units+1<cLine) (hDI:D≠I) (hDL:L≠D) (hLI:L≠I) :
  ∀(k j:Nat) (s:Shared) (xs:List (List K×Addr×Value)),ts.length - j=k->j<=ts.length->s.heap.IsListIter I L j->s.heap.IsList L (ts.map fun x=>Value.ref x.1).toArray->(∀x∈ts,Good knd s.heap x)->
   s.heap.DictOfH (tupleKind knd) D xs->xs.length+k<=sizeLine->
   (∀h' tk,h'.DictOfH (tupleKind knd) D (zmP xs (ts.drop j))->(∀b o,b≠D->b≠I->s.heap.get? b=some o->h'.get? b=some o)->R (.ok (.ret .none)) { s with heap:=h',toks:=tk })->
   codeAny (model prog w) A (lp D I j) R s
 | 0,j,s,xs,hk,hj,hit,hl,hg,hd,hz,hQ=>by
  have hn:j=ts.length:=by omega
  subst hn;have W:=Walks.list (prog:=prog) (w:=w) (A:=A.in1) hh I L hLI (ts.map fun x=>Value.ref x.1).toArray;refine A6 zbj ?_;rw[A1 zak _];unfold Builtin.«dict.update.loop»;dsimp only[rawInt];refine Aa (W.done s _ _ ⟨by simpa using hit,hl⟩ fun h' tk kk=>?_);dsimp only;unfold Builtin.Dict.addKeywords;refine Aa (wpAny_of_eq (a:=()) rfl ?_);obtain⟨oi,ei,ci,_⟩:=hit;refine Ac (hQ h' tk ?_ fun b o _ hb e=>kk b o (by simpa using hb) e);rw[List.drop_length];exact zd3 hd hDI ⟨oi,ei,ci⟩ fun b o hb e=>kk b o (by simpa using hb) e
 | k+1,j,s,xs,hk,hj,hit,hl,hg,hd,hz,hQ=>by
  have W:=Walks.list (prog:=prog) (w:=w) (A:=A.in1) hh I L hLI (ts.map fun x=>Value.ref x.1).toArray;have hjl:j<ts.length:=by omega
  refine A6 zbj ?_;rw[A1 zak _];unfold Builtin.«dict.update.loop»;dsimp only[rawInt];refine Aa (W.item j s _ _ (by simpa using hjl) ⟨hit,hl⟩ fun v h1 tk hv st1 kk=>?_);have hv':v=.ref (ts[j]).1:=by
   have:(ts.map fun x=>Value.ref x.1).toArray[j]?=some (Value.ref (ts[j]).1):=by simp[hjl]
   exact Ao (hv.symm.trans this)
  subst hv';have hgj:=hg ts[j] (List.getElem_mem hjl);obtain⟨oi,ei,ci,_⟩:=id hit;have hDo:∃o,s.heap.get? D=some o/\o.cls=.type "dict":=by
   obtain⟨o,es,ep,ho,hc,_⟩:=hd;exact⟨o,ho,hc.1⟩
  have kk':∀b o,b≠D->b≠I->s.heap.get? b=some o->h1.get? b=some o:=fun b o _ hb e=>kk b o (by simpa using hb) e;have hg1:∀x∈ts,Good knd h1 x:=fun x hx=>zd5 (o:=oi) (hg x hx) hDo ⟨oi,ei,ci⟩ kk';have hd1:h1.DictOfH (tupleKind knd) D xs:=zd3 hd hDI ⟨oi,ei,ci⟩ fun b o hb e=>kk b o (by simpa using hb) e;obtain⟨gt,gk⟩:=hg1 ts[j] (List.getElem_mem hjl);dsimp only;refine Aa (AJ (Aa (wpAny_tryCatch (pair_items (s:={ s with heap:=h1,toks:=tk }) gt ?_))));dsimp only;refine AJ (wpAny_dictSet_heap (knd:=tupleKind knd) (s:={ s with heap:=h1,toks:=tk }) (hsz:=by omega) (tupleKind_room_in1 hu) gk hd1 fun h2 dd2 sb=>?_);have kk2:∀b o,b≠D->b≠I->s.heap.get? b=some o->h2.get? b=some o:=fun b o hb hi e=>by rw[sb.2 b hb]; exact kk' b o hb hi e
  have hit2:h2.IsListIter I L (j+1):=st1.1.at fun o e=>by rw[sb.2 I (Ne.symm hDI)]; exact e
  have hl2:h2.IsList L (ts.map fun x=>Value.ref x.1).toArray:=st1.2.at fun o e=>by rw[sb.2 L hDL]; exact e
  refine Ac ⟨plainId_quiet zak _,?_⟩;refine zdF hh hu hDI hDL hLI k (j+1) { s with heap:=h2,toks:=_ } _ (by omega) (by omega) hit2 hl2 (fun x hx=>zd5 (o:=oi) (hg x hx) hDo ⟨oi,ei,ci⟩ kk2) dd2 (by have:=zgv xs (ts[j]).2.1 (ts[j]).2.2.1 (ts[j]).2.2.2; omega) fun h' tk' dd' k3=>hQ h' tk' ?_ fun b o hb hi e=>k3 b o hb hi (kk2 b o hb hi e);rw[List.drop_eq_getElem_cons hjl];exact dd'
end
end DPr
end
section
namespace DKp
open PySem PyProof.Rows DCp DPr
section
variable {prog:Program}{w:World}{A:Around}{E:Value->Shared->Prop}{s:Shared}{K:Type} [DecidableEq K] {knd:KeyKind prog w K}
abbrev Pk (K:Type):Type:=Addr×K×Value×Value
def zf6 (knd:KeyKind prog w K) (h:Heap) (x:Pk K):Prop:=h.IsTuple x.1 #[x.2.2.1,x.2.2.2]/\knd.is x.2.1 x.2.2.1=true
def ziO (xs:List (K×Value)) (ts:List (Pk K)):List (K×Value):=ts.foldl (fun acc x=>stored acc x.2.1 x.2.2.2) xs
theorem zcZ {h h':Heap}{x:Pk K}{D I:Addr} (g:zf6 knd h x) (hD:∃o,h.get? D=some o/\o.cls=.type "dict") (hI:∃o,h.get? I=some o/\o.cls=.type "list_iterator") (kk:∀b o,b≠D->b≠I->h.get? b=some o->h'.get? b=some o):zf6 knd h' x:=by
 obtain⟨⟨o1,e1,c1,r1⟩,r2⟩:=g;obtain⟨od,ed,cd⟩:=hD;obtain⟨oi,ei,ci⟩:=hI;have ne:∀{a:Addr} {oa:Obj},h.get? a=some oa->oa.cls=.type "tuple"->a≠D/\a≠I:=fun {a oa} ea ca=>by
  refine⟨fun z=>?_,fun z=>?_⟩
  ·rw[z,ed] at ea
   rw[<- Ao ea,cd] at ca;exact absurd ca (by decide)
  ·rw[z,ei] at ea
   rw[<- Ao ea,ci] at ca;exact absurd ca (by decide)
 exact⟨⟨o1,kk _ _ (ne e1 c1).1 (ne e1 c1).2 e1,c1,r1⟩,r2⟩
theorem zcY {h h':Heap}{D I:Addr}{xs:List (K×Value)} (d:h.DictOf knd D xs) (hne:D≠I) (kk:∀b o,b≠I->h.get? b=some o->h'.get? b=some o):h'.DictOf knd D xs:=by
 obtain⟨o,es,ep,ho,r⟩:=d;exact⟨o,es,ep,kk _ _ hne ho,r⟩
theorem ziE {h h':Heap}{D:Addr}{xs:List (K×Value)} (d:h.DictOf knd D xs) (kk:∀o,h.get? D=some o->h'.get? D=some o):h'.DictOf knd D xs:=by
 obtain⟨o,es,ep,ho,r⟩:=d;exact⟨o,es,ep,kk _ ho,r⟩
theorem zeZ (xs:List (K×Value)) (k:K) (v:Value):(stored xs k v).length<=xs.length+1:=by
 unfold stored;split
 ·rw[Ab]; omega
 ·rw[At]; simp
theorem zdF {D I L:Addr}{ts:List (Pk K)}{R:Result->Shared->Prop} (hh:A.handled=none) (hu:A.units+1<cLine) (hDI:D≠I) (hDL:L≠D) (hLI:L≠I) :
  ∀(k j:Nat) (s:Shared) (xs:List (K×Value)),ts.length - j=k->j<=ts.length->s.heap.IsListIter I L j->s.heap.IsList L (ts.map fun x=>Value.ref x.1).toArray->(∀x∈ts,zf6 knd s.heap x)->
   s.heap.DictOf knd D xs->xs.length+k<=sizeLine->
   (∀h' tk,h'.DictOf knd D (ziO xs (ts.drop j))->(∀b o,b≠D->b≠I->s.heap.get? b=some o->h'.get? b=some o)->R (.ok (.ret .none)) { s with heap:=h',toks:=tk })->
   codeAny (model prog w) A (lp D I j) R s
 | 0,j,s,xs,hk,hj,hit,hl,hg,hd,hz,hQ=>by
  have hn:j=ts.length:=by omega
  subst hn;have W:=Walks.list (prog:=prog) (w:=w) (A:=A.in1) hh I L hLI (ts.map fun x=>Value.ref x.1).toArray;refine A6 zbj ?_;rw[A1 zak _];unfold Builtin.«dict.update.loop»;dsimp only[rawInt];refine Aa (W.done s _ _ ⟨by simpa using hit,hl⟩ fun h' tk kk=>?_);dsimp only;unfold Builtin.Dict.addKeywords;refine Aa (wpAny_of_eq (a:=()) rfl ?_);obtain⟨oi,ei,ci,_⟩:=hit;refine Ac (hQ h' tk ?_ fun b o _ hb e=>kk b o (by simpa using hb) e);rw[List.drop_length];exact zcY hd hDI fun b o hb e=>kk b o (by simpa using hb) e
 | k+1,j,s,xs,hk,hj,hit,hl,hg,hd,hz,hQ=>by
  have W:=Walks.list (prog:=prog) (w:=w) (A:=A.in1) hh I L hLI (ts.map fun x=>Value.ref x.1).toArray;have hjl:j<ts.length:=by omega
  refine A6 zbj ?_;rw[A1 zak _];unfold Builtin.«dict.update.loop»;dsimp only[rawInt];refine Aa (W.item j s _ _ (by simpa using hjl) ⟨hit,hl⟩ fun v h1 tk hv st1 kk=>?_);have hv':v=.ref (ts[j]).1:=by
   have:(ts.map fun x=>Value.ref x.1).toArray[j]?=some (Value.ref (ts[j]).1):=by simp[hjl]
   exact Ao (hv.symm.trans this)
  subst hv';have hgj:=hg ts[j] (List.getElem_mem hjl);obtain⟨oi,ei,ci,_⟩:=id hit;have hDo:∃o,s.heap.get? D=some o/\o.cls=.type "dict":=by
   obtain⟨o,es,ep,ho,hc,_⟩:=hd;exact⟨o,ho,hc.1⟩
  have kk':∀b o,b≠D->b≠I->s.heap.get? b=some o->h1.get? b=some o:=fun b o _ hb e=>kk b o (by simpa using hb) e;have hg1:∀x∈ts,zf6 knd h1 x:=fun x hx=>zcZ (hg x hx) hDo ⟨oi,ei,ci⟩ kk';have hd1:h1.DictOf knd D xs:=zcY hd hDI fun b o hb e=>kk b o (by simpa using hb) e;obtain⟨gt,gk⟩:=hg1 ts[j] (List.getElem_mem hjl);dsimp only;refine Aa (AJ (Aa (wpAny_tryCatch (pair_items (s:={ s with heap:=h1,toks:=tk }) gt ?_))));dsimp only;refine AJ (wpAny_dictSet_pairs (knd:=knd) (s:={ s with heap:=h1,toks:=tk }) (hsz:=by omega) gk hd1 fun h2 dd2 sb=>?_);have kk2:∀b o,b≠D->b≠I->s.heap.get? b=some o->h2.get? b=some o:=fun b o hb hi e=>by rw[sb.2 b hb]; exact kk' b o hb hi e
  have hit2:h2.IsListIter I L (j+1):=st1.1.at fun o e=>by rw[sb.2 I (Ne.symm hDI)]; exact e
  have hl2:h2.IsList L (ts.map fun x=>Value.ref x.1).toArray:=st1.2.at fun o e=>by rw[sb.2 L hDL]; exact e
  refine Ac ⟨plainId_quiet zak _,?_⟩;refine zdF hh hu hDI hDL hLI k (j+1) { s with heap:=h2,toks:=_ } _ (by omega) (by omega) hit2 hl2 (fun x hx=>zcZ (hg x hx) hDo ⟨oi,ei,ci⟩ kk2) dd2 (by have:=zeZ xs (ts[j]).2.1 (ts[j]).2.2.2; omega) fun h' tk' dd' k3=>hQ h' tk' ?_ fun b o hb hi e=>k3 b o hb hi (kk2 b o hb hi e);rw[List.drop_eq_getElem_cons hjl];exact dd'
theorem zau {L:Addr}{o:Obj}{n:Nat}{ts:List (Pk K)}{Q:Value->Shared->Prop} (hh:A.handled=none) (hu:A.units+2<cLine) (ho:s.heap.get? L=some o) (hc:o.cls=.type "list") (hdat:o.data=.seq (ts.map fun x=>Value.ref x.1).toArray n) (hdn:o.dict=none)
  (hg:∀x∈ts,zf6 knd s.heap x) (hz:ts.length<=sizeLine)
  (h:∀h' tk,h'.DictOf knd s.heap.objs.size (ziO [] ts)->(∀b o,b<s.heap.objs.size->s.heap.get? b=some o->h'.get? b=some o)->Q (.ref s.heap.objs.size) { s with heap:=h',toks:=tk }) :
  wpAny (model prog w) A (call (.type "dict") [.ref L]) Q E s:=by
 obtain⟨c,tl,hmro⟩:=zM.mro;have hmade:=zM.made;have hsub:=zM.sub;refine wpAny_call (codeAny_of_tree ?_);show wpAny _ _ (callAny (.type "dict") _) _ _ _;refine Ac ⟨Code.quiet_builtin _ (by decide +kernel),A6 F.entry_type_call ?_⟩;rw[Around.under_plain (weight_type_call_type "dict" [.ref L] []) rfl];have h1:=zM.notType;have h2:=zM.canCreate;have hct:=zcz (.ref L)
 repeat (any_goals (first | assumption | wp_step))
 refine codeAny_mono (zgD (.ref L) (E:=E) (Q₁:=fun obj s₁=>obj=.ref s.heap.objs.size/\s₁={ s with heap:=s.heap.push { cls:=.type "dict",data:=.dict #[] } }) ⟨rfl,rfl⟩) fun r s₁ hr=>?_;cases r with
 | error e=>exact hr
 | ok fl=>
  cases fl with
  | ret obj=>
   obtain⟨rfl,rfl⟩:=hr;have hS:(s.heap.push { cls:=.type "dict",data:=.dict #[] }).get? s.heap.objs.size=some { cls:=.type "dict",data:=.dict #[] }:=Al _ rfl;have hTy:Shared.TypeIs { s with heap:=s.heap.push { cls:=.type "dict",data:=.dict #[] } } (.ref s.heap.objs.size) "dict":=⟨_,hS,rfl⟩;have hli:=zM.init.lookup;have hbi:=zM.init.bind (.ref s.heap.objs.size)
   repeat (any_goals (first | assumption | wp_step))
   refine codeAny_mono (codeAny_call_builtin (R:=wants (fun r s₂=>r=.none/\∃h' tk,s₂={ s with heap:=h',toks:=tk }/\h'.DictOf knd s.heap.objs.size (ziO [] ts)/\
     (∀b o,b<s.heap.objs.size->s.heap.get? b=some o->h'.get? b=some o)) E) zM.init.plain F.entry_dict_init (zM.init.check _ _ _ _ _ _ _ _ hTy (F.args_dict_init_2 _ _) ?_)) fun r₂ s₂ hr₂=>?_
   ·have hLS:L<s.heap.objs.size:=Ah ho
    have ho':(s.heap.push { cls:=.type "dict",data:=.dict #[] }).get? L=some o:=Ad _ ho;have hTL:Shared.TypeIs { s with heap:=s.heap.push { cls:=.type "dict",data:=.dict #[] } } (.ref L) "list":=⟨o,ho',hc⟩;unfold Builtin.«dict.__init__»;refine Aa ?_;unfold Builtin.Dict.selfAndRest;refine Aa (wpAny_notOrdered_dict hTy ?_);refine Aa (show wpAny _ _ (pure s.heap.objs.size) _ _ _ from Ac ?_);refine Ac ?_;show wpAny _ _ (Builtin.Dict.updateCommon "dict.__init__" "dict" s.heap.objs.size [Value.ref L] []) _ _ _;unfold Builtin.Dict.updateCommon Builtin.Dict.updateFrom;dsimp only;refine Aa (wpAny_typeOf hTL ?_);rw[if_pos (by decide)];refine Aa (zhc (s:={ s with heap:=s.heap.push { cls:=.type "dict",data:=.dict #[] } }) ho' hc hdat hdn hh fun h2 tk2 e2 x2=>?_);rw[if_pos (by rfl)];refine Aa (wpAny_rule ?_);have hL2:h2.IsList L (ts.map fun x=>Value.ref x.1).toArray:=⟨o,x2.keeps _ _ ho',hc,n,hdat⟩;refine Aa (wpAny_pyIter_list (s:={ s with heap:=h2,toks:=tk2 }) hL2 ?_);have hD2:h2.get? s.heap.objs.size=some { cls:=.type "dict",data:=.dict #[] }:=x2.keeps _ _ hS;have hDl:s.heap.objs.size<h2.objs.size:=Ah hD2;have keep3:∀b ob,h2.get? b=some ob->(h2.push { cls:=.type "list_iterator",data:=.fields #[.ref L,.int 0 0] }).get? b=some ob:=fun b ob e=>Ad _ e;have keepS:∀b ob,s.heap.get? b=some ob->(h2.push { cls:=.type "list_iterator",data:=.fields #[.ref L,.int 0 0] }).get? b=some ob:=fun b ob e=>keep3 _ _ (x2.keeps _ _ (Ad _ e));refine Ac ⟨plainId_quiet zak _,?_⟩;refine zdF (knd:=knd) (ts:=ts) (L:=L) (D:=s.heap.objs.size) (I:=h2.objs.size) (by exact hh) (by first | exact hu | (show A.units+1<cLine; omega)) (An hDl) (An hLS) (An (Nat.lt_trans hLS hDl)) ts.length 0 { s with heap:=h2.push { cls:=.type "list_iterator",data:=.fields #[.ref L,.int 0 0] },toks:=tk2 } [] (by omega) (AV _)
     ⟨_,Al _ rfl,rfl,rfl⟩ (hL2.at fun ob e=>keep3 _ _ e) (fun x hx=>?_) (ziE (Heap.DictOf.new s.heap) fun ob e=>keep3 _ _ (x2.keeps _ _ e)) (by simpa using hz) fun h' tk' dd k3=>⟨rfl,h',tk',rfl,dd,fun b ob hb e=>k3 b ob (An hb) (An (Nat.lt_trans hb hDl)) (keepS _ _ e)⟩
    obtain⟨⟨o1,e1,c1⟩,c2⟩:=hg x hx;exact⟨⟨o1,keepS _ _ e1,c1⟩,c2⟩
   ·cases r₂ with
    | error e=>exact hr₂
    | ok fl₂=>
     cases fl₂ with
     | ret r=>
      obtain⟨rfl,h',tk',rfl,hS',hk'⟩:=hr₂
      repeat (any_goals (first | assumption | wp_step))
      exact h _ _ hS' hk'
     | _=>exact hr₂.elim
  | _=>exact hr.elim
end
end DKp
namespace L2
open PySem PySem.Spec PyProof.Rows
def foldZ (kvs:List (Key×V)):List (Key×V):=kvs.foldl (fun acc kv=>putK acc kv.1 kv.2) []
section
variable {X:Cx}
theorem zee:∀(kvs acc:List (Key×V)),(kvs.foldl (fun acc kv=>putK acc kv.1 kv.2) acc).length<=acc.length+kvs.length
 | [],acc=>by simp
 | kv::r,acc=>by
  rw[List.foldl_cons];have h1:=zee r (putK acc kv.1 kv.2);have h2:=zbx acc kv.1 kv.2;rw[As];omega
theorem zau (hc:X.calm=true) (hu:X.A.units+64<cLine):zat X (.type "dict") (fun xs H Q=>∃(l:Addr) (ts:List Addr) (kvs:List (Key×V)),xs=[.ref l]/\SqL X.K H l (ts.map V.ref)/\
  Paired (fun t (kv:Key×V)=>H t=some (.tup [kV kv.1,kv.2])) ts kvs/\∀D,H D=none->Q (.ref D) (upd H D (.dK (foldZ kvs)))):=by
 intro pins s σ H xs us Q I r h;obtain⟨l,ts,kvs,rfl,hq,hp,q⟩:=h;obtain⟨u,rfl,ru⟩:=vals1 r;cases ru;obtain⟨its,r1,⟨o,n,e1,c1,d1,s1⟩,hz⟩:=I.list hq;obtain rfl:=vals_refs r1;have hl:=Paired.length hp;have get:∀{ts:List Addr} {kvs:List (Key×V)},Paired (fun t (kv:Key×V)=>H t=some (.tup [kV kv.1,kv.2])) ts kvs->
   ∃ps:List (DKp.Pk Key),ps.map (fun x=>Value.ref x.1)=ts.map Value.ref/\(∀x∈ps,DKp.zf6 (zq X.prog X.w) s.heap x)/\∀acc (ys:List (Key×Value)),KV acc ys->KV (kvs.foldl (fun acc kv=>putK acc kv.1 kv.2) acc) (DKp.ziO ys ps):=by
  intro ts kvs z
  induction z with
  | nil=>exact⟨[],rfl,(fun x hx=>nomatch hx),fun acc ys k=>k⟩
  | @cons t kv ts kvs ht t' ih=>
   obtain⟨ps,g1,g2,g3⟩:=ih;obtain⟨its,ri,pi,_⟩:=I.tuple (SqT.of (K:=X.K) ht);obtain⟨k',v',e2,rk,rv⟩:∃k' v',its=[k',v']/\RelV (kV kv.1) k'/\RelV kv.2 v':=by
    cases ri with
    | cons ra rb=>
     cases rb with
     | cons rc rd=>
      cases rd;exact⟨_,_,rfl,ra,rc⟩
   subst e2;refine⟨(t,kv.1,k',v')::ps,by rw[AK,AK,g1],fun x hx=>?_,fun acc ys k=>?_⟩
   ·rcases List.mem_cons.mp hx with rfl | hx
    ·exact⟨pi,zdW rk⟩
    ·exact g2 x hx
   ·exact g3 _ _ (KV.put k kv.1 rv)
 obtain⟨ps,g1,g2,g3⟩:=get hp;have hpl:ps.length=kvs.length:=by
  have:=congrArg List.length g1;rw[Ab,Ab] at this;omega
 rw[Ab] at hz;refine DKp.zau (knd:=zq X.prog X.w) (ts:=ps) (n:=n) (I.ok.hd hc) (by omega) e1 c1 (by rw[g1]; exact s1) d1 g2 (by omega) fun h' tk dd kk=>?_;have hkt:=g3 [] [] .nil;have hD:H s.heap.objs.size=none:=I.hok.fresh (Af _);refine⟨.ref s.heap.objs.size,_,I.laid (o:=.dK (foldZ kvs)) (fun b u e=>kk b u (Ah e) e) (Af _) (dk_new ?_ (beq_eq_false_iff_ne.mpr (Nat.ne_of_gt I.big)) hkt dd),rfl,q _ hD⟩;have:=zee kvs [];unfold foldZ;simp at this;omega
end
end L2
end
section
namespace K52
open K1
open PySem L2 STb
abbrev zcb:Stmt:=top 33
abbrev zb8:Stmt:=top 32
abbrev zaU:Stmt:=top 47
abbrev zV (ns:List (Int×Int)):HO:=dZ (ns.map fun p=>(p.1,V.int p.2))
abbrev kZ (ns:List (Int×Int)):List (Key×V):=(ns.map fun p=>(p.1,V.int p.2)).map fun p=>((Sum.inl p.1:Key),p.2)
def nv (ns:List (Int×Int)) (x:Int):Int:=((ns.find? fun p=>p.1=x).map (·.2)).getD 0
theorem zmT {ns:List (Int×Int)}{x:Int} (h:x∈ns.map (·.1)):valV (kZ ns) (Sum.inl x)=some (V.int (nv ns x)):=by
 induction ns with
 | nil=>exact nomatch h
 | cons p ns ih=>
  unfold nv
  by_cases e:p.1=x
  ·subst e
   rw[kZ,AK,AK,zbL rfl,List.find?_cons];simp
  ·have e':¬ (Sum.inl p.1:Key)=Sum.inl x:=fun z=>e (Sum.inl.inj z)
   rw[kZ,AK,AK,zbP e',List.find?_cons,decide_eq_false e];refine ih ?_;rcases List.mem_cons.mp h with h | h
   ·exact (e h.symm).elim
   ·exact h
theorem zl7 {H:Hp}{d:Addr}{ns:List (Int×Int)}{x:Int} (hd:Rd H d (zV ns)) (h:x∈ns.map (·.1)):DGet H d (.int x) (some (.int (nv ns x))):=.inl ⟨kZ ns,Sum.inl x,hd,rfl,(zmT h).symm⟩
def img (ns:List (Int×Int)) (p:List Int):List Int:=(dd (p.map (nv ns))).mergeSort (·<=·)
section
variable {P:Program}{w:World}{K:Ae}{mg:Str->Option Value}{base:Heap}
def zha:Sp:=fun vs H Q _=>∃d a ns p,vs=[.ref d,.ref a]/\H d=some (zV ns)/\Tp H a p/\p.length<=10/\(∀x∈p,x∈ns.map (·.1))/\∀D H',Same H H'->H D=none->H' D=some (.lst ((p.map (nv ns)).map V.int))->Q (.ref D) H'
theorem zk6:zp ["names","piece"] ["names","piece"] (za zcb):=⟨rfl,rfl,rfl,by decide +kernel,rfl,by decide +kernel,by decide +kernel⟩
theorem zc0 {H2:Hp}{a d D:Addr}{p:List Int}{ns:List (Int×Int)}{Q:VK} (ha:Tp H2 a p) (hd:H2 d=some (zV ns)) (hz:p.length<=10) (hn:∀x∈p,x∈ns.map (·.1)) (hD:H2 D=none)
  (k:∀H3,Same H2 H3->H3 D=some (.lst ((p.map (nv ns)).map V.int))->Q (.ref D) H3) :
  zaf (Itt K a) (zai 0) tYes (zmz (tVar 1) (tVar 0)) [none,some (.ref d)] H2 D Q:=by
 refine zcl (xs:=p.map V.int) (fun j σ ys H3=>∃v,σ=[v,some (.ref d)]/\Same H2 H3/\H3 D=some (.lst ys)/\ys=((p.map (nv ns)).take j).map V.int) ?_ ?_ ?_ ?_
 ·exact⟨none,rfl,Same.new hD,upd_same,rfl⟩
 ·rintro j σ ys H3 ⟨v,rfl,sm,hD3,rfl⟩
  exact SqT.of (sm.tp ha)
 ·rintro j σ ys H3 x hx hj hy ⟨v,rfl,sm,hD3,rfl⟩
  obtain⟨q,eq,rfl⟩:=zbo hx;refine gyes ?_;refine⟨_,rfl,_,rfl,d,.int (nv ns q),rfl,zl7 (.inl (sm _ _ hd)) (hn q (Aq eq)),cput (by rw[Ab]; exact zd (by omega)) hj hy hD3 ⟨_,rfl,sm.then hD,upd_same,?_⟩⟩;have e:(p.map (nv ns))[j]?=some (nv ns q):=by rw[Ap,eq]; rfl
  rw[AQ e,Ak]; rfl
 ·rintro σ ys H3 ⟨v,rfl,sm,hD3,rfl⟩
  rw[Ay (by simp)] at hD3;exact k H3 sm hD3
theorem ziN {f:Addr}{fd:FuncData} (F:Fun K "names_along" "names_along" zcb f fd) (B:Bt mg):FnOk P w K mg base CX0 1 f fd ["names","piece"] zha:=by
 refine F.ok zk6 (fun vs H Q E h=>?_) (fun cdv A outer s H vs Q E hr h=>?_)
 ·obtain⟨d,a,ns,p,rfl,_⟩:=h; rfl
 ·obtain⟨d,a,ns,p,rfl,hd,ha,hp,hn,k⟩:=h
  have hu:=zcV hr;refine⟨_,ze (zt (zy ["names","piece"] ["point","names"] [none,some 0] (zcM (pv 1)) (fun cl C s₀ H₀ ex=>zm (i:=0) (ndN ["point","names"]) rfl (Or.inl rfl)) (fun cl C s₀ H₀ ex=>zL)
   (fun cl C s₀ H₀ ex=>zhr hu (pv 1) (pv 0) (fun _ _=>rfl)) (hfr:=frOf (za zcb) (by decide +kernel)))),?_⟩
  exact⟨_,rfl,a,rfl,⟨_,SqT.of ha⟩,fun D hD=>zz (zc0 ha hd hp hn hD fun H3 sm h3=>k D H3 sm hD h3)⟩
theorem zjG {ns:List (Int×Int)}{p ms:List Int} (h1:ms.Perm (dd (p.map (nv ns)))) (h2:ms.Pairwise (·<=·)):ms=img ns p:=by
 refine List.Perm.eq_of_pairwise (le:=fun a b:Int=>a<=b) (fun a b _ _=>Int.le_antisymm) h2 ?_ (h1.trans (List.mergeSort_perm _ _).symm);exact (List.pairwise_mergeSort (le:=fun a b:Int=>decide (a<=b)) (fun a b c h1 h2=>by simp at *; omega) (fun a b=>by simp; omega) _).imp fun h=>by simpa using h
def ze7:Sp:=fun vs H Q _=>∃d a ns p,vs=[.ref d,.ref a]/\H d=some (zV ns)/\Tp H a p/\p.length<=10/\(∀x∈p,x∈ns.map (·.1))/\∀t H',Same H H'->H t=none->Tp H' t (img ns p)->Q (.ref t) H'
theorem zlh:zp ["names","piece"] ["names","piece"] (za zb8):=⟨rfl,rfl,rfl,by decide +kernel,rfl,by decide +kernel,by decide +kernel⟩
theorem ziX {f fa:Addr}{fd fda:FuncData} (F:Fun K "image_of" "image_of" zb8 f fd) (B:Bt mg) (Fa:Fun K "names_along" "names_along" zcb fa fda) (ba:Binds K fda ["names","piece"] []) (ma:mg "names_along"=some (.ref fa)) :
  FnOk P w K mg base CX0 2 f fd ["names","piece"] ze7:=by
 have Ga:FnOk P w K mg base CX0 1 fa fda ["names","piece"] zha:=ziN Fa B;refine F.ok zlh (fun vs H Q E h=>?_) (fun cdv A outer s H vs Q E hr h=>?_)
 ·obtain⟨d,a,ns,p,rfl,_⟩:=h; rfl
 ·obtain⟨d,a,ns,p,rfl,hd,ha,hp,hn,k⟩:=h
  refine⟨_,ze (zt (zx zS rfl B.tuple zby (pa_cons (zj (zaZ rfl) rfl B.sorted zaQ (pa_cons (zx (zbr rfl) rfl B.set zld (pa_cons
   (zi Ga hr rfl ma Fa.kp ba .nil pass0 (pa_cons (pv 0) (pa_cons (pv 1) pa_nil))) pa_nil)) pa_nil)) pa_nil))),?_⟩
  refine⟨_,rfl,_,rfl,d,a,ns,p,rfl,hd,ha,hp,hn,fun D H1 s1 hD h1=>?_⟩;refine⟨D,p.map (nv ns),rfl,SqL.of h1,by rw[Ab]; omega,fun S hS=>?_⟩;have s2:=s1.trans (Same.new (o:=SetZ P w S (dd (p.map (nv ns)))) hS);refine⟨S,dd (p.map (nv ns)),rfl,upd_same,fun D2 ms hpm hms hD2=>?_⟩;have s3:=s2.trans (Same.new (o:=.lst (ms.map V.int)) hD2);refine⟨D2,_,rfl,.inl ⟨SqL.of upd_same,fun t ht=>?_⟩⟩;have s4:=s3.trans (Same.new (o:=.tup (ms.map V.int)) ht);obtain rfl:=zjG hpm hms;exact k t _ s4 (s3.free ht) upd_same
end
end K52
end
section
namespace K52
open K1
open PySem L2 STb
section
variable {P:Program}{w:World}{K:Ae}{mg:Str->Option Value}{base:Heap}
theorem ziv:zp ["piece","names"] ["piece","names"] (za zaU):=⟨rfl,rfl,rfl,by decide +kernel,rfl,by decide +kernel,by decide +kernel⟩
def zdl:Sp:=fun vs H Q _=>∃d a ns p,vs=[.ref a,.ref d]/\H d=some (zV ns)/\Tp H a p/\p.length<=10/\(∀x∈p,x∈ns.map (·.1))/\∀t H',Same H H'->H t=none->Tp H' t (img ns p)->Q (.ref t) H'
theorem zdZ {f:Addr}{fd:FuncData} (F:Fun K "_law_image" "_law_image" zaU f fd) (B:Bt mg):FnOk P w K mg base CX0 1 f fd ["piece","names"] zdl:=by
 refine F.ok ziv (fun vs H Q E h=>?_) (fun cdv A outer s H vs Q E hr h=>?_)
 ·obtain⟨d,a,ns,p,rfl,_⟩:=h; rfl
 ·obtain⟨d,a,ns,p,rfl,hd,ha,hp,hn,k⟩:=h
  have hu:=zcV hr;refine⟨_,ze (zt (zx zS rfl B.tuple zby (pa_cons (zj (zaZ rfl) rfl B.sorted zaQ (pa_cons (zx (zbr rfl) rfl B.set zld (pa_cons
   (zy ["piece","names"] ["point","names"] [none,some 1] (zcM (pv 0)) (fun cl C s₀ H₀ ex=>zm (i:=0) (ndN ["point","names"]) rfl (Or.inl rfl)) (fun cl C s₀ H₀ ex=>zL)
   (fun cl C s₀ H₀ ex=>zhr hu (pv 1) (pv 0) (fun _ _=>rfl)) (hfr:=frOf (za zaU) (by decide +kernel))) pa_nil)) pa_nil)) pa_nil))),?_⟩
  refine⟨_,rfl,a,rfl,⟨_,SqT.of ha⟩,fun D hD=>zz (zc0 ha hd hp hn hD fun H1 s1 h1=>?_)⟩;refine⟨D,p.map (nv ns),rfl,SqL.of h1,by rw[Ab]; omega,fun S hS=>?_⟩;have s2:=s1.trans (Same.new (o:=SetZ P w S (dd (p.map (nv ns)))) hS);refine⟨S,dd (p.map (nv ns)),rfl,upd_same,fun D2 ms hpm hms hD2=>?_⟩;have s3:=s2.trans (Same.new (o:=.lst (ms.map V.int)) hD2);refine⟨D2,_,rfl,.inl ⟨SqL.of upd_same,fun t ht=>?_⟩⟩;have s4:=s3.trans (Same.new (o:=.tup (ms.map V.int)) ht);obtain rfl:=zjG hpm hms;exact k t _ s4 (s3.free ht) upd_same
end
end K52
end
section
namespace K52
open K1
open PySem L2 STb
abbrev zbt:Stmt:=top 30
abbrev zbK:Stmt:=top 31
abbrev za9:Stmt:=top 48
def dots (kn:List (List Int)):List Int:=(kn.filter fun p=>decide (p.length=1)).map (·.headD 0)
theorem zaL (l:List (List Int)) (p:List Int):dots (l++[p])=dots l++if p.length=1 then [p.headD 0] else []:=by
 unfold dots;rw[A9,Ak]
 by_cases h:p.length=1 <;> simp[h]
theorem zbn (kn:List (List Int)):(dots kn).length<=kn.length:=by unfold dots; rw[Ab]; exact List.length_filter_le _ _
theorem zkH (pss:List (List Int)):(dots (canon pss)).Pairwise (·<=·):=by
 unfold dots;rw[Bf];refine ((zao pss).sublist List.filter_sublist).imp_of_mem fun {a b} ha hb h=>?_;have la:a.length=1:=by simpa using (List.mem_filter.mp ha).2
 have lb:b.length=1:=by simpa using (List.mem_filter.mp hb).2
 match a,b,la,lb with
 | [x],[y],_,_=>
  show x<=y;rcases Int.lt_or_le y x with q | q
  ·exfalso
   have h2:HT.lexLt (key [y]) (key [x])=false:=by simpa[kle] using h
   have h3:HT.lexLt [1,y] [1,x]=false:=h2;rw[HT.zE,if_pos rfl,HT.zE,if_neg (by omega)] at h3;exact of_decide_eq_false h3 q
  ·exact q
def mapM (ns:List (Int×Int)) (kn there:List (List Int)):Bool:=kn.all fun p=>decide (img ns p∈there)
def zds (ns:List (Int×Int)) (kn:List (List Int)):Bool:=decide (((ns.map (·.1)).mergeSort (·<=·))=dots kn)
def mapG (ns:List (Int×Int)) (kn there:List (List Int)):Bool:=zds ns kn && mapM ns kn there
theorem zeu {ks ms:List Int} (h1:ms.Perm ks) (h2:ms.Pairwise (·<=·)):ms=ks.mergeSort (·<=·):=by
 refine List.Perm.eq_of_pairwise (le:=fun a b:Int=>a<=b) (fun a b _ _=>Int.le_antisymm) h2 ?_ (h1.trans (List.mergeSort_perm _ _).symm);exact (List.pairwise_mergeSort (le:=fun a b:Int=>decide (a<=b)) (fun a b c h1 h2=>by simp at *; omega) (fun a b=>by simp; omega) _).imp fun h=>by simpa using h
theorem zdJ {ns:List (Int×Int)}{kn:List (List Int)}{x:Int} (h:zds ns kn=true) (hx:x∈dots kn):x∈ns.map (·.1):=by
 rw[<- of_decide_eq_true h] at hx;exact (List.mergeSort_perm _ _).subset hx
theorem zeH {ns:List (Int×Int)}{pss:List (List Int)} (h:ns.map (·.1)=dots (canon pss)):zds ns (canon pss)=true:=by
 unfold zds;rw[h];exact decide_eq_true (zeu (List.Perm.refl _) (zkH pss)).symm
theorem zcP {pss:List (List Int)}{p:List Int}{x:Int} (hp:p∈canon pss) (hx:x∈p):x∈dots (canon pss):=by
 obtain⟨t,ht,hs⟩:=List.mem_flatMap.mp (zN.mp hp);have h1:[x]∈canon pss:=zN.mpr (List.mem_flatMap.mpr ⟨t,ht,zA.mpr ⟨by simp,(List.singleton_sublist.mpr hx).trans (zA.mp hs).2⟩⟩);exact List.mem_map.mpr ⟨[x],List.mem_filter.mpr ⟨h1,by simp⟩,rfl⟩
abbrev ze1 (K:Ae):TT:=zfh (tOp rEq (tCB (fun xs H Q=>∃p ys,xs=[.ref p]/\(SqL K H p ys \/ SqT K H p ys)/\Q (.int ys.length) H) (zQ (tVar 0) tNil)) (tC (.int 1)))
abbrev zf9 (K:Ae):TE:=tOp (rIxT K) (tVar 0) (tC (.int 0))
section
variable {P:Program}{w:World}{K:Ae}{mg:Str->Option Value}{base:Heap}
theorem zcn {H2:Hp}{L D:Addr}{as:List Addr}{kn:List (List Int)}{Q:VK} (hl:SqL K H2 L (as.map V.ref)) (ht:Tps H2 as kn) (hz:kn.length<=1000) (hD:H2 D=none)
  (k:∀H3,Same H2 H3->H3 D=some (.lst ((dots kn).map V.int))->Q (.ref D) H3):zaf (Itl K L) (zai 0) (ze1 K) (zf9 K) [none] H2 D Q:=by
 have hla:=ht.length;refine zH (xs:=as.map V.ref) (fun i σ ys H3=>∃v:Option V,σ=[v]/\Same H2 H3/\H3 D=some (.lst ys)/\ys=(dots (kn.take i)).map V.int)
  ⟨none,rfl,Same.new hD,upd_same,rfl⟩ (fun i σ ys H3 ⟨_,_,sm,_⟩=>sm.seq hl) ?_ ?_
 ·rintro i σ ys H3 z hx hi hy ⟨v,rfl,sm,hD3,rfl⟩
  obtain⟨t,et,rfl⟩:=zP hx;obtain⟨ps,eps,hps⟩:=ht.get et;have hp3:=sm.tp hps;refine⟨_,rfl,t,_,rfl,.inr (SqT.of hp3),rfl,_,rfl,?_⟩;rw[show (ps.map V.int).length=ps.length from Ab _]
  by_cases h1:ps.length=1
  ·rw[decide_eq_true (by rw[h1]; rfl)]
   match ps,h1 with
   | [x],_=>
    refine iteT ⟨_,rfl,t,_,0,.int x,rfl,rfl,SqT.of hp3,zu (j:=0) rfl,cput (by rw[Ab]; exact zd (by omega)) hi hy hD3 ⟨_,rfl,sm.then hD,upd_same,?_⟩⟩;rw[AQ eps,zaL,Ak]; rfl
  ·rw[decide_eq_false (fun z=>h1 (by injection z with z; omega))]
   refine iteF (cskip hi hy ⟨_,rfl,sm,hD3,?_⟩);rw[AQ eps,zaL,if_neg h1,List.append_nil]
 ·rintro σ ys H3 ⟨v,rfl,sm,hD3,rfl⟩
  rw[Ab,hla,take_all] at hD3;exact k H3 sm hD3
theorem zhz {H:Hp}{l m:Addr}{ns ms:List Int}{Q:VK} (h1:SqL K H l (ns.map V.int)) (h2:SqL K H m (ms.map V.int)) (q:Q (.bl (!decide (ns=ms))) H):rEqD true K (.ref l) (.ref m) H Q:=by
 refine⟨liD ns,liD ms,zgQ h1,zgQ h2,PySem.W.shaped_ints ns,PySem.W.shaped_ints ms,zmt ns ms,?_⟩;rw[ziT];exact q
def zfv (K:Ae):Sp:=fun vs H Q _=>∃KN TH m ks ts ns kn pss there,vs=[.ref KN,.ref TH,.ref m]/\SqL K H KN (ks.map V.ref)/\Tps H ks kn/\kn=canon pss/\kn.length<64/\(∀p∈kn,p.length<=5)/\SqL K H TH (ts.map V.ref)/\Tps H ts there/\H m=some (zV ns)/\ns.length<=63/\
 ∀H',Same H H'->Q (.bl (mapG ns kn there)) H'
theorem zjg:zp ["known","there","names"] ["known","there","names"] (za za9):=⟨rfl,rfl,rfl,by decide +kernel,rfl,by decide +kernel,by decide +kernel⟩
theorem zft {H2:Hp}{KN D:Addr}{ks:List Addr}{ns:List (Int×Int)}{kn there:List (List Int)}{te:TE}{σ0:List (Option V)}{Q:VK} (hk:SqL K H2 KN (ks.map V.ref)) (hks:Tps H2 ks kn) (hz:kn.length<=1000)
  (hte:∀(t:Addr) (p:List Int) (H3:Hp) (Q':VK),p∈kn->Tp H3 t p->Same H2 H3->(∀H4,Same H3 H4->Q' (.bl (decide (img ns p∈there))) H4)->te (some (.ref t)::σ0) H3 Q') (hD:H2 D=none)
  (k:∀H3,Same H2 H3->H3 D=some (.lst ((kn.map fun p=>decide (img ns p∈there)).map V.bl))->Q (.ref D) H3):zaf (Itl K KN) (zai 0) tYes te (none::σ0) H2 D Q:=by
 have hla:=hks.length;refine zH (xs:=ks.map V.ref) (fun i σ ys H3=>∃v:Option V,σ=v::σ0/\Same H2 H3/\H3 D=some (.lst ys)/\ys=((kn.map fun p=>decide (img ns p∈there)).take i).map V.bl)
  ⟨none,rfl,Same.new hD,upd_same,rfl⟩ (fun i σ ys H3 ⟨_,_,sm,_⟩=>sm.seq hk) ?_ ?_
 ·rintro i σ ys H3 z hx hi hy ⟨v,rfl,sm,hD3,rfl⟩
  obtain⟨t,et,rfl⟩:=zP hx;obtain⟨p,ep,hp⟩:=hks.get et;refine gyes ?_;refine hte t p H3 _ (Aq ep) (sm.tp hp) sm fun H4 s4=>?_;have e:(kn.map fun p=>decide (img ns p∈there))[i]?=some (decide (img ns p∈there)):=by rw[Ap,ep]; rfl
  exact cput (by rw[Ab]; exact zd (by omega)) hi hy (s4 _ _ hD3) ⟨_,rfl,(sm.trans s4).then hD,upd_same,by rw[AQ e,Ak]; rfl⟩
 ·rintro σ ys H3 ⟨v,rfl,sm,hD3,rfl⟩
  rw[Ay (by rw[Ab,Ab]; omega)] at hD3;exact k H3 sm hD3
theorem zbB {ns:List (Int×Int)}{kn there:List (List Int)}:((kn.map fun p=>decide (img ns p∈there)).all id)=mapM ns kn there:=by unfold mapM; rw[List.all_map]; rfl
theorem zhs {f fi:Addr}{fd fdi:FuncData} (F:Fun K "_law_is_map" "_law_is_map" za9 f fd) (B:Bt mg) (Fi:Fun K "_law_image" "_law_image" zaU fi fdi) (bi:Binds K fdi ["piece","names"] []) (mi:mg "_law_image"=some (.ref fi)) :
  FnOk P w K mg base CX0 2 f fd ["known","there","names"] (zfv K):=by
 have Gi:FnOk P w K mg base CX0 1 fi fdi ["piece","names"] zdl:=zdZ Fi B;refine F.ok zjg (fun vs H Q E h=>?_) (fun cdv A outer s H vs Q E hr h=>?_)
 ·obtain⟨KN,TH,m,ks,ts,ns,kn,pss,there,rfl,_⟩:=h; rfl
 ·obtain⟨KN,TH,m,ks,ts,ns,kn,pss,there,rfl,hk,hks,ek,hz,h5,hT,hts,hm,hd,k⟩:=h
  have hu:=zcV hr;have hu64:=hr.units;refine⟨_,zb (zU (zo (zj6 hu64) (zj zaW rfl B.sorted zaQ (pa_cons (zx (zbg rfl) rfl B.list zbS (pa_cons (pv 2) pa_nil)) pa_nil))
    (zy ["known","there","names"] ["piece"] [none] (zw (pv 0)) (fun cl C s₀ H₀ ex=>zm (i:=0) (ndN ["piece"]) rfl (Or.inl rfl)) (fun cl C s₀ H₀ ex=>zaR (zo zaC (zj zh rfl B.len z0 (pa_cons (pv 0) pa_nil)) zf (nomark _)))
     (fun cl C s₀ H₀ ex=>zK zaw (pv 0) zf (fun _ _=>rfl)) (hfr:=nofr (by decide +kernel)) (te:=zf9 K) (tc:=ze1 K)) (nomark _)) (ze (zt zba)) zv)
   (ze (zt (zj (zbm rfl) rfl B.all zgA (pa_cons
    (zy ["known","there","names"] ["piece","names","there"] [none,some 2,some 1] (zw (pv 0)) (fun cl C s₀ H₀ ex=>zm (i:=0) (ndN ["piece","names","there"]) rfl (Or.inl rfl)) (fun cl C s₀ H₀ ex=>zL)
     (fun cl C s₀ H₀ ex=>zaS (r:=rInT false K) (zjS (in1_units hu64)) (zi Gi hr rfl mi Fi.kp bi .nil pass0 (pa_cons (pv 0) (pa_cons (pv 1) pa_nil))) (pv 2) (by with_unfolding_all rfl)) (hfr:=frOf (za za9) (by decide +kernel))) pa_nil)))),?_⟩
  have hdl:=zbn kn;refine⟨_,rfl,m,_,rfl,hm,fun L hL=>?_⟩;have s1:=Same.new (o:=.lst (((ns.map fun p=>(p.1,V.int p.2)).map fun p=>((Sum.inl p.1:Key),p.2)).map fun kv=>kV kv.1)) hL;have ev:(((ns.map fun p=>(p.1,V.int p.2)).map fun p=>((Sum.inl p.1:Key),p.2)).map fun kv=>kV kv.1)=(ns.map (·.1)).map V.int:=by rw[Aw,Aw,Aw]; rfl
  refine⟨L,ns.map (·.1),rfl,SqL.of (by rw[upd_same,ev]),by rw[Ab]; omega,fun D ms hp hs hD=>?_⟩;have s2:=s1.trans (Same.new (o:=.lst (ms.map V.int)) hD);obtain rfl:=zeu hp hs;refine⟨_,rfl,KN,rfl,⟨_,s2.seq hk⟩,fun D2 hD2=>zz (zcn (s2.seq hk) (s2.tps hks) (by omega) hD2 fun H3 s3 h3=>zhz (SqL.of (s3 _ _ upd_same)) (SqL.of h3) ⟨_,rfl,?_⟩)⟩;have s23:=s2.trans s3;cases hkb:decide ((ns.map (·.1)).mergeSort (·<=·)=dots kn) with
  | false=>
   refine iteT ?_;have e:mapG ns kn there=false:=by unfold mapG zds; rw[hkb]; rfl
   have:=k H3 s23;rw[e] at this;exact this
  | true=>
  have e:mapG ns kn there=mapM ns kn there:=by unfold mapG zds; rw[hkb]; rfl
  have hin:∀p∈kn,∀x∈p,x∈ns.map (·.1):=fun p hp x hx=>zdJ (kn:=kn) hkb (by rw[ek]; exact zcP (ek ▸ hp) hx);refine iteF ⟨_,rfl,KN,rfl,⟨_,s23.seq hk⟩,fun D4 hD4=>zz (zft (ns:=ns) (there:=there) (s23.seq hk) (s23.tps hks) (by omega) (fun t p H5 Q' hp ht s5 q=>?_) hD4 fun H5 s5 h5=>⟨D4,_,rfl,SqL.of h5,?_⟩)⟩
  ·have sA:=s23.trans s5
   refine⟨_,rfl,_,rfl,m,t,ns,p,rfl,sA _ _ hm,ht,by have:=h5 p hp; omega,hin p hp,fun u H6 s6 hu6 ht6=>?_⟩;have sB:=sA.trans s6;refine⟨_,rfl,u,TH,_,ts,there,rfl,rfl,ht6,sB.seq hT,sB.tps hts,?_⟩;rw[if_neg (by decide)];exact q H6 s6
  ·rw[zbB,<- e]
   exact k H5 (s23.trans s5)
end
end K52
end
section
namespace K52
open K1
open PySem L2 STb
section
variable {P:Program}{w:World}{K:Ae}{mg:Str->Option Value}{base:Heap}
structure WM (K:Ae) (H:Hp) (l o m:Addr) (as bs:List Addr) (pss qss:List (List Int)) (ns:List (Int×Int)):Prop where
 hl:SqL K H l (as.map V.ref)
 ha:Tps H as pss
 hw:webS pss
 ho:SqL K H o (bs.map V.ref)
 hb:Tps H bs qss
 hv:webS qss
 hm:H m=some (zV ns)
 hd:ns.length<=63
theorem WM.same {H H':Hp}{l o m:Addr}{as bs:List Addr}{pss qss:List (List Int)}{ns:List (Int×Int)} (h:WM K H l o m as bs pss qss ns) (s:Same H H'):WM K H' l o m as bs pss qss ns:=⟨s.seq h.hl,s.tps h.ha,h.hw,s.seq h.ho,s.tps h.hb,h.hv,s _ _ h.hm,h.hd⟩
theorem can5 {pss:List (List Int)} (hw:webM pss=true):∀o∈canon pss,o.length<=5/\o≠[]:=fun o ho=>by
 obtain⟨_,hpc,_,_⟩:=zal hw;obtain⟨q,hq,hx⟩:=List.mem_flatMap.mp (zN.mp ho);obtain⟨h0,h5,_,hp⟩:=zB.mp (zaD (hpc q hq) hx);exact⟨h5,h0⟩
def zdH (K:Ae):Sp:=fun vs H Q _=>∃l o m as bs pss qss ns,vs=[.ref l,.ref o,.ref m]/\WM K H l o m as bs pss qss ns/\∀H',Same H H'->Q (.bl (mapG ns (canon pss) (canon qss))) H'
abbrev nmI:List Str:=["web","other","names","here","there"]
theorem zfj:zp nmI ["web","other","names"] (za zbt):=⟨rfl,rfl,rfl,by decide +kernel,rfl,by decide +kernel,by decide +kernel⟩
theorem ziy {f fp fi:Addr}{fd fdp fdi:FuncData} (F:Fun K "is_map" "is_map" zbt f fd) (B:Bt mg)
  (Fp:Fun K "pieces" "pieces" zbw fp fdp) (bp:Binds K fdp ["web"] []) (mp:mg "pieces"=some (.ref fp)) (Gp:FnOk P w K mg base CX0 8 fp fdp ["web"] (zfx K))
  (Fi:Fun K "image_of" "image_of" zb8 fi fdi) (bi:Binds K fdi ["names","piece"] []) (mi:mg "image_of"=some (.ref fi)) (Gi:FnOk P w K mg base CX0 2 fi fdi ["names","piece"] ze7) :
  FnOk P w K mg base CX0 9 f fd ["web","other","names"] (zdH K):=by
 refine F.ok zfj (fun vs H Q E h=>?_) (fun cdv A outer s H vs Q E hr h=>?_)
 ·obtain⟨l,o,m,as,bs,pss,qss,ns,rfl,_⟩:=h; rfl
 ·obtain⟨l,o,m,as,bs,pss,qss,ns,rfl,wm,k⟩:=h
  have hu:=zcV hr;have hu64:=hr.units;have hr2:Room 2 _:=hr.mono (by decide);refine⟨_,zb (zn (i:=3) zfj.nd rfl (Or.inl rfl) (zi Gp hr rfl mp Fp.kp bp .nil pass0 (pa_cons (pv 0) pa_nil)))
   (zb (zn (i:=4) zfj.nd rfl (Or.inr rfl) (zi Gp hr rfl mp Fp.kp bp .nil pass0 (pa_cons (pv 1) pa_nil)))
   (zb (zU (zo (zj6 hu64) (zj (zcU rfl) rfl B.sorted zaQ (pa_cons (pv 2) pa_nil))
    (zy nmI ["piece"] [none] (zw (pv 3)) (fun cl C s₀ H₀ ex=>zm (i:=0) (ndN ["piece"]) rfl (Or.inl rfl)) (fun cl C s₀ H₀ ex=>zaR (zo zaC (zj zh rfl B.len z0 (pa_cons (pv 0) pa_nil)) zf (nomark _)))
     (fun cl C s₀ H₀ ex=>zK zaw (pv 0) zf (fun _ _=>rfl)) (hfr:=nofr (by decide +kernel)) (te:=zf9 K) (tc:=ze1 K)) (nomark _)) (ze (zt zba)) zv)
   (ze (zt (zj (zbm rfl) rfl B.all zgA (pa_cons
    (zy nmI ["piece","names","there"] [none,some 2,some 4] (zw (pv 3)) (fun cl C s₀ H₀ ex=>zm (i:=0) (ndN ["piece","names","there"]) rfl (Or.inl rfl)) (fun cl C s₀ H₀ ex=>zL)
     (fun cl C s₀ H₀ ex=>zaS (r:=rInT false K) (zjS (in1_units hu64)) (zi Gi hr2 rfl mi Fi.kp bi .nil pass0 (pa_cons (pv 1) (pa_cons (pv 0) pa_nil))) (pv 2) (by with_unfolding_all rfl)) (hfr:=frOf (za zbt) (by decide +kernel))) pa_nil)))))),?_⟩
  refine⟨_,rfl,l,as,pss,rfl,wm.hl,wm.ha,wm.hw,fun KN H1 ks s1 hK0 hK1 hks1=>?_⟩;have wm1:=wm.same s1;refine⟨_,rfl,o,bs,qss,rfl,wm1.ho,wm1.hb,wm1.hv,fun TH H2 ts s2 hT0 hT2 hts2=>?_⟩;have wm2:=wm1.same s2;have hK2:=s2 _ _ hK1;have hks2:=s2.tps hks1;have hz:=wm.hw.2;have hdl:=zbn (canon pss);have hlk:=wm.hd;refine⟨_,rfl,m,_,rfl,wm2.hm,by rw[Ab]; omega,fun D ms hp hs hD=>?_⟩;have s3:=Same.new (o:=.lst (ms.map V.int)) hD;obtain rfl:=zeu (ks:=ns.map (·.1)) (hp.trans (by rw[Aw]; exact List.Perm.refl _)) hs;refine⟨_,rfl,KN,rfl,⟨_,SqL.of (s3 _ _ hK2)⟩,fun D2 hD2=>zz (zcn (SqL.of (s3 _ _ hK2)) (s3.tps hks2) (by omega) hD2 fun H4 s4 h4=>zhz (SqL.of (s4 _ _ upd_same)) (SqL.of h4) ⟨_,rfl,?_⟩)⟩;have s34:=s3.trans s4;have wm4:=wm2.same s34;cases hkb:decide ((ns.map (·.1)).mergeSort (·<=·)=dots (canon pss)) with
  | false=>
   refine iteT ?_;have e:mapG ns (canon pss) (canon qss)=false:=by unfold mapG zds; rw[hkb]; rfl
   have:=k H4 ((s1.trans s2).trans s34);rw[e] at this;exact this
  | true=>
  have e:mapG ns (canon pss) (canon qss)=mapM ns (canon pss) (canon qss):=by unfold mapG zds; rw[hkb]; rfl
  refine iteF ⟨_,rfl,KN,rfl,⟨_,SqL.of (s34 _ _ hK2)⟩,fun D4 hD4=>zz (zft (ns:=ns) (there:=canon qss) (SqL.of (s34 _ _ hK2)) (s34.tps hks2) (by omega) (fun t p H5 Q' hp ht s5 q=>?_) hD4 fun H5 s5 h5=>⟨D4,_,rfl,SqL.of h5,?_⟩)⟩
  ·refine⟨_,rfl,_,rfl,m,t,ns,p,rfl,s5 _ _ wm4.hm,ht,by have:=(can5 wm.hw.1 p hp).1; omega,fun x hx=>zdJ (kn:=canon pss) hkb (zcP hp hx),fun u H6 s6 hu6 ht6=>?_⟩
   have sB:=(s34.trans s5).trans s6;refine⟨_,rfl,u,TH,_,ts,canon qss,rfl,rfl,ht6,SqL.of (sB _ _ hT2),sB.tps hts2,?_⟩;rw[if_neg (by decide)];exact q H6 s6
  ·rw[zbB,<- e]
   exact k H5 (((s1.trans s2).trans s34).trans s5)
def zgR (K:Ae):Sp:=fun vs H Q _=>∃l o m as bs pss qss ns,vs=[.ref l,.ref o,.ref m]/\WM K H l o m as bs pss qss ns/\mapG ns (canon pss) (canon qss)=true/\∀H',Same H H'->Q .non H'
theorem zhG:zp ["web","other","names"] ["web","other","names"] (za zbK):=⟨rfl,rfl,rfl,by decide +kernel,rfl,by decide +kernel,by decide +kernel⟩
theorem zi8 {f fi:Addr}{fd fdi:FuncData} (F:Fun K "must_be_map" "must_be_map" zbK f fd)
  (Fi:Fun K "is_map" "is_map" zbt fi fdi) (bi:Binds K fdi ["web","other","names"] []) (mi:mg "is_map"=some (.ref fi)) (Gi:FnOk P w K mg base CX0 9 fi fdi ["web","other","names"] (zdH K)):FnOk P w K mg base CX0 10 f fd ["web","other","names"] (zgR K):=by
 refine F.ok zhG (fun vs H Q E h=>?_) (fun cdv A outer s H vs Q E hr h=>?_)
 ·obtain⟨l,o,m,as,bs,pss,qss,ns,rfl,_⟩:=h; rfl
 ·obtain⟨l,o,m,as,bs,pss,qss,ns,rfl,wm,hM,k⟩:=h
  refine⟨_,ze (zU (za1 (zaY (zi Gi hr rfl mi Fi.kp bi .nil pass0 (pa_cons (pv 0) (pa_cons (pv 1) (pa_cons (pv 2) pa_nil)))))) zbN zv),?_⟩;refine⟨_,rfl,_,rfl,_,rfl,l,o,m,as,bs,pss,qss,ns,rfl,wm,fun H1 s1=>⟨_,rfl,?_⟩⟩;rw[hM];exact iteF (k H1 s1)
end
end K52
end
section
namespace L2
open PySem PySem.Spec PyProof.Rows
def Itrv (K:Ae) (a:Addr) (n:Nat):It:=
 ⟨fun i H=>i<n/\∃xs,SqT K H a xs/\xs.length=n,fun i H x H'=>H'=H/\∀xs,SqT K H a xs->xs.reverse[i]?=some x,fun i H=>i=n/\∃xs,SqT K H a xs/\xs.length=n⟩
theorem zjq {P:Program}{w:World}{K:Ae}{tg:Expr} (a it:Addr) (n:Nat):Turn P w K tg (Itrv K a n) [it] it (fun i h=>RvT.IsRT h it a ((n:Int) - 1 - (i:Int))) where
 mem:=by simp
 obj:=fun i h st b hb=>by
  have e:b=it:=by simpa using hb
  subst e;obtain⟨o,e,c,d⟩:=st;exact⟨o,e,fun v z=>by rw[d] at z; cases z⟩
 keep:=fun i h h' st k=>st.at fun o e=>k it (by simp) o e
 item:=by
  intro X hP hw hK hc i pins s σ H E I hf st hg;subst hP hw hK;obtain⟨hi,xs,hq,hn⟩:=hg;obtain⟨its,rv,p,hz⟩:=I.tuple hq;have hx:xs.reverse[i]?=some (xs[n - 1 - i]'(by omega)):=by
   have e:xs.length - 1 - i=n - 1 - i:=by omega
   rw[List.getElem?_reverse (by omega),e];exact Ag _
  obtain⟨u,hu,ru⟩:=rv.get (Ag (l:=xs) (i:=n - 1 - i) (by omega));obtain⟨f0,f1,f2,f3,f4,f5⟩:=hf it (by simp);have e:(n:Int) - 1 - (i:Int)=((n - 1 - i:Nat):Int):=by omega
  rw[e] at st;refine RvT.next_item st p (x:=u) (by simpa using hu) (by rw[Ai,<- rv.length]; exact hz) fun h' tk st' sb=>?_;rw[show ((n - 1 - i:Nat):Int) - 1=(n:Int) - 1 - ((i+1:Nat):Int) by omega] at st';have I1:Inv X pins σ H { s with heap:=h',toks:=tk }:=I.turned (t':=tk) (fun b o hb e=>(sb.2 b hb).trans e) f0 f1 f3 f4 f5;obtain⟨o,e,c,d⟩:=id st';exact⟨u,rfl,zho (s:={ s with heap:=h',toks:=tk }) e c d (by decide) ⟨xs[n - 1 - i]'(by omega),H,I1,ru,⟨rfl,fun ys hy=>by rw[I.tuple_inj hy hq]; exact hx⟩,st',fun b hb=>(hf b hb).1⟩⟩
 done:=by
  intro X hP hw hK hc i pins s σ H E I hf st hg;subst hP hw hK;obtain⟨hi,xs,hq,hn⟩:=hg;obtain⟨f0,f1,f2,f3,f4,f5⟩:=hf it (by simp);rw[hi,show (n:Int) - 1 - (n:Int)=-1 by omega] at st;exact RvT.next_end (I.ok.hd hc) st fun h' eb=>⟨rfl,I.turned (t':=s.toks) (fun b o hb e=>eb b o hb e) f0 f1 f3 f4 f5⟩
 self:=fun _ _ _ _ _ st h=>RvT.zea st h
def zmi (K:Ae) (ta:TA):TI:=fun σ H R=>ta σ H fun vs H1=>∃a xs,vs=[.ref a]/\SqT K H1 a xs/\R (Itrv K a xs.length) H1
section
variable {X:Cx}{tg:Expr}
theorem zk8 {e:Expr}{ta:TA}{p pos:Pos} (hg:Gl X "reversed") (hm:X.mg "reversed"=none) (hv:A5 "reversed"=some (.type "reversed")) (ha:PA X [e] ta) (he:starEach [e] X.env=[(false,eval e X.env)]:=by rfl) :
  PI X tg (.Call (.Name "reversed" p) [e] [] pos) (zmi X.K ta):=by
 intro pins s σ H R I h;refine Call_ (zcr I hg hm hv (PyProof.Rows.callWith_type1 (thn (ha pos pins s σ H _ I h) fun us s1 ⟨vs,H1,I1,r1,q1⟩=>?_) he rfl));obtain⟨a,xs,rfl,hx,q⟩:=q1;obtain⟨u,rfl,ru⟩:=vals1 r1;cases ru;obtain⟨its,r2,p2,hz⟩:=I1.tuple hx;have hzz:its.toArray.size<=sizeLine:=by rw[Ai,<- r2.length]; exact hz
 refine RvT.zb4 p2 hzz fun tk=>?_;refine RvT.zea (s:={ s1 with heap:=s1.heap.push (RvT.revT a ((its.toArray.size:Int) - 1)),toks:=tk }) ⟨_,Al _ rfl,rfl,rfl⟩ ?_;refine⟨s1.heap.objs.size,[s1.heap.objs.size],_,_,H1,rfl,I1.kept fun b o e=>Ad _ e,zjq a _ xs.length,⟨_,Al _ rfl,rfl,?_⟩,fun b hb=>?_,q⟩
 ·show Data.fields #[.ref a,rawInt ((its.toArray.size:Int) - 1)]=Data.fields #[.ref a,rawInt ((xs.length:Int) - 1 - ((0:Nat):Int))]
  rw[Ai,r2.length];simp
 ·have e:b=s1.heap.objs.size:=by simpa using hb
  subst e;exact I1.fpOk (Af _) (I1.hok.fresh (Af _))
end
theorem zjd {K:Ae}{a D:Addr}{xs:List V}{g:TG}{tc:TT}{te:TE}{σ:St}{H1:Hp}{Q:VK} (Pv:Nat->St->List V->Hp->Prop) (h0:Pv 0 σ [] (upd H1 D (.lst []))) (hl:∀i σ ys H,Pv i σ ys H->SqT K H a xs)
  (hs:∀i σ ys H x,xs.reverse[i]?=some x->i<xs.length->ys.length<=i->Pv i σ ys H->g x σ H fun σ3 H4=>tc σ3 H4 fun b H5=>if b=true then te σ3 H5 (CPut xs.length Pv D i σ3) else CSkip xs.length Pv i σ3 H5)
  (hd:∀σ ys H,Pv xs.length σ ys H->Q (.ref D) H):zaf (Itrv K a xs.length) g tc te σ H1 D Q:=by
 refine zbY xs.length Pv h0 (fun σ ys H p=>⟨rfl,xs,hl _ _ _ _ p,rfl⟩) (fun i σ ys H hi p=>⟨hi,xs,hl _ _ _ _ p,rfl⟩) (fun i σ ys H x H' hi hy p y=>?_) hd;obtain⟨e,y⟩:=y;subst e;exact hs i σ ys _ x (y xs (hl _ _ _ _ p)) hi hy p
end L2
end
section
namespace K52
open K1
open PySem L2 STb
theorem ziF {α:Type}{P:List α->Prop} (h0:P []) (hs:∀l x,P l->P (l++[x])) (l:List α):P l:=by
 have:∀n,∀l:List α,l.length=n->P l:=by
  intro n
  induction n with
  | zero=>intro l hl; rw[List.eq_nil_of_length_eq_zero hl]; exact h0
  | succ n ih=>
   intro l hl;have hne:l≠[]:=fun z=>by rw[z] at hl; simp at hl
   rw[<- List.dropLast_concat_getLast hne];exact hs _ _ (ih _ (by rw[List.length_dropLast]; omega))
 exact this _ l rfl
def mir (p:List Int):List Int:=p.reverse.map fun x=>99 - x
theorem zda (p:List Int):mir (mir p)=p:=by
 unfold mir;rw[<- List.map_reverse,List.reverse_reverse,Aw]
 conv=>rhs; rw[<- List.map_id p]
 refine List.map_congr_left fun x _=>?_;show 99 - (99 - x)=x;omega
theorem zh9 {p q:List Int} (h:mir p=mir q):p=q:=by rw[<- zda p,h,zda]
theorem zk3 {p q:List Int} (h:p.Sublist q):(mir p).Sublist (mir q):=(h.reverse).map _
theorem zjU {p:List Int} (h:p≠[]):mir p≠[]:=fun z=>h (zh9 (q:=[]) z)
theorem zid (p:List Int):(mir p).length=p.length:=by unfold mir; rw[Ab,List.length_reverse]
theorem zii {p:List Int} (h:zY p=true):zY (mir p)=true:=by
 obtain⟨h0,h5,hr,hp⟩:=zB.mp h;refine zB.mpr ⟨zjU h0,by rw[zid]; exact h5,fun x hx=>?_,?_⟩
 ·obtain⟨y,hy,rfl⟩:=List.mem_map.mp hx
  have:=hr y (List.mem_reverse.mp hy);omega
 ·unfold mir
  rw[Bf,List.pairwise_reverse];exact hp.imp fun {a b} e=>by omega
theorem zlj (pss:List (List Int)):(dd ((pss.map mir).flatMap parts)).length<=(dd (pss.flatMap parts)).length:=by
 have e:((dd (pss.flatMap parts)).map mir).length=(dd (pss.flatMap parts)).length:=Ab _;rw[<- e];refine (zas _).length_le_of_subset fun x hx=>?_;rw[zay,List.mem_flatMap] at hx;obtain⟨p,hm,hx⟩:=hx;obtain⟨r,hr,rfl⟩:=List.mem_map.mp hm;obtain⟨hne,hsub⟩:=zA.mp hx;refine List.mem_map.mpr ⟨mir x,(zay _ _).mpr (List.mem_flatMap.mpr ⟨r,hr,zA.mpr ⟨zjU hne,?_⟩⟩),zda x⟩;have:=zk3 hsub
 rwa [zda] at this
theorem zkN {pss:List (List Int)} (hw:webM pss=true) (hn:pss.Nodup) (h56:(canon pss).length<=56):webS (pss.map mir)/\(canon (pss.map mir)).length<=56:=by
 obtain⟨h20,hp,_,h200⟩:=zal hw;have hf:=zlj pss;rw[<- zI,<- zI] at hf;refine⟨⟨zkb (by rw[Ab]; exact h20) ?_ (fun p hm=>?_) ?_,by omega⟩,by omega⟩
 ·unfold List.Nodup at hn ⊢
  rw[Bf];exact hn.imp fun {x y} e z=>e (zh9 z)
 ·obtain⟨r,hr,rfl⟩:=List.mem_map.mp hm
  exact zii (hp r hr)
 ·rw[<- zI]
  omega
theorem zew {pss:List (List Int)}:(dots (canon pss)).Nodup:=by
 unfold dots List.Nodup;rw[Bf];have hn:(canon pss).Nodup:=(zam pss).nodup_iff.mpr (zas _);refine (List.Pairwise.sublist List.filter_sublist hn).imp_of_mem fun {a b} ha hb h=>?_;have la:a.length=1:=by simpa using (List.mem_filter.mp ha).2
 have lb:b.length=1:=by simpa using (List.mem_filter.mp hb).2
 match a,b,la,lb with
 | [x],[y],_,_=>exact fun z=>h (by rw[show x=y from z])
theorem zeS {ns:List (Int×Int)}{x y:Int} (h:x∉ns.map (·.1)):putK (kZ ns) (Sum.inl x) (V.int y)=kZ (ns++[(x,y)]):=by
 unfold putK;rw[if_neg ?_]
 ·rw[kZ,kZ,Ak,Ak]; rfl
 ·intro z
  obtain⟨kv,h1,h2⟩:=List.any_eq_true.mp z;rw[kZ,Aw] at h1;obtain⟨p,hp,rfl⟩:=List.mem_map.mp h1;exact h (List.mem_map.mpr ⟨p,hp,Sum.inl.inj (of_decide_eq_true h2)⟩)
theorem zhy {ns:List (Int×Int)}{x y:Int} (h:x∈ns.map (·.1)):∃ms:List (Int×Int),putK (kZ ns) (Sum.inl x) (V.int y)=kZ ms/\ms.map (·.1)=ns.map (·.1):=by
 refine⟨ns.map fun p=>if p.1=x then (p.1,y) else p,?_,?_⟩
 ·unfold putK
  rw[if_pos ?_]
  ·rw[kZ,kZ,Aw,Aw,Aw,Aw]
   refine List.map_congr_left fun p _=>?_
   by_cases e:p.1=x
   ·simp[e]
   ·simp[e]
  ·obtain⟨p,hp,e⟩:=List.mem_map.mp h
   refine List.any_eq_true.mpr ⟨(Sum.inl p.1,V.int p.2),?_,by simp[e]⟩;rw[kZ,Aw];exact List.mem_map.mpr ⟨p,hp,rfl⟩
 ·rw[Aw]
  refine List.map_congr_left fun p _=>?_;show (if p.1=x then (p.1,y) else p).1=p.1;split <;> rfl
theorem zhZ:∀(ns:List (Int×Int)),(ns.map (·.1)).Nodup->foldZ (kZ ns)=kZ ns:=ziF (P:=fun ns:List (Int×Int)=>(ns.map (·.1)).Nodup->foldZ (kZ ns)=kZ ns) (fun _=>rfl) (fun l t ih h=>by
 rw[Ak] at h;have h':=List.nodup_append.mp h;have e:kZ (l++[t])=kZ l++[((Sum.inl t.1:Key),V.int t.2)]:=by rw[kZ,kZ,Ak,Ak]; rfl
 rw[e];unfold foldZ at ih ⊢;rw[List.foldl_append,ih h'.1];show putK (kZ l) (Sum.inl t.1) (V.int t.2)=_;rw[zeS (fun z=>h'.2.2 _ z t.1 (by simp) rfl),e])
end K52
end
section
namespace K52
open K1
open PySem L2 STb
abbrev zbv:Stmt:=top 49
abbrev nmP:List Str:=["box","web","known","other","way","dots","names","one","two","edges","piece"]
structure W2 (H0 H:Hp) (p O KN OT:Addr) (os ks bs:List Addr) (pss qss:List (List Int)):Prop where
 sb:zac p H0 H
 bx:zT H p
 hO:H O=some (.lst (os.map V.ref))
 ho:Tps H os pss
 hK:H KN=some (.lst (ks.map V.ref))
 hk:Tps H ks (canon pss)
 hT:H OT=some (.lst (bs.map V.ref))
 hb:Tps H bs qss
theorem W2.same {H0 H H':Hp}{p O KN OT:Addr}{os ks bs:List Addr}{pss qss:List (List Int)} (h:W2 H0 H p O KN OT os ks bs pss qss) (s:Same H H'):W2 H0 H' p O KN OT os ks bs pss qss:=
 ⟨h.sb.trans (zac.of s),h.bx.same s,s _ _ h.hO,s.tps h.ho,s _ _ h.hK,s.tps h.hk,s _ _ h.hT,s.tps h.hb⟩
theorem W2.box {H0 H H':Hp}{p O KN OT:Addr}{os ks bs:List Addr}{pss qss:List (List Int)} (h:W2 H0 H p O KN OT os ks bs pss qss) (s:zac p H H') (b:zT H' p):W2 H0 H' p O KN OT os ks bs pss qss:=
 ⟨h.sb.trans s,b,s _ _ (h.bx.ne h.hO) h.hO,s.tps h.bx h.ho,s _ _ (h.bx.ne h.hK) h.hK,s.tps h.bx h.hk,s _ _ (h.bx.ne h.hT) h.hT,s.tps h.bx h.hb⟩
theorem zbp {H:Hp}{p M:Addr}{kvs:List (Key×V)} (b:zT H p) (h:H M=some (.dK kvs)):M≠p:=by
 obtain⟨x,y,e,_⟩:=b;exact za2 h e (by intro z; cases z)
theorem W2.put {H0 H:Hp}{p O KN OT M:Addr}{os ks bs:List Addr}{pss qss:List (List Int)}{kvs:List (Key×V)}{o:HO} (h:W2 H0 H p O KN OT os ks bs pss qss) (hM:H M=some (.dK kvs)) (h0:H0 M=none):W2 H0 (upd H M o) p O KN OT os ks bs pss qss:=by
 have k1:∀{b:Addr} {u:HO},H b=some u->(∀z,u≠.dK z)->upd H M o b=some u:=fun {b u} e n=>by rw[zk (za2 e hM (n _))]; exact e
 have kt:∀{as:List Addr} {l:List (List Int)},Tps H as l->Tps (upd H M o) as l:=fun t=>Paired.mapP t fun b q hb=>k1 (show H b=some _ from hb) (by intro z y; cases y);refine⟨fun b u hb e=>?_,?_,k1 h.hO (by intro z y; cases y),kt h.ho,k1 h.hK (by intro z y; cases y),kt h.hk,k1 h.hT (by intro z y; cases y),kt h.hb⟩
 ·rw[zk (zg e h0)]; exact h.sb _ _ hb e
 ·obtain⟨x,y,e,r⟩:=h.bx
  exact⟨x,y,k1 e (by intro z y; cases y),r⟩
abbrev zmG (K:Ae):List V->Hp->VK->Prop:=fun xs H Q=>∃p ys,xs=[.ref p]/\((SqL K H p ys/\∀l,H l=none->Q (.ref l) (upd H l (.tup ys))) \/ (SqT K H p ys/\Q (.ref p) H))
abbrev tMir (K:Ae):TE:=tCB (zmG K) (zQ (tLC (zmi K (zQ (tVar 0) tNil)) [none] (zai 0) tYes (tOp (rI0 fun i j=>.int (i - j)) (tC (.int 99)) (tVar 0))) tNil)
abbrev zlK (K:Ae):TT:=zfh (tOp rEq (tCB (fun xs H Q=>∃p ys,xs=[.ref p]/\(SqL K H p ys \/ SqT K H p ys)/\Q (.int ys.length) H) (zQ (tVar 0) tNil)) (tC (.int 2)))
abbrev tPrA (K:Ae):TE:=tTup (zQ (tOp (rIxT K) (tVar 0) (tC (.int 0))) (zQ (tOp (rIxT K) (tVar 0) (tC (.int 0))) tNil))
abbrev tPrB (K:Ae):TE:=tTup (zQ (tOp (rIxT K) (tVar 0) (tC (.int 0))) (zQ (tOp (rI0 fun i j=>.int (i - j)) (tC (.int 99)) (tOp (rIxT K) (tVar 0) (tC (.int 0)))) tNil))
abbrev PZ (H:Hp) (ts:List Addr) (kvs:List (Key×V)):Prop:=Paired (fun t (kv:Key×V)=>H t=some (.tup [kV kv.1,kv.2])) ts kvs
section
variable {P:Program}{w:World}{K:Ae}{mg:Str->Option Value}{base:Heap}
theorem zjB {H2:Hp}{L D:Addr}{as:List Addr}{kn:List (List Int)}{Q:VK} (hl:SqL K H2 L (as.map V.ref)) (ht:Tps H2 as kn) (hz:kn.length<=1000) (hD:H2 D=none)
  (k:∀(H3:Hp) (es:List Addr),Same H2 H3->H3 D=some (.lst (es.map V.ref))->es.length<=kn.length->(∀e∈es,∃x y,Tp H3 e [x,y])->Q (.ref D) H3):zaf (Itl K L) (zai 0) (zlK K) (tVar 0) [none] H2 D Q:=by
 have hla:=ht.length;refine zH (xs:=as.map V.ref) (fun i σ ys H3=>∃(v:Option V) (es:List Addr),σ=[v]/\Same H2 H3/\H3 D=some (.lst ys)/\ys=es.map V.ref/\es.length<=i/\∀e∈es,∃x y,Tp H2 e [x,y])
  ⟨none,[],rfl,Same.new hD,upd_same,rfl,Af _,fun e he=>nomatch he⟩ (fun i σ ys H3 ⟨_,_,_,sm,_⟩=>sm.seq hl) ?_ ?_
 ·rintro i σ ys H3 z hx hi hy ⟨v,es,rfl,sm,hD3,rfl,hel,hes⟩
  obtain⟨t,et,rfl⟩:=zP hx;obtain⟨ps,eps,hps⟩:=ht.get et;refine⟨_,rfl,t,_,rfl,.inr (SqT.of (sm.tp hps)),rfl,_,rfl,?_⟩;rw[show (ps.map V.int).length=ps.length from Ab _]
  by_cases h1:ps.length=2
  ·rw[decide_eq_true (by rw[h1]; rfl)]
   refine iteT ⟨_,rfl,cput (by rw[Ab]; exact zd (by omega)) hi hy hD3 ⟨_,es++[t],rfl,sm.then hD,upd_same,by rw[Ak]; rfl,by rw[At,List.length_singleton]; omega,fun e he=>?_⟩⟩;rcases List.mem_append.mp he with he | he
   ·exact hes e he
   ·obtain rfl:=List.mem_singleton.mp he
    match ps,h1 with
    | [x,y],_=>exact⟨x,y,hps⟩
  ·rw[decide_eq_false (fun z=>h1 (by injection z with z; omega))]
   exact iteF (cskip hi hy ⟨_,es,rfl,sm,hD3,rfl,by omega,hes⟩)
 ·rintro σ ys H3 ⟨v,es,rfl,sm,hD3,rfl,hel,hes⟩
  rw[Ab,hla] at hel;exact k H3 es sm hD3 hel fun e he=>by obtain⟨x,y,h⟩:=hes e he; exact⟨x,y,sm.tp h⟩
theorem zfH {H2:Hp}{L D:Addr}{as:List Addr}{kn:List (List Int)}{te:TE}{g:Int->Int}{Q:VK} (hl:SqL K H2 L (as.map V.ref)) (ht:Tps H2 as kn) (hz:kn.length<=1000)
  (hte:∀(t:Addr) (x:Int) (H3:Hp) (Q':VK),Tp H3 t [x]->(∀u,H3 u=none->Q' (.ref u) (upd H3 u (.tup [.int x,.int (g x)])))->te [some (.ref t)] H3 Q') (hD:H2 D=none)
  (k:∀(H3:Hp) (ts:List Addr),Same H2 H3->H3 D=some (.lst (ts.map V.ref))->PZ H3 ts (kZ ((dots kn).map fun x=>(x,g x)))->Q (.ref D) H3):zaf (Itl K L) (zai 0) (ze1 K) te [none] H2 D Q:=by
 have hla:=ht.length;have kz:∀l:List (Int×Int),∀q:Int×Int,kZ (l++[q])=kZ l++[((Sum.inl q.1:Key),V.int q.2)]:=fun l q=>by rw[kZ,kZ,Ak,Ak]; rfl
 have pz:∀{H H':Hp} {ts:List Addr} {kvs:List (Key×V)},PZ H ts kvs->Same H H'->PZ H' ts kvs:=fun h s=>Paired.mapP h fun _ _ e=>s _ _ e;refine zH (xs:=as.map V.ref) (fun i σ ys H3=>∃(v:Option V) (ts:List Addr),σ=[v]/\Same H2 H3/\H3 D=some (.lst ys)/\ys=ts.map V.ref/\PZ H3 ts (kZ ((dots (kn.take i)).map fun x=>(x,g x))))
  ⟨none,[],rfl,Same.new hD,upd_same,rfl,.nil⟩ (fun i σ ys H3 ⟨_,_,_,sm,_⟩=>sm.seq hl) ?_ ?_
 ·rintro i σ ys H3 z hx hi hy ⟨v,ts,rfl,sm,hD3,rfl,hp⟩
  obtain⟨t,et,rfl⟩:=zP hx;obtain⟨ps,eps,hps⟩:=ht.get et;refine⟨_,rfl,t,_,rfl,.inr (SqT.of (sm.tp hps)),rfl,_,rfl,?_⟩;rw[show (ps.map V.int).length=ps.length from Ab _]
  by_cases h1:ps.length=1
  ·rw[decide_eq_true (by rw[h1]; rfl)]
   match ps,h1 with
   | [x],_=>
    refine iteT (hte t x H3 _ (sm.tp hps) fun u hu=>?_);have s4:=Same.new (o:=.tup [.int x,.int (g x)]) hu;refine cput (by rw[Ab]; exact zd (by omega)) hi hy (s4 _ _ hD3) ⟨_,ts++[u],rfl,(sm.trans s4).then hD,upd_same,by rw[Ak]; rfl,?_⟩;rw[AQ eps,zaL,show (if [x].length=1 then [[x].headD 0] else [])=[x] from rfl,Ak,show ([x].map fun x=>(x,g x))=[(x,g x)] from rfl,kz];refine Paired.mapP (Paired.snoc (pz hp s4) (b:=((Sum.inl x:Key),V.int (g x))) (a:=u) upd_same) fun b q e=>?_;rw[zk (za2 e (s4 _ _ hD3) (by intro z; cases z))];exact e
  ·rw[decide_eq_false (fun z=>h1 (by injection z with z; omega))]
   refine iteF (cskip hi hy ⟨_,ts,rfl,sm,hD3,rfl,?_⟩);rw[AQ eps,zaL,if_neg h1,List.append_nil];exact hp
 ·rintro σ ys H3 ⟨v,ts,rfl,sm,hD3,rfl,hp⟩
  rw[Ab,hla,take_all] at hp;exact k H3 ts sm hD3 hp
theorem zjb {H2:Hp}{L D:Addr}{as:List Addr}{pss:List (List Int)}{Q:VK} (hl:SqL K H2 L (as.map V.ref)) (ht:Tps H2 as pss) (hz:pss.length<=1000) (h5:∀p∈pss,p.length<=5) (hD:H2 D=none)
  (k:∀(H3:Hp) (ts:List Addr),Same H2 H3->H3 D=some (.lst (ts.map V.ref))->Tps H3 ts (pss.map mir)->Q (.ref D) H3):zaf (Itl K L) (zai 0) tYes (tMir K) [none] H2 D Q:=by
 have hla:=ht.length;refine zH (xs:=as.map V.ref) (fun i σ ys H3=>∃(v:Option V) (ts:List Addr),σ=[v]/\Same H2 H3/\H3 D=some (.lst ys)/\ys=ts.map V.ref/\Tps H3 ts ((pss.map mir).take i))
  ⟨none,[],rfl,Same.new hD,upd_same,rfl,.nil⟩ (fun i σ ys H3 ⟨_,_,_,sm,_⟩=>sm.seq hl) ?_ ?_
 ·rintro i σ ys H3 z hx hi hy ⟨v,ts,rfl,sm,hD3,rfl,hp⟩
  obtain⟨t,et,rfl⟩:=zP hx;obtain⟨ps,eps,hps⟩:=ht.get et;have h5':=h5 ps (Aq eps);refine gyes ?_;refine⟨_,rfl,t,_,rfl,SqT.of (sm.tp hps),fun D2 hD2=>zz (zjd (K:=K) (xs:=ps.map V.int) (fun j σ ys H4=>∃v:Option V,σ=[v]/\Same H3 H4/\H4 D2=some (.lst ys)/\ys=((mir ps).take j).map V.int) ⟨none,rfl,Same.new hD2,upd_same,rfl⟩ (fun j σ ys H4 ⟨_,_,s4,_⟩=>SqT.of (s4.tp (sm.tp hps))) ?_ ?_)⟩
  ·rintro j σ ys H4 x hx hj hy2 ⟨v,rfl,s4,hD4,rfl⟩
   rw[<- List.map_reverse] at hx;obtain⟨q,eq,rfl⟩:=zbo hx;have e:(mir ps)[j]?=some (99 - q):=by unfold mir; rw[Ap,eq]; rfl
   refine gyes ⟨_,rfl,_,_,rfl,rfl,cput (by rw[Ab]; exact zd (by omega)) hj hy2 hD4 ⟨_,rfl,s4.then hD2,upd_same,by rw[AQ e,Ak]; rfl⟩⟩
  ·rintro σ ys H4 ⟨v,rfl,s4,hD4,rfl⟩
   rw[Ay (by rw[zid,Ab]; exact Af _)] at hD4;refine⟨D2,_,rfl,.inl ⟨SqL.of hD4,fun u hu=>?_⟩⟩;have s5:=s4.trans (Same.new (o:=.tup ((mir ps).map V.int)) hu);have e:(pss.map mir)[i]?=some (mir ps):=by rw[Ap,eps]; rfl
   refine cput (by rw[Ab]; exact zd (by omega)) hi hy (s5 _ _ hD3) ⟨_,ts++[u],rfl,(sm.trans s5).then hD,upd_same,by rw[Ak]; rfl,?_⟩;rw[AQ e];exact Tps.upd (Tps.append (s5.tps hp) (.cons upd_same .nil)) (s5 _ _ hD3) (by intro xs z; cases z)
 ·rintro σ ys H3 ⟨v,ts,rfl,sm,hD3,rfl,hp⟩
  rw[Ay (by rw[Ab,Ab]; omega)] at hp;exact k H3 ts sm hD3 hp
end
end K52
end
section
namespace L2
open PySem PySem.Spec PyProof.Rows
section
variable {X:Cx}{scope:Scope}{N':List Str}{caps:List (Option Nat)}{tg iter elt:Expr}{ifs:List Expr}{wi:TI}{g:TG}{tc:TT}{te:TE}{pos:Pos}
theorem zkT {i:Nat}{x:Str}{pos' spos:Pos} (hc:X.calm=true) (hk:scope.kind=.function) (hcell:∀y∈scope.names,y.2≠.cell) (hnames:∀y∈scope.names,y.2=.local->scope.names.lookup y.1=some .local)
  (hfr:∀y∈scope.names,y.2=.free->X.env.kindOf y.1=some .cell \/ X.env.kindOf y.1=some .free) (hcap:zgS X.N N' caps scope)
  (hi:PI X tg iter wi) (hg:∀cl C s₀ H₀ ex,PG (cxC X scope N' cl C s₀ H₀ ex) tg g) (ht:∀cl C s₀ H₀ ex,PTL (cxC X scope N' cl C s₀ H₀ ex) ifs tc) (he:∀cl C s₀ H₀ ex,PE (cxC X scope N' cl C s₀ H₀ ex) elt te)
  (hs:∀x,foldedSetIterable iter X.env x=pure x) (hN:X.N.Nodup) (hi':X.N[i]?=some x) (hx:Loc X.env.scope x) (hf:X.fn x=true \/ X.env.scope.names.lookup x=some .local)
  (hsw:swapsWith (.ListComp elt [⟨tg,iter,ifs,0⟩] scope pos) (some (.Name x pos')) spos.line X.env=pure true) :
  PS X (.Assign [.Name x pos'] (.ListComp elt [⟨tg,iter,ifs,0⟩] scope pos) spos) (tAsg (tLC wi caps g tc te) (zai i)):=by
 intro pins s σ H D I h;rw[exec_Assign_Name_used _ _ _ _ hsw];refine Aa (wpAny_standAt (Aa ?_));show wpAny _ X.A (do let _ <- comprehension (.ListComp elt [⟨tg,iter,ifs,0⟩] scope pos) scope X.env _ (newList []) (firstAsync [⟨tg,iter,ifs,0⟩]) (firstIter [⟨tg,iter,ifs,0⟩] X.env) (some (assign (.Name x pos') X.env))) _ _ s;refine Aa (Ba (zeg (use:=some (assign (.Name x pos') X.env)) (R:=fun _ s'=>SP X pins D .next s') hc hk hcell hnames hfr hcap hi hg ht he hs I h fun Dl C H' s4 f L q=>?_) (fun _ s' hq=>Ac (Ac hq)) fun _ _ e=>e);show wpAny _ X.A (assign (.Name x pos') X.env (.ref Dl)) _ _ s4;refine wpAny_assign_Name (zdO (v:=.ref Dl) (L.back s4.heap (Heap.SameBut.refl _ _)) hN hi' hx rfl (fun s5 I5 ⟨a,hsa,ha⟩=>?_) hf);have hCa:C≠a:=by
  rcases ha with e | e
  ·rw[e]; exact L.nl
  ·exact fun z=>L.nc x a e z.symm
 obtain⟨m,hn⟩:=L.ns;refine⟨m,hn.sameBut hsa hCa,fun h' hs'=>⟨_,H',?_,q⟩⟩;refine I5.call' (s':={ s5 with heap:=h' }) (ch:=[C]) rfl ⟨fun b o q n hb hx=>?_,fun b o q n hb hx=>?_,fun b o q n hx=>n,fun b o q hx=>?_,fun b xs q=>q,fun b o u q=>q,fun b ps q=>⟨#[],by simpa using q⟩⟩ ?_ I5.bare fun b hb=>?_
 ·exact (hs'.2 b (by simpa using hx)).trans q
 ·exact⟨o.slots,(hs'.2 b (by simpa using hx)).trans q⟩
 ·exact⟨o,(hs'.2 b (by simpa using hx)).trans q⟩
 ·intro b u e
  refine (I5.hok b u e).stay (fun c v hc q=>(hs'.2 c ?_).trans q) (fun _ q=>q) fun _ _ q=>q;rintro rfl;rcases hc with z | z
  ·rw[<- z,L.no] at e; cases e
  ·rw[L.no] at z; cases z
 ·have e:b=C:=by simpa using hb
  subst e;exact⟨.inr L.far,L.nl,L.nc,L.np⟩
end
end L2
end
section
namespace L2
open PySem PySem.Spec PyProof.Rows
section
variable {X:Cx}{scope:Scope}{caps:List (Option Nat)}{tg iter elt:Expr}{ifs:List Expr}{wi:TI}{g:TG}{tc:TT}{te:TE}{pos:Pos}
theorem ze9 {i:Nat}{x:Str}{pos' spos:Pos} (hnd:X.N.Nodup) (hi':X.N[i]?=some x) (hx:Loc X.env.scope x) (N N':List Str) (caps:List (Option Nat)) (hi:PI X tg iter wi) (hg:∀cl C s₀ H₀ ex,PG (cxC X scope N' cl C s₀ H₀ ex) tg g) (ht:∀cl C s₀ H₀ ex,PTL (cxC X scope N' cl C s₀ H₀ ex) ifs tc) (he:∀cl C s₀ H₀ ex,PE (cxC X scope N' cl C s₀ H₀ ex) elt te)
  (hc:X.calm=true:=by rfl) (hk:scope.kind=.function:=by rfl) (hcell:∀y∈scope.names,y.2≠.cell:=by decide +kernel) (hnames:∀y∈scope.names,y.2=.local->scope.names.lookup y.1=some .local:=by decide +kernel)
  (hfr:∀y∈scope.names,y.2=.free->X.env.kindOf y.1=some .cell \/ X.env.kindOf y.1=some .free) (hN:X.N=N:=by rfl) (hcap:capB N N' caps scope=true:=by decide +kernel)
  (hs:∀x,foldedSetIterable iter X.env x=pure x:=by intro _; rfl) (hf:X.fn x=true \/ X.env.scope.names.lookup x=some .local:=by first | exact .inl rfl | exact .inr rfl | assumption)
  (hsw:swapsWith (.ListComp elt [⟨tg,iter,ifs,0⟩] scope pos) (some (.Name x pos')) spos.line X.env=pure true:=by rfl) :
  PS X (.Assign [.Name x pos'] (.ListComp elt [⟨tg,iter,ifs,0⟩] scope pos) spos) (tAsg (tLC wi caps g tc te) (zai i)):=
 zkT hc hk hcell hnames hfr (zdk (by rw[hN]; exact hcap)) hi hg ht he hs hnd hi' hx hf hsw
end
end L2
end
section
namespace K52
open K1
open PySem L2 STb
section
variable {P:Program}{w:World}{K:Ae}{mg:Str->Option Value}{base:Heap}
def zjV:Sp:=fun vs H Q _=>∃p,vs=[.ref p]/\zT H p/\∀T O OT M os bs pss qss ns H',zac p H H'->zT H' p->H' T=some (.tup [.ref O,.ref OT,.ref M])->H' O=some (.lst (os.map V.ref))->Tps H' os pss->Drawn pss->H' OT=some (.lst (bs.map V.ref))->Tps H' bs qss->webS qss->(canon qss).length<=56->H' M=some (zV ns)->ns.map (·.1)=dots (canon pss)->Q (.ref T) H'
theorem zaj:zp nmP ["box"] (za zbv):=⟨rfl,rfl,rfl,by decide +kernel,rfl,by decide +kernel,by decide +kernel⟩
theorem zlv (p:List Int) (h:p≠[]):∃y,atI (p.map V.int) (-1)=some (.int y):=by
 rw[<- List.dropLast_concat_getLast h,Ak];exact⟨_,zfP _ _⟩
theorem zez (p:List Int) (h:p≠[]):∃x r,p=x::r:=by
 cases p with
 | nil=>exact absurd rfl h
 | cons x r=>exact⟨x,r,rfl⟩
theorem zkw {f ft fw fl:Addr}{fd fdt fdw fdl:FuncData} (F:Fun K "_law_pair" "_law_pair" zbv f fd) (B:Bt mg)
  (Ft:Fun K "_law_take" "_law_take" zcR ft fdt) (bt:Binds K fdt ["box","most"] []) (mt:mg "_law_take"=some (.ref ft))
  (Fw:Fun K "_law_web" "_law_web" sWeb fw fdw) (bw:Binds K fdw ["box"] []) (mw:mg "_law_web"=some (.ref fw)) (Gw:FnOk P w K mg base CX0 3 fw fdw ["box"] zmn)
  (Fl:Fun K "_law_pieces" "_law_pieces" zar fl fdl) (bl:Binds K fdl ["web"] []) (ml:mg "_law_pieces"=some (.ref fl)) (Gl:FnOk P w K mg base CX0 2 fl fdl ["web"] (zdS K)) :
  FnOk P w K mg base CX0 4 f fd ["box"] zjV:=by
 have Gt:FnOk P w K mg base CX0 1 ft fdt ["box","most"] zdN:=zdr Ft;refine F.ok zaj (fun vs H Q E h=>?_) (fun cdv A outer s H vs Q E hr h=>?_)
 ·obtain⟨p,rfl,_⟩:=h; rfl
 ·obtain⟨p,rfl,hb,k⟩:=h
  have hu:=zcV hr;have hu64:=hr.units;have hr1:Room 1 _:=hr.mono (by decide);have hr2:Room 2 _:=hr.mono (by decide);have R13:∃tr,PSs (cxOf CX0 P w K mg base nmP "_law_pair" (za zbv) f cdv A outer s H E).nox (List.drop 13 (zl zbv)) tr/\
    ∀(O KN OT M:Addr) (os ks bs:List Addr) (pss qss:List (List Int)) (ns:List (Int×Int)) (wy:Int) (v5 v7 v8 v9 v10:Option V) (H2:Hp),W2 H H2 p O KN OT os ks bs pss qss->Drawn pss->webS qss->(canon qss).length<=56->H2 M=some (zV ns)->ns.map (·.1)=dots (canon pss)->
     tr { nx:=fun _ H'=>Q .non H',rt:=Q } [some (.ref p),some (.ref O),some (.ref KN),some (.ref OT),some (.int wy),v5,some (.ref M),v7,v8,v9,v10] H2:=by
   refine⟨_,zb (zU (zo zaC (pv 4) zf (nomark _))
     (zb (zn (i:=6) zaj.nd rfl (Or.inl rfl) (zx (zau rfl hu64) rfl B.dict zhW (pa_cons (zy nmP ["piece"] [none] (zw (pv 2)) (fun cl C s₀ H₀ ex=>zm (i:=0) (ndN ["piece"]) rfl (Or.inl rfl))
      (fun cl C s₀ H₀ ex=>zaR (zo zaC (zj zh rfl B.len z0 (pa_cons (pv 0) pa_nil)) zf (nomark _)))
      (fun cl C s₀ H₀ ex=>zaX (pa_cons (zK zaw (pv 0) zf (fun _ _=>rfl)) (pa_cons (zG zhq zf (zK zaw (pv 0) zf (fun _ _=>rfl))) pa_nil))) (hfr:=nofr (by decide +kernel)) (tc:=ze1 K) (te:=tPrB K)) pa_nil)))
     (ze (ze9 (i:=3) zaj.nd rfl (Or.inl rfl) nmP ["piece"] [none] (zw (pv 1)) (fun cl C s₀ H₀ ex=>zm (i:=0) (ndN ["piece"]) rfl (Or.inl rfl)) (fun cl C s₀ H₀ ex=>zL)
      (fun cl C s₀ H₀ ex=>zx zS rfl B.tuple zby (pa_cons (zy ["piece"] ["point"] [none] (zk8 rfl B.reversed zgi (pa_cons (pv 0) pa_nil)) (fun cl C s₀ H₀ ex=>zm (i:=0) (ndN ["point"]) rfl (Or.inl rfl)) (fun cl C s₀ H₀ ex=>zL)
       (fun cl C s₀ H₀ ex=>zG zhq zf (pv 0)) (hfr:=nofr (by decide +kernel))) pa_nil)) (hfr:=nofr (by decide +kernel)) (te:=tMir K)))) zv)
    (ze (zt (zaX (pa_cons (pv 1) (pa_cons (pv 3) (pa_cons (pv 6) pa_nil)))))),?_⟩
   intro O KN OT M os ks bs pss qss ns wy v5 v7 v8 v9 v10 H2 W hdr hv h56 hM hd;obtain⟨hw,hnd,h17⟩:=zaK hdr;obtain⟨_,_,h5,_⟩:=zal hw;have hc56:(canon pss).length<=56:=by rw[zI]; exact zaH hdr
   refine⟨_,rfl,rfl,_,rfl,ite2 (fun _=>?_) (fun _=>?_)⟩
   ·refine⟨_,rfl,KN,rfl,⟨_,SqL.of W.hK⟩,fun D hD=>zz (zfH (g:=fun x=>99 - x) (SqL.of W.hK) W.hk (by omega) (fun t x H3 Q' ht q=>?_) hD fun H3 ts s3 h3 pz=>⟨D,ts,_,rfl,SqL.of h3,pz,fun M2 hM2=>?_⟩)⟩
    ·exact⟨_,rfl,t,_,0,.int x,rfl,rfl,SqT.of ht,zu (j:=0) rfl,_,rfl,t,_,0,.int x,rfl,rfl,SqT.of ht,zu (j:=0) rfl,_,_,rfl,rfl,zd (by simp),q⟩
    have hk2:(((dots (canon pss)).map fun x=>(x,99 - x)).map (·.1))=dots (canon pss):=by rw[Aw]; exact List.map_id' _
    rw[zhZ _ (by rw[hk2]; exact zew)];have s4:=s3.trans (Same.new (o:=zV ((dots (canon pss)).map fun x=>(x,99 - x))) hM2);have W4:=W.same s4;have hM4:=upd_same (H:=H3) (a:=M2) (o:=zV ((dots (canon pss)).map fun x=>(x,99 - x)));refine⟨_,rfl,O,rfl,⟨_,SqL.of W4.hO⟩,fun D2 hD2=>zz (zjb (SqL.of W4.hO) W4.ho (by omega) h5 hD2 fun H5 us s5 h5' t5=>?_)⟩;have W5:=W4.same s5;obtain⟨m1,m2⟩:=zkN hw hnd hc56;refine⟨_,rfl,_,rfl,_,rfl,zd (by simp),fun T hT=>?_⟩;have sT:=Same.new (o:=.tup [.ref O,.ref D2,.ref M2]) hT;have W6:=W5.same sT;exact k T O D2 M2 os us pss _ _ _ W6.sb W6.bx upd_same W6.hO W6.ho hdr (sT _ _ h5') (sT.tps t5) m1 m2 (sT _ _ (s5 _ _ hM4)) hk2
   ·refine⟨_,rfl,_,rfl,_,rfl,zd (by simp),fun T hT=>?_⟩
    have sT:=Same.new (o:=.tup [.ref O,.ref OT,.ref M]) hT;have W6:=W.same sT;exact k T O OT M os bs pss qss ns _ W6.sb W6.bx upd_same W6.hO W6.ho hdr W6.hT W6.hb hv h56 (sT _ _ hM) hd
  obtain⟨tr13,htr13,rest13⟩:=R13;have R11:∃tr,PSs (cxOf CX0 P w K mg base nmP "_law_pair" (za zbv) f cdv A outer s H E).nox (List.drop 11 (zl zbv)) tr/\
    ∀(O KN OT M:Addr) (os ks bs:List Addr) (pss qss:List (List Int)) (wy x1 x2:Int) (v5 v9 v10:Option V) (H2:Hp),W2 H H2 p O KN OT os ks bs pss qss->Drawn pss->webS qss->(canon qss).length<=56->H2 M=some (zV [])->H M=none->
     tr { nx:=fun _ H'=>Q .non H',rt:=Q } [some (.ref p),some (.ref O),some (.ref KN),some (.ref OT),some (.int wy),v5,some (.ref M),some (.int x1),some (.int x2),v9,v10] H2:=by
   refine⟨_,zb (zaq A7 rfl (zw (pv 2)) (zm (i:=10) zaj.nd rfl (Or.inl rfl))
     (ze (zU (zo zaC (zj zh rfl B.len z0 (pa_cons (pv 10) pa_nil)) zf (nomark _))
      (ze (zaV hu (pv 6) (zK zaw (pv 10) zf (fun _ _=>rfl)) (zK zC (zO (pa_cons (pv 7) (pa_cons (pv 8) pa_nil))) (zi Gt hr1 rfl mt Ft.kp bt .nil pass0 (pa_cons (pv 0) (pa_cons zf pa_nil))) (fun _ _=>rfl)) rfl)) zv)))
    (zb (zU (zo zaC (pv 4) zf (nomark _))
     (zb (zn (i:=6) zaj.nd rfl (Or.inl rfl) (zx (zau rfl hu64) rfl B.dict zhW (pa_cons (zy nmP ["piece"] [none] (zw (pv 2)) (fun cl C s₀ H₀ ex=>zm (i:=0) (ndN ["piece"]) rfl (Or.inl rfl))
      (fun cl C s₀ H₀ ex=>zaR (zo zaC (zj zh rfl B.len z0 (pa_cons (pv 0) pa_nil)) zf (nomark _)))
      (fun cl C s₀ H₀ ex=>zaX (pa_cons (zK zaw (pv 0) zf (fun _ _=>rfl)) (pa_cons (zK zaw (pv 0) zf (fun _ _=>rfl)) pa_nil))) (hfr:=nofr (by decide +kernel)) (tc:=ze1 K) (te:=tPrA K)) pa_nil)))
     (ze (zU (PW.pt (zfY (zo zaC (zi Gt hr1 rfl mt Ft.kp bt .nil pass0 (pa_cons (pv 0) (pa_cons zf pa_nil))) zf (nomark _)) (zdq (zo zeF (zj zh rfl B.len z0 (pa_cons (pv 2) pa_nil)) zf (nomark _)))))
      (zb (zn (i:=10) zaj.nd rfl (Or.inl rfl) (zK zC (pv 2) (zi Gt hr1 rfl mt Ft.kp bt .nil pass0 (pa_cons (pv 0) (pa_cons (zj zh rfl B.len z0 (pa_cons (pv 2) pa_nil)) pa_nil))) (fun _ _=>rfl)))
      (ze (zaV hu (pv 6) (zK zaw (pv 10) zf (fun _ _=>rfl)) (zK zaw (pv 10) (zkz zhg zf) (fun _ _=>rfl)) rfl))) zv))) zv)
    htr13),?_⟩
   intro O KN OT M os ks bs pss qss wy x1 x2 v5 v9 v10 H2 W hdr hv h56 hM hM0;obtain⟨hw,hnd,h17⟩:=zaK hdr;have hc56:(canon pss).length<=56:=by rw[zI]; exact zaH hdr
   have hla:=W.hk.length;refine⟨_,rfl,KN,rfl,⟨_,SqL.of W.hK⟩,zaa (K:=K) (a:=KN) (xs:=ks.map V.ref) (fun i σ H3=>∃(v10:Option V) (ns:List (Int×Int)),σ=[some (.ref p),some (.ref O),some (.ref KN),some (.ref OT),some (.int wy),v5,some (.ref M),some (.int x1),some (.int x2),v9,v10]/\W2 H H3 p O KN OT os ks bs pss qss/\H3 M=some (zV ns)/\ns.map (·.1)=dots ((canon pss).take i))
    ⟨v10,[],rfl,W,hM,rfl⟩ (fun i σ H3 _ ⟨_,_,_,h,_⟩=>SqL.of h.hK) ?_ ?_⟩
   ·rintro i x σ H3 hx ⟨v10,ns,rfl,W3,hM3,hd3⟩
    obtain⟨t,et,rfl⟩:=zP hx;obtain⟨ps,eps,hps⟩:=W3.hk.get et;have hi:i<(canon pss).length:=(List.getElem?_eq_some_iff.mp eps).1;refine⟨_,rfl,t,_,rfl,.inr (SqT.of hps),rfl,_,rfl,?_⟩;rw[show (ps.map V.int).length=ps.length from Ab _]
    by_cases h1:ps.length=1
    ·rw[decide_eq_true (by rw[h1]; rfl)]
     match ps,h1 with
     | [y],_=>
      refine iteT ⟨_,rfl,_,rfl,zd (by simp),fun L hL=>⟨_,rfl,p,2,rfl,(W3.same (Same.new hL)).bx,by decide,by decide,fun r H5 r0 r1 sb5 hb5=>?_⟩⟩;have sL:=Same.new (o:=.lst [.int x1,.int x2]) hL;have WL:=W3.same sL;have hpL:L≠p:=by
       obtain⟨a,b,e,_⟩:=W3.bx;exact (zg e hL).symm
      have W5:=WL.box sb5 hb5;have hL5:=sb5 _ _ hpL upd_same;have hM5:=sb5 _ _ (zbp WL.bx (sL _ _ hM3)) (sL _ _ hM3);have ht5:Tp H5 t [y]:=sb5.tp WL.bx (sL.tp hps);obtain⟨z,ez⟩:∃z,atI [V.int x1,V.int x2] r=some (.int z):=by
       have:r=0 \/ r=1:=by omega
       rcases this with rfl | rfl
       ·exact⟨x1,zu (j:=0) rfl⟩
       ·exact⟨x2,zu (j:=1) rfl⟩
      have hdk:y∉ns.map (·.1):=by
       rw[hd3];have hnn:=zew (pss:=pss);rw[<- List.take_append_drop (i+1) (canon pss),AQ eps] at hnn;unfold dots at hnn ⊢;rw[A9,A9,Ak,Ak,List.nodup_append] at hnn;have:=(List.nodup_append.mp hnn.1).2.2;exact fun z=>this y z y (by simp) rfl
      have hlen:(kZ ns).length<sizeLine:=by
       have e:=congrArg List.length hd3;rw[Ab] at e;have:=zbn ((canon pss).take i);rw[AS] at this;rw[kZ,Ab,Ab];exact zab (by omega)
      refine⟨L,_,_,.int z,rfl,rfl,SqL.of hL5,ez,_,rfl,_,rfl,t,_,0,.int y,rfl,rfl,SqT.of ht5,zu (j:=0) rfl,M,_,rfl,DPut.k (k:=Sum.inl y) hM5 hlen,⟨_,ns++[(y,z)],rfl,W5.put hM5 hM0,?_,?_⟩⟩
      ·rw[upd_same,zeS hdk]
      ·rw[Ak,hd3,AQ eps,zaL]; rfl
    ·rw[decide_eq_false (fun z=>h1 (by injection z with z; omega))]
     refine iteF ⟨_,ns,rfl,W3,hM3,?_⟩;rw[hd3,AQ eps,zaL,if_neg h1,List.append_nil]
   ·rintro σ H3 ⟨v10,ns,rfl,W3,hM3,hd3⟩
    rw[Ab,hla,take_all] at hd3;refine⟨_,rfl,rfl,_,rfl,ite2 (fun _=>?_) (fun _=>?_)⟩
    ·refine⟨_,rfl,KN,rfl,⟨_,SqL.of W3.hK⟩,fun D hD=>zz (zfH (g:=fun x=>x) (SqL.of W3.hK) W3.hk (by omega) (fun t x H4 Q' ht q=>?_) hD fun H4 ts s4 h4 pz=>⟨D,ts,_,rfl,SqL.of h4,pz,fun M2 hM2=>?_⟩)⟩
     ·exact⟨_,rfl,t,_,0,.int x,rfl,rfl,SqT.of ht,zu (j:=0) rfl,_,rfl,t,_,0,.int x,rfl,rfl,SqT.of ht,zu (j:=0) rfl,zd (by simp),q⟩
     have hk2:(((dots (canon pss)).map fun x=>(x,x)).map (·.1))=dots (canon pss):=by rw[Aw]; exact List.map_id' _
     rw[zhZ _ (by rw[hk2]; exact zew)];have hM20:H M2=none:=W3.sb.free hb W3.bx (s4.free hM2);have s5:=s4.trans (Same.new (o:=zV ((dots (canon pss)).map fun x=>(x,x))) hM2);have W5:=W3.same s5;have hM5:=upd_same (H:=H4) (a:=M2) (o:=zV ((dots (canon pss)).map fun x=>(x,x)));generalize upd H4 M2 (zV ((dots (canon pss)).map fun x=>(x,x)))=H5 at s5 W5 hM5;refine⟨_,rfl,p,2,rfl,W5.bx,by decide,by decide,fun r H6 r0 r1 sb6 hb6=>⟨rfl,_,rfl,?_⟩⟩;have W6:=W5.box sb6 hb6;have hM6:=sb6 _ _ (zbp W5.bx hM5) hM5;refine ite2 (fun _=>?_) (fun _=>?_)
     ·refine⟨_,rfl,KN,_,rfl,.inl (SqL.of W6.hK),_,_,rfl,rfl,_,rfl,ite2 (fun hgt=>?_) (fun _=>?_)⟩
      ·have hpos:0<ks.length:=by
        have:=of_decide_eq_true hgt;rw[Ab] at this;omega
       refine⟨_,rfl,_,rfl,_,rfl,KN,_,rfl,.inl (SqL.of W6.hK),p,_,rfl,W6.bx,by rw[Ab]; omega,by rw[Ab]; omega,fun r2 H7 q0 q1 sb7 hb7=>?_⟩;rw[Ab] at q1;have W7:=W6.box sb7 hb7;have hM7:=sb7 _ _ (zbp W6.bx hM6) hM6;obtain⟨t,et⟩:∃t,ks[r2.toNat]?=some t:=⟨ks[r2.toNat]'(by omega),Ag _⟩;obtain⟨ps,eps,hps⟩:=W7.hk.get et;have hmem:=Aq eps;obtain⟨h5,hne⟩:=can5 hw ps hmem;obtain⟨y,ey⟩:=zlv ps hne;obtain⟨x,rr,rfl⟩:=zez ps hne;have hin:x∈dots (canon pss):=zcP hmem AB;obtain⟨ms,em,hms⟩:=zhy (ns:=(dots (canon pss)).map fun x=>(x,x)) (x:=x) (y:=y) (by rw[hk2]; exact hin);have er:r2=((r2.toNat:Nat):Int):=by omega
       have hdl:=zbn (canon pss);refine⟨KN,_,_,.ref t,rfl,rfl,SqL.of W7.hK,by rw[er]; exact zu (by rw[Ap,et]; rfl),?_⟩;refine⟨_,rfl,_,rfl,t,_,_,.int y,rfl,rfl,SqT.of hps,ey,_,rfl,_,rfl,t,_,0,.int x,rfl,rfl,SqT.of hps,zu (j:=0) rfl,M2,_,rfl,DPut.k (k:=Sum.inl x) hM7 (by rw[Ab,Ab,Ab]; exact zab (by omega)),?_⟩;refine rest13 O KN OT M2 os ks bs pss qss ms wy v5 _ _ v9 _ _ (W7.put hM7 hM20) hdr hv h56 ?_ (by rw[hms,hk2]);rw[upd_same];exact congrArg (fun z=>some (HO.dK z)) em
      ·exact rest13 O KN OT M2 os ks bs pss qss _ wy v5 _ _ v9 _ _ W6 hdr hv h56 hM6 hk2
     ·exact iteF (rest13 O KN OT M2 os ks bs pss qss _ wy v5 _ _ v9 _ _ W6 hdr hv h56 hM6 hk2)
    ·exact rest13 O KN OT M os ks bs pss qss ns wy v5 _ _ v9 _ _ W3 hdr hv h56 hM3 hd3
  obtain⟨tr11,htr11,rest11⟩:=R11;have R8:∃tr,PSs (cxOf CX0 P w K mg base nmP "_law_pair" (za zbv) f cdv A outer s H E).nox (List.drop 8 (zl zbv)) tr/\
    ∀(O KN OT M:Addr) (os ks bs:List Addr) (pss qss:List (List Int)) (wy x1:Int) (v5 v8 v9 v10:Option V) (H2:Hp),W2 H H2 p O KN OT os ks bs pss qss->Drawn pss->Drawn qss->H2 M=some (zV [])->H M=none->
     tr { nx:=fun _ H'=>Q .non H',rt:=Q } [some (.ref p),some (.ref O),some (.ref KN),some (.ref OT),some (.int wy),v5,some (.ref M),some (.int x1),v8,v9,v10] H2:=by
   refine⟨_,zb (zn (i:=8) zaj.nd rfl (Or.inl rfl) (pv 7))
    (zb (ze9 (i:=9) zaj.nd rfl (Or.inl rfl) nmP ["piece"] [none] (zw (zi Gl hr2 rfl ml Fl.kp bl .nil pass0 (pa_cons (pv 3) pa_nil))) (fun cl C s₀ H₀ ex=>zm (i:=0) (ndN ["piece"]) rfl (Or.inl rfl))
      (fun cl C s₀ H₀ ex=>zaR (zo zaC (zj zh rfl B.len z0 (pa_cons (pv 0) pa_nil)) zf (nomark _))) (fun cl C s₀ H₀ ex=>pv 0) (hfr:=nofr (by decide +kernel)) (tc:=zlK K))
    (zb (zU (PW.pt (zfY (zo zeF (zj zh rfl B.len z0 (pa_cons (pv 9) pa_nil)) zf (nomark _)) (zdq (zo zaC (zi Gt hr1 rfl mt Ft.kp bt .nil pass0 (pa_cons (pv 0) (pa_cons zf pa_nil))) zf (nomark _)))))
     (ze (zfW (zK zC (pv 9) (zi Gt hr1 rfl mt Ft.kp bt .nil pass0 (pa_cons (pv 0) (pa_cons (zj zh rfl B.len z0 (pa_cons (pv 9) pa_nil)) pa_nil))) (fun _ _=>rfl)) (zhM rfl (zaO (zm (i:=7) zaj.nd rfl (Or.inl rfl)) (zaO (zm (i:=8) zaj.nd rfl (Or.inl rfl)) zeC))))) zv)
    htr11)),?_⟩
   intro O KN OT M os ks bs pss qss wy x1 v5 v8 v9 v10 H2 W hdr hdq hM hM0;obtain⟨hwq,_,_⟩:=zaK hdq;obtain⟨h20,_,h5,_⟩:=zal hwq;have hfew:=zaH hdq;have h56:(canon qss).length<=56:=by rw[zI]; exact hfew
   have hv:webS qss:=⟨hwq,by omega⟩;refine⟨_,rfl,_,rfl,OT,bs,qss,rfl,SqL.of W.hT,W.hb,h5,AF h20 (by decide),by omega,fun KN2 H3 qs t=>?_⟩;obtain⟨ks2,s3,_,hK3,hks3⟩:=zae t;refine⟨KN2,rfl,⟨_,SqL.of hK3⟩,fun ED hED=>zz (zjB (SqL.of hK3) hks3 (by omega) hED fun H4 es s4 h4 hel hes=>?_)⟩;have s34:=s3.trans s4;have W4:=W.same s34;have hM4:=s34 _ _ hM;refine⟨_,rfl,ED,_,rfl,.inl (SqL.of h4),_,_,rfl,rfl,_,rfl,ite2 (fun hgt=>?_) (fun _=>?_)⟩
   ·have hpos:0<es.length:=by
     have:=of_decide_eq_true hgt;rw[Ab] at this;omega
    refine⟨_,rfl,p,2,rfl,W4.bx,by decide,by decide,fun r H5 r0 r1 sb5 hb5=>⟨rfl,_,rfl,?_⟩⟩;have W5:=W4.box sb5 hb5;have hM5:=sb5 _ _ (zbp W4.bx hM4) hM4;have h5':=sb5 _ _ (W4.bx.ne h4) h4;refine ite2 (fun _=>?_) (fun _=>?_)
    ·refine⟨_,rfl,_,rfl,_,rfl,ED,_,rfl,.inl (SqL.of h5'),p,_,rfl,W5.bx,by rw[Ab]; omega,by rw[Ab]; omega,fun r2 H6 q0 q1 sb6 hb6=>?_⟩
     rw[Ab] at q1;have W6:=W5.box sb6 hb6;have hM6:=sb6 _ _ (zbp W5.bx hM5) hM5;have h6:=sb6 _ _ (W5.bx.ne h5') h5';obtain⟨e,ee⟩:∃e,es[r2.toNat]?=some e:=⟨es[r2.toNat]'(by omega),Ag _⟩;obtain⟨x,y,hxy⟩:=hes e (Aq ee);have hxy6:Tp H6 e [x,y]:=sb6.tp W5.bx (sb5.tp W4.bx hxy);have er:r2=((r2.toNat:Nat):Int):=by omega
     refine⟨ED,_,_,.ref e,rfl,rfl,SqL.of h6,by rw[er]; exact zu (by rw[Ap,ee]; rfl),e,_,rfl,SqT.of hxy6,rfl,_,_,rfl,_,_,rfl,rfl,?_⟩;exact rest11 O KN OT M os ks bs pss qss wy x y v5 _ v10 _ W6 hdr hv h56 hM6 hM0
    ·exact rest11 O KN OT M os ks bs pss qss wy x1 x1 v5 _ v10 _ W5 hdr hv h56 hM5 hM0
   ·exact iteF (rest11 O KN OT M os ks bs pss qss wy x1 x1 v5 _ v10 _ W4 hdr hv h56 hM4 hM0)
  obtain⟨tr8,htr8,rest8⟩:=R8;have R5:∃tr,PSs (cxOf CX0 P w K mg base nmP "_law_pair" (za zbv) f cdv A outer s H E).nox (List.drop 5 (zl zbv)) tr/\
    ∀(O KN OT:Addr) (os ks bs:List Addr) (pss qss:List (List Int)) (wy:Int) (H2:Hp),W2 H H2 p O KN OT os ks bs pss qss->Drawn pss->Drawn qss->
     tr { nx:=fun _ H'=>Q .non H',rt:=Q } [some (.ref p),some (.ref O),some (.ref KN),some (.ref OT),some (.int wy),none,none,none,none,none,none] H2:=by
   refine⟨_,zb (ze9 (i:=5) zaj.nd rfl (Or.inl rfl) nmP ["piece"] [none] (zw (zi Gl hr2 rfl ml Fl.kp bl .nil pass0 (pa_cons (pv 3) pa_nil))) (fun cl C s₀ H₀ ex=>zm (i:=0) (ndN ["piece"]) rfl (Or.inl rfl))
      (fun cl C s₀ H₀ ex=>zaR (zo zaC (zj zh rfl B.len z0 (pa_cons (pv 0) pa_nil)) zf (nomark _))) (fun cl C s₀ H₀ ex=>zK zaw (pv 0) zf (fun _ _=>rfl)) (hfr:=nofr (by decide +kernel)) (tc:=ze1 K) (te:=zf9 K))
    (zb (zn (i:=6) zaj.nd rfl (Or.inl rfl) zfJ)
    (zb (zn (i:=7) zaj.nd rfl (Or.inl rfl) (zfD (zo zeF (zj zh rfl B.len z0 (pa_cons (pv 5) pa_nil)) zf (nomark _)) (zK zC (pv 5) (zi Gt hr1 rfl mt Ft.kp bt .nil pass0 (pa_cons (pv 0) (pa_cons (zj zh rfl B.len z0 (pa_cons (pv 5) pa_nil)) pa_nil))) (fun _ _=>rfl)) zf))
    htr8)),?_⟩
   intro O KN OT os ks bs pss qss wy H2 W hdr hdq;obtain⟨hwq,_,_⟩:=zaK hdq;obtain⟨h20,_,h5,_⟩:=zal hwq;have hfew:=zaH hdq;have h56:(canon qss).length<=56:=by rw[zI]; exact hfew
   refine⟨_,rfl,OT,bs,qss,rfl,SqL.of W.hT,W.hb,h5,AF h20 (by decide),by omega,fun KN2 H3 qs t=>?_⟩;obtain⟨ks2,s3,_,hK3,hks3⟩:=zae t;refine⟨KN2,rfl,⟨_,SqL.of hK3⟩,fun DD hDD=>zz (zcn (SqL.of hK3) hks3 (by omega) hDD fun H4 s4 h4=>fun M hM=>?_)⟩;have s34:=s3.trans s4;have sM:=Same.new (o:=.dK []) hM;have W5:=(W.same s34).same sM;have hM0:H M=none:=(W.same s34).sb.free hb (W.same s34).bx hM;have hD5:=sM _ _ h4;have hM5:=upd_same (H:=H4) (a:=M) (o:=.dK []);have hdl:=zbn (canon qss);refine⟨_,rfl,DD,_,rfl,.inl (SqL.of hD5),_,_,rfl,rfl,_,rfl,ite2 (fun hgt=>?_) (fun _=>?_)⟩
   ·have hpos:0<(dots (canon qss)).length:=by
     have:=of_decide_eq_true hgt;rw[Ab] at this;omega
    refine⟨_,rfl,_,rfl,_,rfl,DD,_,rfl,.inl (SqL.of hD5),p,_,rfl,W5.bx,by rw[Ab]; omega,by rw[Ab]; omega,fun r2 H6 q0 q1 sb6 hb6=>?_⟩;rw[Ab] at q1;have W6:=W5.box sb6 hb6;have hM6:=sb6 _ _ (zbp W5.bx hM5) hM5;have hDp:DD≠p:=by
     obtain⟨x,y,e,_⟩:=(W.same s3).bx;exact (zg e hDD).symm
    have hD6:=sb6 _ _ hDp hD5;obtain⟨x,ex⟩:∃x,(dots (canon qss))[r2.toNat]?=some x:=⟨(dots (canon qss))[r2.toNat]'(by omega),Ag _⟩;have er:r2=((r2.toNat:Nat):Int):=by omega
    exact⟨DD,_,_,.int x,rfl,rfl,SqL.of hD6,by rw[er]; exact zu (by rw[Ap,ex]; rfl),rest8 O KN OT M os ks bs pss qss wy x _ none none none _ W6 hdr hdq hM6 hM0⟩
   ·exact rest8 O KN OT M os ks bs pss qss wy 0 _ none none none _ W5 hdr hdq hM5 hM0
  obtain⟨tr5,htr5,rest5⟩:=R5;refine⟨_,zb (zn (i:=1) zaj.nd rfl (Or.inl rfl) (zi Gw hr rfl mw Fw.kp bw .nil pass0 (pa_cons (pv 0) pa_nil)))
   (zb (zn (i:=2) zaj.nd rfl (Or.inl rfl) (zi Gl hr2 rfl ml Fl.kp bl .nil pass0 (pa_cons (pv 1) pa_nil)))
   (zb (zn (i:=3) zaj.nd rfl (Or.inl rfl) (zi Gw hr rfl mw Fw.kp bw .nil pass0 (pa_cons (pv 0) pa_nil)))
   (zb (zn (i:=4) zaj.nd rfl (Or.inl rfl) (zi Gt hr1 rfl mt Ft.kp bt .nil pass0 (pa_cons (pv 0) (pa_cons zf pa_nil))))
   (zb (zU (zo zaC (pv 4) zf (nomark _)) (ze (zn (i:=3) zaj.nd rfl (Or.inl rfl) (zx zbb rfl B.list zbS (pa_cons (pv 1) pa_nil)))) zv)
   htr5)))),?_⟩
  refine⟨_,rfl,p,rfl,hb,fun O os pss H1 sb1 hb1 hO0 hO1 ht1 hdr=>?_⟩;obtain⟨hw,hnd,h17⟩:=zaK hdr;obtain⟨h20,_,h5,_⟩:=zal hw;have hfew:=zaH hdr;refine⟨_,rfl,O,os,pss,rfl,SqL.of hO1,ht1,h5,AF h20 (by decide),by omega,fun KN H2 qs t=>?_⟩;obtain⟨ks,s2,_,hK2,hks2⟩:=zae t;have hb2:=hb1.same s2;refine⟨_,rfl,p,rfl,hb2,fun OT bs qss H3 sb3 hb3 hT0 hT3 ht3 hdq=>?_⟩;have W3:W2 H H3 p O KN OT os ks bs pss qss:=⟨(sb1.trans (zac.of s2)).trans sb3,hb3,sb3 _ _ (hb2.ne (s2 _ _ hO1)) (s2 _ _ hO1),sb3.tps hb2 (s2.tps ht1),sb3 _ _ (hb2.ne hK2) hK2,sb3.tps hb2 hks2,hT3,ht3⟩;refine⟨_,rfl,p,4,rfl,hb3,by decide,by decide,fun wy H4 w0 w1 sb4 hb4=>?_⟩;have W4:=W3.box sb4 hb4;refine⟨_,rfl,rfl,_,rfl,ite2 (fun _=>?_) (fun _=>?_)⟩
  ·refine⟨_,rfl,O,_,rfl,.inl (SqL.of W4.hO),fun L hL=>?_⟩
   have sL:=Same.new (o:=.lst (os.map V.ref)) hL;have W5:=W4.same sL;exact rest5 O KN L os ks os pss pss wy _ ⟨W5.sb,W5.bx,W5.hO,W5.ho,W5.hK,W5.hk,upd_same,W5.ho⟩ hdr hdr
  ·exact rest5 O KN OT os ks bs pss qss wy _ W4 hdr hdq
end
end K52
end
section
namespace K1
def sg (q:List Int):Int:=1 - 2*(1 - (q.length:Int) % 2)
theorem zbz {pss:List (List Int)}{q:List Int}:q∈canon pss ↔ q≠[]/\∃t∈pss,q.Sublist t:=by
 rw[zN,List.mem_flatMap];constructor
 ·rintro⟨t,ht,hq⟩
  exact⟨(zA.mp hq).1,t,ht,(zA.mp hq).2⟩
 ·rintro⟨h,t,ht,hq⟩
  exact⟨t,ht,zA.mpr ⟨h,hq⟩⟩
abbrev Rise (q:List Int):Prop:=q.Pairwise (·<·)
end K1
end
section
namespace K1
theorem zdt {X pss:List (List Int)} (h:∀x,x∈canon X->x∈canon pss):(canon X).length<=(canon pss).length:=(zcI X).length_le_of_subset h
abbrev hol (t p:List Int):Bool:=(p.map fun x=>decide (x∈t)).all id
section
variable {pss:List (List Int)}{p:List Int}
theorem zg5 (hw:webM pss=true) {q:List Int} (h:q∈canon pss):zY q=true:=by
 obtain⟨t,ht,hx⟩:=List.mem_flatMap.mp (zN.mp h);exact zaD ((zal hw).2.1 t ht) hx
end
end K1
end
section
namespace K1
open PySem L2 STb
theorem zlu {l:List Int} (hs:l.Pairwise (·<=·)) (hn:l.Nodup):Rise l:=by
 have:=hs.and hn;exact this.imp fun h=>by omega
def apart (p q:List Int):Bool:=decide ((dd (p++q)).length=p.length+q.length)
section
variable {pss:List (List Int)}{p:List Int}
end
end K1
end
section
namespace L2
open PySem PySem.Spec PyProof.Rows
theorem zlr (f:Array Value->Array Value) (o:Obj):(o.mapFields f).dict=o.dict:=by unfold Obj.mapFields; split <;> rfl
def Xc (h:Heap) (x:Addr) (C:Value) (T:Option Addr):Prop:=
 ∃oe vs,h.get? x=some oe/\oe.cls=C/\oe.dict=none/\oe.data=.fields vs/\1<vs.size/\((T=none/\vs[1]?=some .none) \/ ∃a oT ts,T=some a/\vs[1]?=some (.ref a)/\a≠x/\h.get? a=some oT/\oT.data=.fields ts/\ts[3]?=some .none)
def zc6 (fr:List Addr) (x:Addr) (T:Option Addr) (h h':Heap):Prop:=
 (∀b o,h.get? b=some o->b≠x->T≠some b->b∉fr->h'.get? b=some o)/\(∀b o,h.get? b=some o->b∈fr->∃sl,h'.get? b=some { o with slots:=sl })/\h.objs.size<=h'.objs.size
section
variable {M:Model}{A:Around}{E:Value->Shared->Prop}{s:Shared}
theorem zce {base:Heap}{env:Env}{outer:List Env}{L x:Addr}{oe:Obj}{vs:Array Value}{head:Value}{hadNext:Bool}{Q:Unit->Shared->Prop}
  (hfr:A.frames=some (env::outer)) (hl:s.heap.FunFrames base (env::outer)) (hf:env.frame=some L) (he:s.heap.get? x=some oe) (hdn:oe.dict=none) (hd:oe.data=.fields vs) (hsz:1<vs.size)
  (h:∀h' T',s.heap.objs.size<=T'->Xc h' x oe.cls (some T')->zc6 ((env::outer).filterMap (·.frame)) x none s.heap h'->Q () { s with heap:=h' }) :
  wpAny M A (do let a <- frameOf env; let pl <- entryPlaceOf L hadNext; let b <- EntryCells.newEntry head a .none (rawInt L) .none pl; setField (.ref x) 1 b) (fun _ s'=>wpAny M A (setFlight (.ref x) none) Q E s') E s:=by
 have hene:x∉(env::outer).filterMap (·.frame):=fun hm=>by
  obtain⟨_,o,ho,hnf⟩:=hl.mem hm;rw[he] at ho; injection ho with ho; subst ho; exact hnf vs hd
 refine Aa (wpAny_frameOf_fun hfr hl hf fun h₁ hs₁=>?_);refine Aa (wpAny_entryPlaceOf fun pl hpl=>?_);unfold EntryCells.newEntry newFields;refine Aa (AO ?_ (hpl.sizeOk5 _ _ _ _ _));have he₁:h₁.get? x=some oe:=(hs₁.2.1 x hene).trans he;have he₂:=Ad (h:=h₁) { cls:=.type "traceback",dict:=none,data:=.fields ([head,.ref L,.none,rawInt L,.none]++(if pl.isEmpty then List.replicate 6 Value.none else pl)).toArray } he₁;refine wpAny_setField he₂ hd hsz ?_;have hTe:h₁.objs.size≠x:=Nat.ne_of_gt (Ah he₁);have hd₃:=A8 hd (·.setIfInBounds 1 (Value.ref h₁.objs.size));have he₃:=Heap.get?_update_self (Obj.mapFields (·.setIfInBounds 1 (Value.ref h₁.objs.size))) he₂ (Obj.isFreed_of_fields hd₃);have hT₃:=(Heap.get?_update_other (h₁.push { cls:=.type "traceback",dict:=none,data:=.fields ([head,.ref L,.none,rawInt L,.none]++(if pl.isEmpty then List.replicate 6 Value.none else pl)).toArray })
  (Obj.mapFields (·.setIfInBounds 1 (Value.ref h₁.objs.size))) (Ne.symm hTe)).trans (Al h₁ rfl)
 unfold setFlight;refine Aa (AU he₃ hd₃ (x:=.ref h₁.objs.size) (by simp[hsz]) ?_);rw[if_pos (show (Value.ref h₁.objs.size != Value.none)=true from by simp)];have hs1:h₁.objs.size=s.heap.objs.size:=hs₁.1;refine wpAny_setField hT₃ rfl (by simp only[Ai,At,As,List.length_nil] <;> omega) (h _ h₁.objs.size (by omega) ?_ ?_)
 ·refine⟨_,_,?_,Obj.cls_mapFields _ _,(zlr _ _).trans hdn,hd₃,by simpa using hsz,.inr ⟨h₁.objs.size,_,_,rfl,by simp[hsz],hTe,Heap.get?_update_self _ hT₃ (Obj.isFreed_of_fields (A8 rfl _)),A8 rfl _,?_⟩⟩
  ·rw[Heap.get?_update_other _ _ hTe]; exact he₃
  ·first | (simp; done) | (rcases hpl with rfl | ⟨_,_,_,_,_,_,_,rfl⟩ <;> simp)
 ·have keep:∀b o,b≠x->h₁.get? b=some o->
    (((h₁.push { cls:=.type "traceback",dict:=none,data:=.fields ([head,.ref L,.none,rawInt L,.none]++(if pl.isEmpty then List.replicate 6 Value.none else pl)).toArray }).update x (Obj.mapFields (·.setIfInBounds 1 (Value.ref h₁.objs.size)))).update h₁.objs.size
     (Obj.mapFields (·.setIfInBounds 3 ((none:Option Addr).elim Value.none fun f=>rawInt f)))).get? b=some o:=fun b o hbe hb=>by
   have hbT:h₁.objs.size≠b:=Nat.ne_of_gt (Ah hb);rw[Heap.get?_update_other _ _ hbT,Heap.get?_update_other _ _ (Ne.symm hbe)];exact Ad _ hb
  refine⟨fun b o hb hbx _ hbf=>keep b o hbx ((hs₁.2.1 b hbf).trans hb),fun b o hb hbf=>?_,?_⟩
  ·obtain⟨sl,hsl⟩:=hs₁.2.2 b o hb
   exact⟨sl,keep b _ (fun e=>hene (e ▸ hbf)) hsl⟩
  ·rw[Bb,Bb,Heap.size_push]
   show s.heap.objs.size<=h₁.objs.size+1;omega
theorem zgw {base:Heap}{env:Env}{outer:List Env}{L x:Addr}{C:Value}{T:Option Addr}{Q:Unit->Shared->Prop}
  (hfr:A.frames=some (env::outer)) (hl:s.heap.FunFrames base (env::outer)) (hf:env.frame=some L) (he:Xc s.heap x C T)
  (h:∀h' T',s.heap.objs.size<=T'->Xc h' x C (some T')->zc6 ((env::outer).filterMap (·.frame)) x T s.heap h'->Q () { s with heap:=h' }):wpAny M A (leaving env (.ref x)) Q E s:=by
 obtain⟨oe,vs,he,rfl,hdn,hd,hsz,h1⟩:=he;unfold leaving noteFrame;simp only[hf];rcases h1 with ⟨rfl,h1⟩ | ⟨a,oT,ts,rfl,h1,hax,hT,hdT,h3⟩
 ·refine Aa (Aa (AU he hd h1 ?_))
  rw[if_neg (by decide)];exact zce hfr hl hf he hdn hd hsz h
 ·refine Aa (Aa (AU he hd h1 ?_))
  rw[if_pos (show (Value.ref a != Value.none)=true from by simp)];refine Aa (AU hT hdT h3 ?_);rw[if_neg (show ¬ ((Value.none == rawInt L)=true) from by simp[rawInt])];refine Aa (wpAny_setField hT hdT (Array.getElem?_eq_some_iff.mp h3).1 ?_);have other:∀b,b≠a->(s.heap.update a (Obj.mapFields (·.setIfInBounds 3 Value.none))).get? b=s.heap.get? b:=fun b hb=>Heap.get?_update_other _ _ (Ne.symm hb);have noRecord:∀b o,s.heap.get? b=some o->(∀vs,o.data≠.fields vs)->b≠a:=fun b o hb hnf q=>by
   rw[q,hT] at hb; injection hb with hb; subst hb; exact hnf ts hdT
  refine zce hfr (hl.of_keeps fun b o hb hnf=>⟨o,(other b (noRecord b o hb hnf)).trans hb,rfl⟩) hf ((other x (Ne.symm hax)).trans he) hdn hd hsz fun h' T' hT' hx hk=>h h' T' (by rw[Bb] at hT'; exact hT') hx ?_;obtain⟨k1,k2,k3⟩:=hk;refine⟨fun b o hb hbx hbT hbf=>k1 b o ((other b fun e=>hbT (by rw[e])).trans hb) hbx (by simp) hbf,fun b o hb hbf=>?_,by rw[Bb] at k3; exact k3⟩;obtain⟨_,o',ho',hnf⟩:=hl.mem hbf;rw[hb] at ho'; cases ho';exact k2 b o ((other b (noRecord b o hb hnf)).trans hb) hbf
end
end L2
end
section
namespace L2
open PySem PySem.Spec PyProof.Rows
def CX1 (P:Program) (w:World):CXT:=fun outer H s E e s'=>∃(x C:Addr) (T:Option Addr) (H':Hp),e=.ref x/\s'.os=s.os/\AllBare s'.gens/\Un (frs outer) [] H H' s.heap s'.heap/\HOk P w H' s'.heap/\
 H' x=none/\s.heap.get? x=none/\(∀a,T=some a->H' a=none/\s.heap.get? a=none)/\Xc s'.heap x (.ref C) T/\E e (some C) H'
theorem zjD {P:Program}{w:World}{H:Hp}{h h':Heap}{fr:List Addr}{x:Addr}{T:Option Addr} (hok:HOk P w H h) (k:zc6 fr x T h h') (hx:H x=none) (hT:∀a,T=some a->H a=none) (hf:∀b∈fr,H b=none):HOk P w H h':=by
 intro b u e;refine (hok b u e).stay (fun c v hc q=>k.1 c v q ?_ ?_ ?_) (fun _ q=>q) fun _ _ q=>q
 all_goals
  have hcn:H c≠none:=by
   rcases hc with z | z
   ·rw[z,e]; simp
   ·rw[z]; simp
 ·exact fun z=>hcn (z ▸ hx)
 ·exact fun z=>hcn (hT c z)
 ·exact fun z=>hcn (hf c z)
theorem zj5 {P:Program}{w:World}{K:Ae}{mg:Str->Option Value}{base:Heap}{N:List Str}{qual:Str}{scope:Scope}{f:Addr}{cd:Value}{A:Around}{outer:List Env}{s:Shared}{H:Hp}{E:XK}
  {pins:List (Addr×Obj)} {σ:St} {H':Hp} {s':Shared} {x C:Addr} {T:Option Addr} (I:Inv (cxOf (CX1 P w) P w K mg base N qual scope f cd A outer s H E) pins σ H' s')
  (hx:Xc s'.heap x (.ref C) T) (hx0:H' x=none) (hxs:s.heap.get? x=none) (hT:∀a,T=some a->H' a=none/\s.heap.get? a=none) (hE:E (.ref x) (some C) H') :
  (cxOf (CX1 P w) P w K mg base N qual scope f cd A outer s H E).xe (.ref x) s':=by
 show wpAny (model P w) (A.deeper (envOfC qual scope s.heap.objs.size f cd)) (leaving (envOfC qual scope s.heap.objs.size f cd) (.ref x)) _ _ s';refine zgw I.ok.frames I.stack rfl hx fun h' T' hT' hx' hk=>?_;have hfr:=I.stkFree;have hsz:s.heap.objs.size<=s'.heap.objs.size:=I.sz;have old:∀b o,s.heap.get? b=some o->b≠x/\T≠some b/\b≠s.heap.objs.size:=fun b o e=>by
  have hb:=Ah e;exact⟨fun z=>(by rw[z,hxs] at e; cases e),fun z=>(by rw[(hT b z).2] at e; cases e),An hb⟩
 have up:∀b o o',s.heap.get? b=some o->s'.heap.get? b=some o'->b∉frs outer->h'.get? b=some o':=fun b o o' e e' hb=>by
  obtain⟨n1,n2,n3⟩:=old b o e;refine hk.1 b o' e' n1 n2 fun hm=>?_;have hm':b∈s.heap.objs.size::frs outer:=hm;rcases List.mem_cons.mp hm' with z | z
  ·exact n3 z
  ·exact hb z
 have upf:∀b o',s'.heap.get? b=some o'->b∈frs outer->∃sl,h'.get? b=some { o' with slots:=sl }:=fun b o' e' hb=>hk.2.1 b o' e' (show b∈s.heap.objs.size::frs outer from Ax _ hb);have nex:∀b:Addr,b∉(cxOf (CX1 P w) P w K mg base N qual scope f cd A outer s H E).ex:=fun b z=>absurd (show b∈([]:List Addr) from z) (by simp);refine⟨x,C,some T',H',rfl,I.os,I.bare,⟨fun b o q n hb hx=>?_,fun b o q n hb hx=>?_,fun b o q n hx=>I.base.free b o q n (nex b),fun b o q hx=>?_,I.base.tups,I.base.frzs,I.base.tbls⟩,zjD I.hok hk hx0 (fun a e=>(hT a e).1) hfr,hx0,hxs,fun a e=>?_,hx',hE⟩
 ·exact up b o o q (I.base.keep b o q n hb (nex b)) hb
 ·obtain⟨sl,e⟩:=I.base.slot b o q n hb (nex b)
  obtain⟨sl',e'⟩:=upf b _ e hb;exact⟨sl',e'⟩
 ·obtain⟨o',e⟩:=I.base.there b o q (nex b)
  by_cases hb:b∈frs outer
  ·obtain⟨sl,e'⟩:=upf b o' e hb
   exact⟨_,e'⟩
  ·exact⟨o',up b o o' q e hb⟩
 ·cases e
  refine⟨I.hok.fresh hT',?_⟩;cases q:s.heap.get? T' with
  | none=>rfl
  | some o=>exact absurd (Ah q) (Nat.not_lt.mpr (AF hsz hT'))
theorem pass1 {P:Program}{w:World}{K:Ae}{mg:Str->Option Value}{base:Heap}{N:List Str}{qual:Str}{scope:Scope}{f:Addr}{cd:Value}{A:Around}{outer:List Env}{s:Shared}{H:Hp}{E:XK} :
  Passes (CX1 P w) (cxOf (CX1 P w) P w K mg base N qual scope f cd A outer s H E) E:=by
 rintro pins σ H1 s1 e s2 I ⟨x,C,T,H',rfl,os,bare,un,hok,hx0,hxs,hT,hx,hE⟩;have I2:Inv (cxOf (CX1 P w) P w K mg base N qual scope f cd A outer s H E) pins σ H' s2:=I.call' (ch:=[]) os un hok bare (fun b z=>absurd z (by simp));have back:∀b,s1.heap.get? b=none->s.heap.get? b=none:=fun b hb=>by
  cases q:s.heap.get? b with
  | none=>rfl
  | some o=>
   obtain⟨o',e⟩:=I.base.there b o q (fun z=>absurd (show b∈([]:List Addr) from z) (by simp));rw[hb] at e; cases e
 exact zj5 I2 hx hx0 (back x hxs) (fun a e=>⟨(hT a e).1,back a (hT a e).2⟩) hE
theorem Fun.ok1 {P:Program}{w:World}{K:Ae}{mg:Str->Option Value}{base:Heap}{x qual:Str}{st:Stmt}{f:Addr}{fd:FuncData}{N ps:List Str}{k:Nat}{sp:Sp} (F:Fun K x qual st f fd) (S:zp N ps (za st)) (len:∀vs H Q E,sp vs H Q E->vs.length=ps.length)
  (hbody:∀(cdv:Value) (A:Around) (outer:List Env) (s:Shared) (H:Hp) (vs:List V) (Q:VK) (E:XK),Room k (A.deeper (envOfC qual (za st) s.heap.objs.size f cdv))->sp vs H Q E->
   ∃t,PSs (cxOf (CX1 P w) P w K mg base N qual (za st) f cdv A outer s H E) (zl st) t/\t { nx:=fun _ H'=>Q .non H',rt:=Q } (start N vs) H):FnOk P w K mg base (CX1 P w) (k+1) f fd ps sp:=by
 obtain⟨oc,od,kV,doc,pm,an,cdv,ct,osl,rfl,lk,hcd⟩:=F.ex;exact zlR lk hcd S len fun A outer s H vs Q E hr hsp=>hbody cdv A outer s H vs Q E hr hsp
theorem ziz {P:Program}{w:World}{H:Hp}{h:Heap}{a:Addr}{o:HO} (x:zF P w H h a o):∃ob,h.get? a=some ob:=by
 cases o with
 | lst xs=>obtain⟨_,_,_,_,e⟩:=x; exact⟨_,e⟩
 | tup xs=>obtain⟨_,_,_,o,e,_⟩:=x; exact⟨_,e⟩
 | dK kvs=>obtain⟨_,_,_,_,o,_,_,e,_⟩:=x; exact⟨_,e⟩
 | dT kvs=>obtain⟨_,_,_,_,o,_,_,e,_⟩:=x; exact⟨_,e⟩
 | set S n=>obtain⟨o,_,_,_,e,_⟩:=x; exact⟨_,e⟩
 | ins C dx fs=>obtain⟨_,_,_,e,_⟩:=x; exact⟨_,e⟩
 | own y=>exact x
 | xd fs=>obtain⟨_,⟨_,_,_,e,_⟩,_⟩:=x; exact⟨_,e⟩
 | met f y=>exact⟨_,x⟩
 | rng lo hi=>obtain⟨_,_,_,e⟩:=x; exact⟨_,e⟩
 | frz ob u=>exact⟨_,x.1⟩
 | tbl ps=>exact⟨_,x⟩
 | ext φ=>exact x.2.1
theorem zeY {K:Ae}{h:Heap}{C:Addr}{bmB:List Value}{newId:String} (X:K.In h) (q:PySem.W.excIn K C bmB newId=true) :
  ∃bm N nm qn bs hdct sn sub ab col dd k0 k1 k2 k3 k5,∃mN:Str->Option Value,mN "__init__"=none/\(∀T,bmB.contains (.type T)=true->bm.contains (.type T)=true)/\∀h':Heap,K.In h'->h'.get? C=some (excClassObj nm qn C N bs bm hdct sn sub ab col dd k0 k1 k2 k3 k5 newId)/\h'.Ns N mN/\OwnTail h' bmB bm:=by
 unfold PySem.W.excIn at q;split at q
 ·rename_i dd cd sl ho
  split at q
  ·rename_i C' bm k0 k1 k2 k3 n k5 hm hs
   simp only[AN,beq_iff_eq,Bool.not_eq_true'] at q;obtain⟨⟨⟨⟨⟨rfl,rfl⟩,hdel⟩,ht⟩,hok⟩,hni⟩:=q;obtain⟨nm,bs,mro,ns,qn,hd,sn,sub,ab,col,del⟩:=cd;dsimp only at hm hdel hok hni;subst hm hdel;have hsl:sl=#[k0,k1,k2,k3,some (.builtin n),k5]:=by
    obtain⟨l⟩:=sl;simp only at hs;rw[hs]
   subst hsl;refine⟨bm,ns,nm,qn,bs,hd,sn,sub,ab,col,dd,k0,k1,k2,k3,k5,h.nsMap ns,PySem.W.nsMap_none_of_in X hok hni,fun T hT=>(PySem.W.tail_of_in X ht).hasType hT,fun h' X'=>⟨X' _ _ ho,?_,PySem.W.tail_of_in X' ht⟩⟩;have hN:h.Ns ns (h.nsMap ns):=.of_isNs (PySem.W.isNs_of_in X hok);unfold PySem.W.nsOkIn at hok;split at hok
   ·rename_i c1 d1 es1 ep1 sl1 ho1
    exact hN.at' fun o e=>by
     rw[X _ _ ho1] at e;rw[<- e];exact X' _ _ ho1
   ·cases hok
  ·cases q
 ·cases q
abbrev bmV:List Value:=[.type "ValueError",.type "Exception",.type "BaseException",.type "object"]
section
variable {X:Cx}
def zl3 (EX:XK) (C:Addr):TS:=fun _ _ H=>∀x,H x=none->EX (.ref x) (some C) H
theorem ziJ {x:Str}{C:Addr}{msg:Str}{j:Nat}{np mp cpos pos:Pos}{EX:XK} (hc:X.calm=true) (hg:Gl X x) (hm:X.mg x=some (.ref C)) (q:PySem.W.excIn X.K C bmV "ValueError.__new__"=true)
  (hxe:∀(pins:List (Addr×Obj)) (σ:St) (H:Hp) (s:Shared) (x:Addr),Inv X pins σ H s->Xc s.heap x (.ref C) none->H x=none->X.s₀.heap.get? x=none->EX (.ref x) (some C) H->X.xe (.ref x) s)
  (hex:X.ex=[]:=by rfl) (hd:(x == ("__debug__":Str))=false:=by decide) (hplain:(backTo cpos (starEach [Expr.Constant (.str msg) j mp] X.env)).any (·.1)=false:=by rfl) :
  PS X (.Raise (some (.Call (.Name x np) [.Constant (.str msg) j mp] [] cpos)) none pos) (zl3 EX C):=by
 intro pins s σ H D I h;obtain⟨bm,N,nm,qn,bs,hdct,sn,sub,ab,col,dd,k0,k1,k2,k3,k5,mN,hni,hbm,hat⟩:=zeY I.kIn q;refine wpAny_Raise_call_subU (C:=C) (nm:=nm) (q:=qn) (N:=N) (bs:=bs) (bm:=bm) (hdct:=hdct) (sn:=sn) (sub:=sub) (ab:=ab) (col:=col) (dd:=dd) (k0:=k0) (k1:=k1) (k2:=k2) (k3:=k3) (k5:=k5) PySem.F.excBase_ValueError PySem.F.excBase_ValueError.hasB PySem.F.excBase_ValueError (hbm _ PySem.F.excBase_ValueError.hasBase) (I.ok.hd hc) hplain hni ?_;refine thn (zb0 (v:=.ref C) hg hm rfl hd pins s σ H (fun v H1=>v=.ref C/\H1=H) I ⟨rfl,rfl⟩) fun f s₁ ⟨v,H1,I1,r1,e1,e2⟩=>?_;subst e1 e2;cases r1;refine⟨rfl,?_⟩;have hA:=(pa_cons pe_str pa_nil:PA X [Expr.Constant (.str msg) j mp] _) cpos pins s₁ σ H1 (fun vs H2=>vs=[.str msg]/\H2=H1) I1 ⟨rfl,rfl⟩;refine Calls.evalArgs_plain (thn hA fun us s₂ ⟨vs,H2,I2,r2,e3,e4⟩=>?_);subst e3 e4;obtain⟨c1,c2,c3⟩:=hat s₂.heap I2.kIn;refine⟨rfl,?_,c1,c2,c3,fun h' e hm=>?_⟩
 ·rw[<- r2.length]; show 1<=sizeLine; decide
 obtain⟨t,ht,_,_⟩:=hm.there;have I3:Inv X pins σ H2 { s₂ with heap:=h' }:=I2.kept (t':=s₂.toks) hm.keeps;have he:H2 e=none:=by
  cases z:H2 e with
  | none=>rfl
  | some u=>
   obtain⟨o,ho⟩:=ziz (I2.hok e u z);rw[hm.new] at ho; cases ho
 refine hxe pins σ H2 _ e I3 ⟨_,_,ht,rfl,rfl,rfl,(by show 1<6; decide),.inl ⟨rfl,rfl⟩⟩ he ?_ (h e he);cases z:X.s₀.heap.get? e with
 | none=>rfl
 | some o=>
  obtain⟨o',ho⟩:=I2.base.there e o z (by rw[hex]; simp);rw[hm.new] at ho; cases ho
end
end L2
end
section
namespace L2
open PySem PySem.Spec PyProof.Rows
section
variable {M:Model}{A:Around}{E:Value->Shared->Prop}{s:Shared}
theorem zk5 {base:Heap}{env:Env}{outer:List Env}{L x:Addr}{C:Value}{T:Option Addr}{Q:Unit->Shared->Prop}
  (hfr:A.frames=some (env::outer)) (hl:s.heap.FunFrames base (env::outer)) (hf:env.frame=some L) (he:Xc s.heap x C T)
  (h:∀h' T',s.heap.objs.size<=T'->Xc h' x C (some T')->zc6 ((env::outer).filterMap (·.frame)) x T s.heap h'->Q () { s with heap:=h' }) :
  wpAny M A (noteFrame (.ref x) env) (fun _ s₂=>wpAny M A (setFlight (.ref x) none) Q E s₂) E s:=by
 obtain⟨oe,vs,he,rfl,hdn,hd,hsz,h1⟩:=he;unfold noteFrame;simp only[hf];rcases h1 with ⟨rfl,h1⟩ | ⟨a,oT,ts,rfl,h1,hax,hT,hdT,h3⟩
 ·refine Aa (AU he hd h1 ?_)
  rw[if_neg (by decide)];exact zce hfr hl hf he hdn hd hsz h
 ·refine Aa (AU he hd h1 ?_)
  rw[if_pos (show (Value.ref a != Value.none)=true from by simp)];refine Aa (AU hT hdT h3 ?_);rw[if_neg (show ¬ ((Value.none == rawInt L)=true) from by simp[rawInt])];refine Aa (wpAny_setField hT hdT (Array.getElem?_eq_some_iff.mp h3).1 ?_);have other:∀b,b≠a->(s.heap.update a (Obj.mapFields (·.setIfInBounds 3 Value.none))).get? b=s.heap.get? b:=fun b hb=>Heap.get?_update_other _ _ (Ne.symm hb);have noRecord:∀b o,s.heap.get? b=some o->(∀vs,o.data≠.fields vs)->b≠a:=fun b o hb hnf q=>by
   rw[q,hT] at hb; injection hb with hb; subst hb; exact hnf ts hdT
  refine zce hfr (hl.of_keeps fun b o hb hnf=>⟨o,(other b (noRecord b o hb hnf)).trans hb,rfl⟩) hf ((other x (Ne.symm hax)).trans he) hdn hd hsz fun h' T' hT' hx hk=>h h' T' (by rw[Bb] at hT'; exact hT') hx ?_;obtain⟨k1,k2,k3⟩:=hk;refine⟨fun b o hb hbx hbT hbf=>k1 b o ((other b fun e=>hbT (by rw[e])).trans hb) hbx (by simp) hbf,fun b o hb hbf=>?_,by rw[Bb] at k3; exact k3⟩;obtain⟨_,o',ho',hnf⟩:=hl.mem hbf;rw[hb] at ho'; cases ho';exact k2 b o ((other b (noRecord b o hb hnf)).trans hb) hbf
theorem zgF {x:Addr}{C:Value}{T:Addr}{Q:Unit->Shared->Prop} (he:Xc s.heap x C (some T))
  (h:∀h',Xc h' x C (some T)->zc6 [] x (some T) s.heap h'->Q () { s with heap:=h' }):wpAny M A (setFlight (.ref x) none) Q E s:=by
 obtain⟨oe,vs,he,rfl,hdn,hd,hsz,h1⟩:=he;rcases h1 with ⟨z,_⟩ | ⟨a,oT,ts,z,h1,hax,hT,hdT,h3⟩
 ·cases z
 cases z;unfold setFlight;refine Aa (AU he hd h1 ?_);rw[if_pos (show (Value.ref T != Value.none)=true from by simp)];have hlt:=(Array.getElem?_eq_some_iff.mp h3).1;refine wpAny_setField hT hdT hlt (h _ ?_ ?_)
 ·refine⟨oe,vs,?_,rfl,hdn,hd,hsz,.inr ⟨T,_,_,rfl,h1,hax,Heap.get?_update_self _ hT (Obj.isFreed_of_fields (A8 hdT _)),A8 hdT _,?_⟩⟩
  ·rw[Heap.get?_update_other _ _ hax]; exact he
  ·simp[hlt]
 ·refine⟨fun b o hb hbx hbT _=>?_,fun b o _ z=>absurd z (by simp),by rw[Bb]; exact Af _⟩
  rw[Heap.get?_update_other _ _ (fun e=>hbT (by rw[e]))]; exact hb
theorem zgo {C S:Addr}{nm q N bs bm hdct sn sub ab col dd k0 k1 k2 k3 k5 newId}{nm' q' N' bs' bm' hdct' sn' sub' ab' col' dd' k0' k1' k2' k3' k5' newId'}{h:Heap}{g:Array GenState}{d:Drawn}{t:Nat}{os:OsState}{e:Addr}{oe:Obj}{Q:Bool->Shared->Prop}
  (hC:h.get? C=some (excClassObj nm q C N bs bm hdct sn sub ab col dd k0 k1 k2 k3 k5 newId)) (hS:h.get? S=some (excClassObj nm' q' S N' bs' bm' hdct' sn' sub' ab' col' dd' k0' k1' k2' k3' k5' newId')) (he:h.get? e=some oe) (hcls:oe.cls=.ref C)
  (hbase:bm'.contains (.type "BaseException")=true) (hsub:(Value.ref C::bm).contains (.ref S)=true)
  (hq:Q true ⟨h,g,d,t,os⟩):wpAny M A (excMatches (.ref e) (.ref S)) Q E ⟨h,g,d,t,os⟩:=by
 have hcB:(Value.ref S::bm').contains (.type "BaseException")=true:=by rw[List.contains_cons,hbase,Bool.or_true]
 have f:=tc_notTuple;unfold excMatches
 repeat (first | (with_reducible refine wpAny_loadPart_at he ?_; rw[hcls]) | with_reducible refine wpAny_loadPart_at hS ?_ | (with_reducible refine wpAny_isSubtype_exc hS ?_; rw[hcB]) | (with_reducible refine wpAny_isSubtype_exc hC ?_; rw[hsub]) | wp_step)
 exact hq
end
section
variable {X:Cx}{pins:List (Addr×Obj)}{σ:List (Option V)}{H H':Hp}{s:Shared}{h':Heap}
structure Off (X:Cx) (pins:List (Addr×Obj)) (x:Addr):Prop where
 s0:X.s₀.heap.get? x=none
 lo:x≠X.env.locals
 ce:∀y c,X.env.cells.lookup y=some c->c≠x
 pn:∀p∈X.pn++pins,p.1≠x
theorem Inv.off (I:Inv X pins σ H s) (hex:X.ex=[]) {x:Addr} (h:s.heap.get? x=none):Off X pins x:=by
 refine⟨?_,fun e=>?_,fun y c e z=>?_,fun p hp z=>?_⟩
 ·cases q:X.s₀.heap.get? x with
  | none=>rfl
  | some o=>
   obtain⟨o',e⟩:=I.base.there x o q (by rw[hex]; simp);rw[h] at e; cases e
 ·obtain⟨m,⟨o,_,_,ho,_⟩,_⟩:=I.loc
  rw[<- e,h] at ho; cases ho
 ·obtain⟨v,o,ho,_⟩:=I.cell y c e
  rw[z,h] at ho; cases ho
 ·have:=(I.pin p hp).1
  rw[z,h] at this; cases this
theorem Inv.stepN {ch:List Addr} (I:Inv X pins σ H s) (hch:∀b∈ch,Off X pins b)
  (keep:∀b o,b≠X.env.locals->b∉X.fs->b∉ch->s.heap.get? b=some o->H b=none->h'.get? b=some o)
  (slot:∀b o,b≠X.env.locals->b∈X.fs->b∉ch->s.heap.get? b=some o->H b=none->∃sl,h'.get? b=some { o with slots:=sl }) (free:∀b o,b∉ch->s.heap.get? b=some o->H b=none->H' b=none)
  (there:∀b o,b∉ch->s.heap.get? b=some o->∃o',h'.get? b=some o')
  (tups:∀b xs,H b=some (.tup xs)->H' b=some (.tup xs)) (frzs:∀b o u,H b=some (.frz o u)->H' b=some (.frz o u)) (tbls:∀b ps,H b=some (.tbl ps)->∃more,H' b=some (.tbl (ps++more)))
  (ns:∀m,s.heap.Ns X.env.locals m->h'.Ns X.env.locals m) (hok:HOk X.prog X.w H' h') :
  Inv X pins σ H' { s with heap:=h' }:=by
 have neL:∀b o,X.s₀.heap.get? b=some o->b≠X.env.locals:=fun b o e=>An (AD (Ah e) I.ok.above);have neC:∀b o,X.s₀.heap.get? b=some o->b∉ch:=fun b o e hb=>by
  rw[(hch b hb).s0] at e; cases e
 have cellK:∀x c,X.env.cells.lookup x=some c->∀v,s.heap.IsCell c v->h'.IsCell c v:=fun x c e v ⟨o,ho,hd⟩=>by
  have nch:c∉ch:=fun z=>(hch c z).ce x c e rfl
  by_cases hc:c∈X.fs
  ·obtain⟨sl,q⟩:=slot c o (I.cne x c e) hc nch ho (I.freeC x c e)
   exact⟨_,q,hd⟩
  ·exact⟨o,keep c o (I.cne x c e) hc nch ho (I.freeC x c e),hd⟩
 refine⟨I.ok,I.os,I.bare,⟨fun b o e n hb hx=>?_,fun b o e n hb hx=>?_,fun b o e n hx=>?_,fun b o e hx=>?_,fun b xs e=>tups b xs (I.base.tups b xs e),fun b o xs e=>frzs b o xs (I.base.frzs b o xs e),fun b ps e=>?_⟩,?_,fun x c e=>?_,?_,fun x c e=>?_,fun p hp=>?_,hok,I.len⟩
 ·exact keep b o (neL b o e) hb (neC b o e) (I.base.keep b o e n hb hx) (I.base.free b o e n hx)
 ·obtain⟨sl,e1⟩:=I.base.slot b o e n hb hx
  obtain⟨sl',e2⟩:=slot b _ (neL b o e) hb (neC b o e) e1 (I.base.free b o e n hx);exact⟨sl',e2⟩
 ·obtain⟨o',e1⟩:=I.base.there b o e hx
  exact free b o' (neC b o e) e1 (I.base.free b o e n hx)
 ·obtain⟨o',e1⟩:=I.base.there b o e hx
  exact there b o' (neC b o e) e1
 ·obtain⟨m1,e1⟩:=I.base.tbls b ps e
  obtain⟨m2,e2⟩:=tbls b _ e1;exact⟨m1++m2,by rw[e2,Array.append_assoc]⟩
 ·obtain⟨m,hn,hl⟩:=I.loc
  refine⟨m,ns m hn,fun i x v e1 e2 e3=>?_⟩;obtain⟨u,r,l⟩:=hl i x v e1 e2 e3;refine⟨u,r,?_⟩;rcases l with l | ⟨k,c,e,z⟩
  ·exact .inl l
  ·exact .inr ⟨k,c,e,cellK x c e _ z⟩
 ·obtain⟨v,z⟩:=I.cell x c e
  exact⟨v,cellK x c e v z⟩
 ·obtain⟨m,⟨o,_,_,ho,_⟩,_⟩:=I.loc
  exact free _ o (fun z=>(hch _ z).lo rfl) ho I.free
 ·obtain⟨v,o,ho,hd⟩:=I.cell x c e
  exact free c o (fun z=>(hch c z).ce x c e rfl) ho (I.freeC x c e)
 ·obtain⟨e,n,ne,nf,d⟩:=I.pin p hp
  have nch:p.1∉ch:=fun z=>(hch p.1 z).pn p hp rfl;exact⟨keep p.1 p.2 ne nf nch e n,free p.1 p.2 nch e n,ne,nf,d⟩
theorem Inv.xkeep {fr:List Addr}{x:Addr}{T:Option Addr} (I:Inv X pins σ H s) (k:zc6 fr x T s.heap h') (hfr:∀b∈fr,b∈frs X.stack) (ox:Off X pins x) (hx:H x=none) (oT:∀a,T=some a->Off X pins a/\H a=none):Inv X pins σ H { s with heap:=h' }:=by
 have sl:∀b o,b∉(x::T.toList)->s.heap.get? b=some o->∃sl,h'.get? b=some { o with slots:=sl }:=fun b o hc e=>by
  by_cases hb:b∈fr
  ·exact k.2.1 b o e hb
  ·exact⟨o.slots,k.1 b o e (fun z=>hc (by simp[z])) (fun z=>hc (by simp[z])) hb⟩
 refine I.stepN (ch:=x::T.toList) (fun b hb=>?_) (fun b o hL hb hc e _=>?_) (fun b o _ _ hc e _=>sl b o hc e) (fun _ _ _ _ n=>n) (fun b o hc e=>?_) (fun _ _ e=>e) (fun _ _ _ e=>e) (fun b ps e=>⟨#[],by rw[e]; simp⟩) (fun m hm=>?_) (zjD I.hok k hx (fun a e=>(oT a e).2) fun b hb=>I.stkFree b (hfr b hb))
 ·rcases List.mem_cons.mp hb with z | z
  ·rw[z]; exact ox
  ·exact (oT b (by simpa using z)).1
 ·exact k.1 b o e (fun z=>hc (by simp[z])) (fun z=>hc (by simp[z])) fun z=>(List.mem_cons.mp (I.stkSub b (hfr b z))).elim hL hb
 ·obtain⟨z,e⟩:=sl b o hc e
  exact⟨_,e⟩
 ·obtain⟨o,es,ep,ho,r⟩:=hm
  obtain⟨z,e⟩:=sl _ o (fun z=>by
   rcases List.mem_cons.mp z with z | z
   ·exact ox.lo z.symm
   ·exact (oT _ (by simpa using z)).1.lo rfl) ho
  exact⟨_,es,ep,e,r⟩
abbrev excO (x C:Addr):HO:=.ext fun h=>∃o,PySem.W.InstAt h x o C none
theorem Inv.know {x C:Addr}{T:Option Addr} (I:Inv X pins σ H s) (hx:H x=none) (ox:Off X pins x) (e:Xc s.heap x (.ref C) T):Inv X pins σ (upd H x (excO x C)) s:=by
 obtain⟨oe,vs,he,hc,hdn,hda,_⟩:=e;have hno:PySem.W.notCls oe=true:=by unfold PySem.W.notCls; rw[hda]
 have hdc:match oe.dict,(none:Option Obj) with | some dx,some o=>s.heap.get? dx=some o | none,none=>True | _,_=>False:=by rw[hdn]; trivial
 have ne:∀b u,H b=some u->b≠x:=fun b u e z=>by rw[z,hx] at e; cases e
 refine I.stepN (h':=s.heap) (ch:=[x]) (fun b hb=>?_) (fun b o _ _ _ e _=>e) (fun b o _ _ _ e _=>⟨o.slots,e⟩) (fun b o hc _ n=>?_) (fun b o _ e=>⟨o,e⟩) (fun b xs e=>?_) (fun b o u e=>?_) (fun b ps e=>⟨#[],?_⟩) (fun m hm=>hm) (fun b u e=>?_)
 ·obtain rfl:b=x:=by simpa using hb
  exact ox
 ·rw[zk (fun z=>hc (by simp[z]))]; exact n
 ·rw[zk (ne b _ e)]; exact e
 ·rw[zk (ne b _ e)]; exact e
 ·rw[zk (ne b _ e),e]; simp
 ·by_cases hb:b=x
  ·subst hb
   rw[upd_same] at e; cases e;refine⟨⟨oe,he,hc,hno,hdc⟩,⟨oe,he⟩,fun h1 h2 ⟨o,e1,e2,e3,e4⟩ q=>⟨o,q o e1,e2,e3,?_⟩⟩;cases z:o.dict with
   | none=>trivial
   | some dx=>rw[z] at e4; exact e4.elim
  ·rw[zk hb] at e
   refine (I.hok b u e).stay (fun c v _ q=>q) (fun c q=>?_) fun c xs q=>?_
   ·rw[zk (ne c _ q)]; exact q
   ·rw[zk (ne c _ q)]; exact q
end
end L2
end
section
namespace L2
open PySem PySem.Spec PyProof.Rows
section
variable {X:Cx}{pins pins':List (Addr×Obj)}{σ:List (Option V)}{H H':Hp}{s:Shared}{h':Heap}{EB:XK}
def XeT (X:Cx) (pins:List (Addr×Obj)) (EB:XK):Value->Shared->Prop:=fun e s=>∃(x C:Addr) (T:Option Addr) (σ:St) (H:Hp),e=.ref x/\Inv X pins σ H s/\Xc s.heap x (.ref C) T/\H x=none/\Off X pins x/\(∀a,T=some a->Off X pins a/\H a=none)/\EB (.ref x) (some C) H
abbrev XB (X:Cx) (pins:List (Addr×Obj)) (EB:XK):Cx:={ X with pn:=X.pn++pins,xe:=XeT X pins EB }
abbrev XH (X:Cx) (pins:List (Addr×Obj)) (x:Addr):Cx:={ X with A:=X.A.mark (some (.ref x)),calm:=false,pn:=X.pn++pins,xe:=fun _ _=>False }
theorem Inv.toB (I:Inv X pins σ H s):Inv (XB X pins EB) [] σ H s:=
 ⟨⟨I.ok.mod,I.ok.kind,I.ok.glob,I.ok.blt,I.ok.above,I.ok.inj,I.ok.has,I.ok.cab,I.ok.hd,I.ok.frames,I.ok.stk,I.ok.exf,I.ok.bs,I.ok.bsz,I.ok.noex,I.ok.exfs,I.ok.funs,I.ok.frf⟩,I.os,I.bare,I.base,I.loc,I.cell,I.free,I.freeC,
  fun p hp=>I.pin p (by simpa using hp),I.hok,I.len⟩
theorem Inv.ofB (I:Inv (XB X pins EB) pins' σ H s):Inv X pins σ H s:=
 ⟨⟨I.ok.mod,I.ok.kind,I.ok.glob,I.ok.blt,I.ok.above,I.ok.inj,I.ok.has,I.ok.cab,I.ok.hd,I.ok.frames,I.ok.stk,I.ok.exf,I.ok.bs,I.ok.bsz,I.ok.noex,I.ok.exfs,I.ok.funs,I.ok.frf⟩,I.os,I.bare,I.base,I.loc,I.cell,I.free,I.freeC,
  fun p hp=>I.pin p (List.mem_append_left _ hp),I.hok,I.len⟩
theorem Inv.toH {x:Addr} (I:Inv X pins σ H s):Inv (XH X pins x) [] σ H s:=
 ⟨⟨I.ok.mod,I.ok.kind,I.ok.glob,I.ok.blt,I.ok.above,I.ok.inj,I.ok.has,I.ok.cab,(fun z=>nomatch z),I.ok.frames,I.ok.stk,I.ok.exf,I.ok.bs,I.ok.bsz,I.ok.noex,I.ok.exfs,I.ok.funs,I.ok.frf⟩,I.os,I.bare,I.base,I.loc,I.cell,I.free,I.freeC,
  fun p hp=>I.pin p (by simpa using hp),I.hok,I.len⟩
theorem Inv.ofH {x:Addr} (I:Inv (XH X pins x) pins' σ H s) (hd:X.calm=true->X.A.handled=none):Inv X pins σ H s:=
 ⟨⟨I.ok.mod,I.ok.kind,I.ok.glob,I.ok.blt,I.ok.above,I.ok.inj,I.ok.has,I.ok.cab,hd,I.ok.frames,I.ok.stk,I.ok.exf,I.ok.bs,I.ok.bsz,I.ok.noex,I.ok.exfs,I.ok.funs,I.ok.frf⟩,I.os,I.bare,I.base,I.loc,I.cell,I.free,I.freeC,
  fun p hp=>I.pin p (List.mem_append_left _ hp),I.hok,I.len⟩
theorem SP.ofB {D:Ends}{f:Flow}{s':Shared} (h:SP (XB X pins EB) [] D f s'):SP X pins D f s':=by
 cases f with
 | next=>obtain⟨σ',H',I,q⟩:=h; exact⟨σ',H',I.ofB,q⟩
 | brk=>obtain⟨σ',H',I,q⟩:=h; exact⟨σ',H',I.ofB,q⟩
 | cont=>obtain⟨σ',H',I,q⟩:=h; exact⟨σ',H',I.ofB,q⟩
 | ret u=>obtain⟨v,σ',H',I,r,q⟩:=h; exact⟨v,σ',H',I.ofB,r,q⟩
theorem zmR (hex:X.ex=[]):Passes (CX1 X.prog X.w) (XB X pins EB) EB:=by
 rintro pins' σ H1 s1 e s2 I ⟨x,C,T,H',rfl,os,bare,un,hok,hx0,hxs,hT,hx,hE⟩;have I2:Inv (XB X pins EB) pins' σ H' s2:=I.call' (ch:=[]) os un hok bare (fun b z=>absurd z (by simp));have J:Inv X pins σ H1 s1:=I.ofB;exact⟨x,C,T,σ,H',rfl,I2.ofB,hx,hx0,J.off hex hxs,fun a e=>⟨J.off hex (hT a e).2,(hT a e).1⟩,hE⟩
theorem Inv.gone {i:Nat}{n:Str}{m:Str->Option Value}{u:Option Value} (I:Inv X pins σ H s) (hN:X.N.Nodup) (hi:X.N[i]?=some n)
  (hl:∀(i:Nat) (x:Str) (v:V),X.N[i]?=some x->σ[i]?=some (some v)->Vis X.env.scope x->∃u,RelV v u/\Look X.env s.heap m x u)
  (hn:h'.Ns X.env.locals fun y=>if y=n then u else m y) (hs:A2 X.env.locals s.heap h'):Inv X pins (σ.set i none) H { s with heap:=h' }:=by
 have hiσ:i<σ.length:=by rw[I.len]; exact (List.getElem?_eq_some_iff.mp hi).1
 refine⟨I.ok,I.os,I.bare,⟨fun b o e n hb hx=>?_,fun b o e n hb hx=>?_,I.base.free,fun b o e hx=>?_,I.base.tups,I.base.frzs,I.base.tbls⟩,⟨_,hn,fun j y v' e1 e2 e3=>?_⟩,fun y c e=>?_,I.free,I.freeC,fun p hp=>?_,fun b ob e=>?_,by simpa using I.len⟩
 ·exact (hs.2 b (An (AD (Ah e) I.ok.above))).trans (I.base.keep b o e n hb hx)
 ·obtain⟨sl,e1⟩:=I.base.slot b o e n hb hx
  exact⟨sl,(hs.2 b (An (AD (Ah e) I.ok.above))).trans e1⟩
 ·obtain⟨o',e1⟩:=I.base.there b o e hx
  exact⟨o',(hs.2 b (An (AD (Ah e) I.ok.above))).trans e1⟩
 ·by_cases hj:j=i
  ·subst hj
   rw[List.getElem?_set_self hiσ] at e2;cases e2
  ·rw[List.getElem?_set_ne (Ne.symm hj)] at e2
   obtain⟨u',r',q⟩:=hl j y v' e1 e2 e3;refine⟨u',r',?_⟩;rcases q with ⟨k,e⟩ | ⟨k,c,e,z⟩
   ·refine .inl ⟨k,?_⟩
    have:y≠n:=fun e=>hj (zdh hN e1 (e ▸ hi));simp[this,e]
   ·exact .inr ⟨k,c,e,z.sameBut hs (I.cne y c e)⟩
 ·obtain⟨w',z⟩:=I.cell y c e
  exact⟨w',z.sameBut hs (I.cne y c e)⟩
 ·obtain⟨e,n,ne,nf,d⟩:=I.pin p hp
  exact⟨(hs.2 p.1 ne).trans e,n,ne,nf,d⟩
 ·refine (I.hok b ob e).stay (fun c w' hc q=>(hs.2 c ?_).trans q) (fun _ q=>q) fun _ _ q=>q
  rintro rfl;rcases hc with z | z
  ·rw[<- z,I.free] at e; cases e
  ·rw[I.free] at z; cases z
def SubX (K:Ae) (C S:Addr):Prop:=∀h:Heap,K.In h->∃nm q N bs bm hdct sn sub ab col dd k0 k1 k2 k3 k5 newId nm' q' N' bs' bm' hdct' sn' sub' ab' col' dd' k0' k1' k2' k3' k5' newId',
 h.get? C=some (excClassObj nm q C N bs bm hdct sn sub ab col dd k0 k1 k2 k3 k5 newId)/\h.get? S=some (excClassObj nm' q' S N' bs' bm' hdct' sn' sub' ab' col' dd' k0' k1' k2' k3' k5' newId')/\
 bm'.contains (.type "BaseException")=true/\(Value.ref C::bm).contains (.ref S)=true
def EBof (K:Ae) (n ie:Nat) (S:Addr) (tH:TS) (D:Ends):XK:=fun e c H'=>∃x C,e=.ref x/\c=some C/\SubX K C S/\∀σ':St,σ'.length=n->
 tH { nx:=fun σ2 H2=>D.nx (σ2.set ie none) H2,rt:=fun _ _=>False } (σ'.set ie (some (.ref x))) (upd H' x (excO x C))
def tTry (K:Ae) (n ie:Nat) (S:Addr) (t:XK->TS) (tH:TS):TS:=fun D σ H=>t (EBof K n ie S tH D) D σ H
theorem zjN {n:Str}{ie:Nat}{xS:Str}{S:Addr}{body suite:List Stmt}{b₀:Stmt}{t:XK->TS}{tH:TS}{np hpos pos:Pos} (hex:X.ex=[]) (hN:X.N.Nodup) (hie:X.N[ie]?=some n) (hlo:X.env.scope.names.lookup n=some .local)
  (hst:X.stack=X.env::X.outer) (hfr:X.env.frame=some X.env.locals) (hgS:Gl X xS) (hmS:X.mg xS=some (.ref S))
  (hb:∀pins EB,PSs (XB X pins EB) body (t EB)) (hH:∀pins x,PSs (XH X pins x) (b₀::suite) tH) (hd:(xS == ("__debug__":Str))=false:=by decide) :
  PS X (.Try body [.ExceptHandler (some (.Name xS np)) (some n) (b₀::suite) hpos] [] [] pos) (tTry X.K X.N.length ie S t tH):=by
 intro pins s σ H D I h;refine wpAny_Try_except (Ba (hb pins _ [] s σ H D I.toB h) (fun f s1 q=>?_) (fun e s1 q=>?_))
 ·have q':SP X pins D f s1:=q.ofB
  cases f with
  | next=>exact wpAny_execs_nil q'
  | brk=>exact q'
  | cont=>exact q'
  | ret u=>exact q'
 obtain⟨x,C,T,σ1,H1,rfl,I1,hx,hx0,ox,hT,x',C',e1,e2,sub,k⟩:=q;cases e1;cases e2;have hstk:=hst;refine zk5 (base:=X.base) (outer:=X.outer) (L:=X.env.locals) (by rw[<- hst]; exact I1.ok.frames) (by rw[<- hst]; exact I1.stack) hfr hx fun h2 T2 hT2 hx2 hk2=>?_;have I2:Inv X pins σ1 H1 { s1 with heap:=h2 }:=I1.xkeep hk2 (fun b z=>by rw[hst]; exact z) ox hx0 hT;have nT2:s1.heap.get? T2=none:=Heap.get?_none_of_le hT2;have oT2:Off X pins T2:=I1.off hex nT2;have fT2:H1 T2=none:=I1.hok.fresh hT2;refine wpAny_handleBy_cons (codeAny_handlers_test ?_) (by intro q; cases q);refine zcv (X:=XH X pins x) (I2.toH (x:=x)) hgS hmS ?_ hd;obtain⟨nm,q,N,bs,bm,hdct,sn,sub',ab,col,dd,k0,k1,k2,k3,k5,newId,nm',q',N',bs',bm',hdct',sn',sub'',ab',col',dd',k0',k1',k2',k3',k5',newId',hC,hS,hbm,hsub⟩:=sub h2 I2.kIn;obtain⟨oe,vs,hoe,hcl,_⟩:=id hx2;refine zgo hC hS hoe hcl hbm hsub ?_;show codeAny _ _ _ _ _;refine codeAny_handlers_suite_as ?_;refine zgF hx2 fun h4 hx4 hk4=>?_;have I4:Inv X pins σ1 H1 { s1 with heap:=h4 }:=I2.xkeep (h':=h4) hk4 (fun b z=>absurd z (by simp)) ox hx0 (fun a e=>by cases e; exact⟨oT2,fT2⟩);have I5:Inv X pins σ1 (upd H1 x (excO x C)) { s1 with heap:=h4 }:=I4.know hx0 ox hx4;refine zcm (X:=XH X pins x) (I5.toH (x:=x)) hN hie (.inl hlo) (v:=.ref x) rfl (fun s6 I6=>?_) (.inr hlo);refine Ba (hH pins x [] s6 _ _ _ I6 (k σ1 I1.len)) (fun f s7 q7=>?_) fun _ _ z=>z.elim;cases f with
 | brk=>obtain⟨_,_,_,z⟩:=q7; exact z.elim
 | cont=>obtain⟨_,_,_,z⟩:=q7; exact z.elim
 | ret u=>obtain⟨_,_,_,_,_,z⟩:=q7; exact z.elim
 | next=>
  obtain⟨σ7,H7,I7,d7⟩:=q7;have I7':Inv X pins σ7 H7 s7:=I7.ofH I.ok.hd;show wpAny _ _ (do bindName X.env n .none; unbindBehindTheSuite X.env n hpos) _ _ s7;refine Aa (wpAny_bindName (zcm I7' hN hie (.inl hlo) (v:=.non) rfl (fun s8 I8=>?_) (.inr hlo)));obtain⟨m,hn,hl⟩:=id I8.loc;have hie8:ie<σ7.length:=by rw[I7'.len]; exact (List.getElem?_eq_some_iff.mp hie).1
  obtain⟨u,_,lk⟩:=hl ie n .non hie (by rw[List.getElem?_set_self hie8]) (.inl hlo);have kn:X.env.kindOf n=some .local:=hlo;have hm:m n=some u:=by
   rcases lk with ⟨_,e⟩ | ⟨z,_⟩
   ·exact e
   ·rw[kn] at z; rcases z with z | z <;> cases z
  unfold unbindBehindTheSuite;refine wpAny_onRaise (wpAny_unbindName_local kn hn hm (by rw[I.ok.kind]; rfl) fun h9 u9 hn9 hs9=>?_);have I9:=I8.gone hN hie hl hn9 hs9;rw[List.set_set] at I9;exact⟨_,H7,I9,d7⟩
end
end L2
end
section
namespace L2
open PySem PySem.Spec PyProof.Rows
theorem zeo {K:Ae}{C:Addr}{name:Str}{a g:Value} (hc:(PySem.W.clsIn K C).isSome=true) (ha:PySem.W.findIn K (.ref C) name=some (some a)) (hg:PySem.W.specialIn K a "__get__"=some (some g)) (ht:PySem.W.takesIn K a=some true):PySem.W.findObj K C none name=some (.bind g a):=by
 obtain⟨cd,hc⟩:=Option.isSome_iff_exists.mp hc;unfold PySem.W.findObj;rw[hc,Option.bind_some,ha,Option.bind_some];simp[hg,ht]
structure XCls (K:Ae) (D:Addr):Prop where
 ga:PySem.W.findIn K (.ref D) "__getattribute__"=some (some (.builtin "BaseException.__getattribute__"))
 gt:PySem.W.findIn K (.ref D) "__getattr__"=some none
 cls:(PySem.W.clsIn K D).isSome=true
 find:PySem.W.findIn K (.ref D) "__class__"=some (some (.builtin "object.__class__"))
 spec:PySem.W.specialIn K (.builtin "object.__class__") "__get__"=some (some (.builtin "getset_descriptor.__get__"))
 tk:PySem.W.takesIn K (.builtin "object.__class__")=some true
 mro:PySem.W.mroIn K D (.type "object")=some true
 mroB:PySem.W.mroIn K D (.type "BaseException")=some true
section
variable {prog:Program}{w:World}{A:Around}{E:Value->Shared->Prop}{s:Shared}{K:Ae}{x D:Addr}{ox:Obj}
theorem zjy {M:Model}{nameV:Value}{Q:Unit->Shared->Prop} (c:XCls K D) (X:K.In s.heap) (I:PySem.W.InstAt s.heap x ox D none) (hq:Q () s):wpAny M A (checkBuiltinCall "BaseException.__getattribute__" ⟨[.ref x,nameV],[]⟩) Q E s:=by
 obtain⟨hh,g,d,t,os⟩:=s;have hk:builtinKind "BaseException.__getattribute__"=some .slot:=by decide +kernel
 have hsplit:splitId "BaseException.__getattribute__"=some ("BaseException","__getattribute__"):=by decide +kernel
 have ha:=F.args_bexc_ga (.ref x) nameV;have L0:=I.type (M:=M);have L1:=PySem.W.looks_mroIn (M:=M) X c.mroB;simp only[checkBuiltinCall,hk,hsplit];refine Aa ?_;unfold isInstance;refine Aa (L0.at (L1.at ?_))
 repeat (first | assumption | wp_step)
theorem zin {tk:Tok}{Q:Fin->Shared->Prop} (c:XCls K D) (X:K.In s.heap) (I:PySem.W.InstAt s.heap x ox D none) (hq:Q (.done (.ret (.ref D))) s) :
  wpAny (model prog w) A (Builtin.«object.__getattribute__» ⟨[.ref x,.str "__class__" tk],[]⟩) Q E s:=by
 obtain⟨hh,g,d,t,os⟩:=s;have hf:=zeo c.cls c.find c.spec c.tk;have L0:=I.type (M:=model prog w);have L1:=PySem.W.looks_find (M:=model prog w) X I hf;unfold Builtin.«object.__getattribute__»
 repeat (first | with_reducible refine Aa (L0.at ?_) | with_reducible refine Aa (L1.at ?_) | wp_step)
 exact PySem.W.class_get (s:=⟨hh,g,d,t,os⟩) X I c.mro (Ac hq)
theorem ziD {Q:Option Value->Shared->Prop} (c:XCls K D) (X:K.In s.heap) (I:PySem.W.InstAt s.heap x ox D none) (h:Q (some (.ref D)) { s with toks:=s.toks+1 }):wpAny (model prog w) A (getAttr? (.ref x) "__class__") Q E s:=by
 obtain⟨hh,g,d,t,os⟩:=s;have L0:=I.type (M:=model prog w);have L1:=PySem.W.looks_findIn (M:=model prog w) X c.ga;have L2:=PySem.W.looks_findIn (M:=model prog w) X c.gt;have FA:=F.excAttr_ValueError;have f3:=FA.ga.bind (.ref x);have hx2:(Value.builtin "BaseException.__getattribute__" == Value.builtin "object.__getattribute__")=false:=by decide +kernel
 unfold getAttr? getAttrBy? getAttrBy;refine Aa (wpAny_mkText (Aa (wpAny_attempt (AJ (Aa (L0.at (Aa (L1.at ?_))))))));dsimp only;rw[if_neg (by rw[hx2,Bool.and_false]; decide)];unfold getAttrByItsOwn hookBefore;rw[if_pos (show onTheHeap (.ref D)=true from rfl)];refine Aa (L2.at ?_);refine Aa (wpAny_attempt (AJ ?_));unfold callGetattribute boundAndCalled;rw[Bool.false_and,if_neg Au,f3];refine Aa (Ac ?_);refine wpAny_call (codeAny_call_builtin FA.ga.plain F.entry_bexc_ga (zjy (s:=⟨hh,g,d,t+1,os⟩) c X I (zin (s:=⟨hh,g,d,t+1,os⟩) c X I ?_)));exact PySem.W.handed_on rfl (Ac h)
end
theorem ziM {K:Ae}{x D:Addr}{ox:Obj} (c:XCls K D):PySem.W.KitX K (.ref x) (.ref D) (fun h=>PySem.W.InstAt h x ox D none) where
 ty:=fun _ _ _ I=>I.type
 it:=fun _ _ X _=>by
  obtain⟨cdD,hcD⟩:=Option.isSome_iff_exists.mp c.cls;unfold PySem.W.clsIn at hcD;split at hcD
  ·rename_i c' d' cd' sl' ho
   intro A' Q' E' s' k q;unfold isType loadHead;exact Aa (wpAny_loadPart (k _ _ (X _ _ ho)) (Ac q))
  ·cases hcD
 ne:=fun h tp dd its n sl X htp=>by
  obtain⟨cdD,hcD⟩:=Option.isSome_iff_exists.mp c.cls;refine Bool.eq_false_iff.mpr fun q=>?_;have e:D=tp:=Value.ref.inj (beq_iff_eq.mp q);subst e;unfold PySem.W.clsIn at hcD;split at hcD
  ·rename_i c' d' cd' sl' ho
   have z:=(X _ _ ho).symm.trans htp;cases z
  ·cases hcD
 ca:=fun X I k=>ziD c X I k
section
variable {X:Cx}
theorem zc9 {c:V}{cv:Value}{b:Bool}{C:Addr} (rc:∀u,RelV c u->u=cv) (xc:XCls X.K C) (e:AM X.K (.ref C) cv=some b) :
  zat X (.builtin "isinstance") (fun xs H Q=>∃x,xs=[.ref x,c]/\H x=some (excO x C)/\Q (.bl b) H):=by
 intro pins s σ H xs us Q I r h;obtain⟨x,rfl,hx,q⟩:=h;obtain⟨u,u',rfl,ru,ru'⟩:=vals2 r;obtain rfl:=rc _ ru';cases (show u=Value.ref x from ru);obtain⟨⟨o,p⟩,_⟩:=(show zF X.prog X.w H s.heap x (excO x C) from I.hok x _ hx);exact PySem.W.kia_one (ziM xc) I.kIn p e (fun z=>nomatch z) fun tk=>⟨.bl b,H,I.tok _,rfl,q⟩
end
structure zcd (k:Nat) (A:Around):Prop where
 dp:A.depth+3*k+5<recursionLimit
 un:A.units+16*k+200<cLine
theorem Room.mark {k:Nat}{A:Around} (r:Room k A) (v:Option Value):zcd k (A.mark v):=⟨r.dp,r.un⟩
theorem zcd.deeper {k:Nat}{A:Around} (r:zcd (k+1) A) (env:Env):zcd k (A.deeper env):=
 ⟨by have:=r.dp; show A.depth+1+3*k+5<_; omega,by have:=r.un; show A.units+3+16*k+200<_; omega⟩
theorem zcd.depth {k:Nat}{A:Around} (r:zcd k A):A.depth<recursionLimit:=by have:=r.dp; omega
theorem zcd.units {k:Nat}{A:Around} (r:zcd k A):A.units+64<cLine:=by have:=r.un; omega
structure zhA (P:Program) (w:World) (K:Ae) (mg:Str->Option Value) (base:Heap) (k:Nat) (f:Addr) (fd:FuncData) (ps:List Str) (sp:Sp):Prop where
 len:∀vs H Q E,sp vs H Q E->vs.length=ps.length
 run:∀(A:Around) (outer:List Env) (s:Shared) (H:Hp) (args:Args) (us:List Value) (vs:List V) (Q:VK) (E:XK),zcd k A->Env0 P w K mg base A outer s H->BindsTo s fd args (ps.zip us)->Vals vs us->sp vs H Q E->
  codeAny (model P w) A (.call (.ref f) args) (CR CX0 outer P w H s Q E) s
abbrev cxN (P:Program) (w:World) (K:Ae) (mg:Str->Option Value) (base:Heap) (N:List Str) (qual:Str) (scope:Scope) (f:Addr) (cd:Value) (A:Around) (outer:List Env) (s:Shared) (H:Hp) (E:XK):Cx:=
 { cxOf CX0 P w K mg base N qual scope f cd A outer s H E with calm:=false,xe:=fun _ _=>False }
theorem zf7 {P:Program}{w:World}{K:Ae}{mg:Str->Option Value}{base:Heap}{N ps:List Str}{qual:Str}{scope:Scope}{f:Addr}{cd:Value}{A:Around}{outer:List Env}{s s1:Shared}{H:Hp}{E:XK}{us:List Value}{vs:List V}
  (S:zp N ps scope) (e0:Env0 P w K mg base A outer s H) (hl:vs.length=ps.length) (r:Vals vs us)
  (x:InCallC s s.heap.objs.size (bindL (envOfC qual scope s.heap.objs.size f cd).kindOf (ps.zip us) fun _=>none) (Bg (s.heap.objs.size+1) scope.names []) (bindC (envOfC qual scope s.heap.objs.size f cd).kindOf (ps.zip us) fun _=>none) s1) :
  Inv (cxN P w K mg base N qual scope f cd A outer s H E) [] (start N vs) H s1:=by
 have I:Inv (cxOf CX0 P w K mg base N qual scope f cd { A with handled:=none } outer s H E) [] (start N vs) H s1:=zeh (A:={ A with handled:=none }) S rfl ⟨e0.frames,e0.mod,e0.bs,e0.bsz,e0.funs,e0.frf,e0.hok,e0.bare⟩ hl r x;exact⟨⟨I.ok.mod,I.ok.kind,I.ok.glob,I.ok.blt,I.ok.above,I.ok.inj,I.ok.has,I.ok.cab,(fun z=>nomatch z),Around.frames_deeper e0.frames,I.ok.stk,I.ok.exf,I.ok.bs,I.ok.bsz,I.ok.noex,I.ok.exfs,I.ok.funs,I.ok.frf⟩,I.os,I.bare,I.base,I.loc,I.cell,I.free,I.freeC,I.pin,I.hok,I.len⟩
theorem zl8 {P:Program}{w:World}{K:Ae}{mg:Str->Option Value}{base:Heap}{k:Nat}{f:Addr}{name qual:Str}{params:Arguments}{body:List Stmt}{scope:Scope}{dV kV doc pm cdv ct oc:Value}{an od:Option Addr}
  {osl:Array (Option Value)} {N ps:List Str} {sp:Sp} (lk:K.lookup f=some ⟨oc,od,.func (AE name qual params body scope dV kV doc pm an cdv ct),osl⟩) (hcd:AC K cdv qual=true) (S:zp N ps scope)
  (len:∀vs H Q E,sp vs H Q E->vs.length=ps.length)
  (hbody:∀(A:Around) (outer:List Env) (s:Shared) (H:Hp) (vs:List V) (Q:VK) (E:XK),zcd k (A.deeper (envOfC qual scope s.heap.objs.size f cdv))->sp vs H Q E->
   ∃t,PSs (cxN P w K mg base N qual scope f cdv A outer s H E) body t/\t { nx:=fun _ H'=>Q .non H',rt:=Q } (start N vs) H) :
  zhA P w K mg base (k+1) f (AE name qual params body scope dV kV doc pm an cdv ct) ps sp:=by
 refine⟨len,fun A outer s H args us vs Q E hr e0 hb r hsp=>?_⟩;have hl:=len _ _ _ _ hsp;have KX:K.In s.heap:=e0.mod.kin.keeps fun b o e=>(e0.bs b o e).1;have lim:s.heap.NoLimit:=e0.mod.nolimit.keeps fun b o e=>(e0.bs b o e).1;have hkind:∀y∈ps.zip us,scope.names.lookup y.1=some .local \/ (scope.names.lookup y.1=some .cell/\((Bg (s.heap.objs.size+1) scope.names []).lookup y.1).isSome=true):=fun ⟨n,v⟩ hy=>by
  rcases S.par n (List.of_mem_zip hy).1 with q | q
  ·exact .inl q
  ·exact .inr ⟨q,PySem.W.cellsFrom_some _ _ _ (.inl q)⟩
 refine codeAny_call_function hr.depth (KX _ _ lk) rfl S.co S.gen rfl (PySem.W.codeRec_of KX hcd) (hb _ _ _ _ ?_);refine wpAny_newFunctionEnv_cells S.kind hkind fun env he s1 x=>?_;subst he;refine⟨lim.keeps x.toInCall.keep,codeAny_func ?_⟩;obtain⟨t,ht,hq⟩:=hbody A outer s H vs Q E (hr.deeper _) hsp;have I:Inv (cxN P w K mg base N qual scope f cdv A outer s H E) [] (start N vs) H s1:=zf7 S e0 hl r x;refine Ba (ht [] s1 (start N vs) H _ I hq) (fun fl s' hs=>?_) fun e s' hs=>hs.elim;have fin:∀{σ':St} {H':Hp} {v:V} {u:Value},Inv (cxN P w K mg base N qual scope f cdv A outer s H E) [] σ' H' s'->RelV v u->Q v H'->CE outer P w H s Q u s':=
  fun {σ' H' v u} J rv q=>⟨v,H',J.os,J.bare,J.base,J.hok,rv,q⟩
 cases fl with
 | ret u=>
  obtain⟨v,σ',H',J,rv,q⟩:=hs;exact fin J rv q
 | next=>
  obtain⟨σ',H',J,q⟩:=hs;exact fin (v:=V.non) (u:=Value.none) J rfl q
 | brk=>
  obtain⟨_,_,_,q⟩:=hs;exact False.elim q
 | cont=>
  obtain⟨_,_,_,q⟩:=hs;exact False.elim q
theorem Fun.okN {P:Program}{w:World}{K:Ae}{mg:Str->Option Value}{base:Heap}{x qual:Str}{st:Stmt}{f:Addr}{fd:FuncData}{N ps:List Str}{k:Nat}{sp:Sp} (F:Fun K x qual st f fd) (S:zp N ps (za st)) (len:∀vs H Q E,sp vs H Q E->vs.length=ps.length)
  (hbody:∀(cdv:Value) (A:Around) (outer:List Env) (s:Shared) (H:Hp) (vs:List V) (Q:VK) (E:XK),zcd k (A.deeper (envOfC qual (za st) s.heap.objs.size f cdv))->sp vs H Q E->
   ∃t,PSs (cxN P w K mg base N qual (za st) f cdv A outer s H E) (zl st) t/\t { nx:=fun _ H'=>Q .non H',rt:=Q } (start N vs) H):zhA P w K mg base (k+1) f fd ps sp:=by
 obtain⟨oc,od,kV,doc,pm,an,cdv,ct,osl,rfl,lk,hcd⟩:=F.ex;exact zl8 lk hcd S len fun A outer s H vs Q E hr hsp=>hbody cdv A outer s H vs Q E hr hsp
section
variable {X:Cx}{k:Nat}{f:Addr}{fd:FuncData}{ps:List Str}{sp:Sp}{dvs:List V}{ds:List Value}{E:XK}{x:Str}{p pos:Pos}{e:Expr}{es:List Expr}{t:TA}
theorem zjv (F:zhA X.prog X.w X.K X.mg X.base k f fd ps sp) (hr:zcd k X.A) (hg:Gl X x) (hm:X.mg x=some (.ref f)) (hk:AA X.K (.ref f)=true) (hb:Binds X.K fd ps ds) (hd:Vals dvs ds)
  (ha:PA X (e::es) t) (hdb:(x == ("__debug__":Str))=false:=by decide) (he:starEach (e::es) X.env=(false,eval e X.env)::starEach es X.env:=by rfl) (hpl:(backTo pos (starEach es X.env)).any (·.1)=false:=by rfl) :
  PE X (.Call (.Name x p) (e::es) [] pos) (zlw sp dvs E t):=by
 intro pins s σ H Q I h;refine wpAny_Call_Name_kw (zcv I hg hm ?_ hdb);refine PySem.W.callWith_K (h₀:=X.base) I.ok.mod.kin hk (thn (ha pos pins s σ H _ I h) fun us s1 ⟨vs,H1,I1,r,q⟩=>⟨I1.kIn,?_⟩) he hpl;have r2:Vals (vs++dvs) (us++ds):=r.append hd;have hl:(us++ds).length=ps.length:=by rw[<- r2.length]; exact F.len _ _ _ _ q
 refine wpAny_call (codeAny_mono (F.run X.A X.stack s1 H1 ⟨us,[]⟩ (us++ds) (vs++dvs) Q E hr I1.env0 (hb s1 us I1.kIn hl) r2 q) fun r s' hq=>?_);cases r with
 | error e=>exact hq.elim
 | ok fl=>
  cases fl with
  | ret u=>exact I1.after hq
  | next=>exact False.elim hq
  | brk=>exact False.elim hq
  | cont=>exact False.elim hq
end
end L2
end
section
namespace L2
open PySem PySem.Spec PyProof.Rows
section
variable {X:Cx}
abbrev zk7:V->List V->Hp->VK->Prop:=fun x vs H Q=>∃(l:Addr) (ys:List V) (y:V),x=.ref l/\vs=[y]/\H l=some (.lst ys)/\ys.all zbD=true/\zbD y=true/\Q (.int (ys.countP fun z=>eqV z y)) H
abbrev zlx:V->List V->Hp->VK->Prop:=fun x vs H Q=>∃(l:Addr) (ys:List V) (y:V) (j:Nat),x=.ref l/\vs=[y]/\H l=some (.lst ys)/\ys.all zbD=true/\zbD y=true/\j<1000/\((ys[j]?).map fun z=>eqV z y)=some true/\(∀m,m<j->((ys[m]?).map fun z=>eqV z y)=some false)/\Q (.int j) H
theorem zg2 {x:V}{xs:List V}{us:List Value} (h:Vals xs us) (f:xs.all zbD=true):us.countP (eqU x)=xs.countP fun y=>eqV y x:=by
 induction h with
 | nil=>rfl
 | cons r t ih=>
  rw[List.all_cons,AN] at f;rw[List.countP_cons,List.countP_cons,zfz r f.1,ih f.2]
theorem zjL {x:V}{xs:List V}{us:List Value} (h:Vals xs us) (f:xs.all zbD=true):∀m:Nat,(us[m]?).map (eqU x)=(xs[m]?).map fun y=>eqV y x:=by
 induction h with
 | nil=>intro m; simp
 | cons r t ih=>
  rw[List.all_cons,AN] at f;intro m;cases m with
  | zero=>simp[zfz r f.1]
  | succ m=>simpa using ih f.2 m
theorem zh3:MtM X "list.count" zk7:=by
 intro pins s σ H x vs v us Q I rx rv h;obtain⟨l,ys,y,rfl,rfl,hH,fl,fy,q⟩:=h;cases rx;obtain⟨u,rfl,ru⟩:=rv.one;obtain⟨z,its,c,r,hl,e⟩:=I.lstM hH;refine call_meets F.slot_list_count ⟨_,e,rfl⟩ F.entry_list_count (F.args_list_count_2 _ _) (SeqAt.list_countAt l its.toArray c none #[] u (eqU y)) ⟨e,fun y' hy=>?_,?_⟩
 ·exact zbU ru fy r fl y' (by simpa using hy)
 ·have ec:its.toArray.toList.countP (eqU y)=ys.countP fun z=>eqV z y:=zg2 r fl
  exact⟨.int (ys.countP fun z=>eqV z y),H,I.tok _,⟨_,by rw[<- ec]⟩,q⟩
theorem zg3:MtM X "list.index" zlx:=by
 intro pins s σ H x vs v us Q I rx rv h;obtain⟨l,ys,y,j,rfl,rfl,hH,fl,fy,hj,h1,h2,q⟩:=h;cases rx;obtain⟨u,rfl,ru⟩:=rv.one;obtain⟨z,its,c,r,hl,e⟩:=I.lstM hH;have g1:=(zjL (x:=y) r fl j).trans h1;have hjs:j<its.toArray.size:=by
  rcases Nat.lt_or_ge j its.length with q | q
  ·simpa using q
  ·rw[List.getElem?_eq_none q] at g1; cases g1
 have get:∀(m:Nat) (hm:m<its.toArray.size),(its[m]?).map (eqU y)=some (eqU y its.toArray[m]):=fun m hm=>by
  rw[Ag (by simpa using hm)]; rfl
 have hsm:(j:Int)<2 ^ 63 - 1:=by
  have h1:(j:Int)<1000:=by omega
  have h2:(1000:Int)<2 ^ 63 - 1:=by decide
  omega
 refine call_meets F.slot_list_index ⟨_,e,rfl⟩ F.entry_list_index (F.args_list_index_2 _ _) (SeqAt.list_indexAt l its.toArray c none #[] u (eqU y) j hjs hsm ?_ ?_) ⟨e,fun y' hy=>?_,?_⟩
 ·exact Ao ((get j hjs).symm.trans g1)
 ·intro m hm hmj
  exact Ao ((get m hm).symm.trans ((zjL (x:=y) r fl m).trans (h2 m hmj)))
 ·exact zbU ru fy r fl y' (by simpa using hy)
 ·exact⟨.int j,H,I.tok _,⟨_,rfl⟩,q⟩
end
end L2
end
section
namespace L2
open PySem PySem.Spec PyProof.Rows
theorem zkW {K:Ae}{C S:Addr} (q1:PySem.W.excIn K C bmV "ValueError.__new__"=true) (q2:PySem.W.excIn K S bmV "ValueError.__new__"=true) (m:PySem.W.mroIn K C (.ref S)=some true):SubX K C S:=by
 intro h X;obtain⟨bm,N,nm,qn,bs,hdct,sn,sub,ab,col,dd,k0,k1,k2,k3,k5,mN,_,hbm,hat⟩:=zeY X q1;obtain⟨bm',N',nm',qn',bs',hdct',sn',sub',ab',col',dd',k0',k1',k2',k3',k5',mN',_,hbm',hat'⟩:=zeY X q2;refine⟨nm,qn,N,bs,bm,hdct,sn,sub,ab,col,dd,k0,k1,k2,k3,k5,_,nm',qn',N',bs',bm',hdct',sn',sub',ab',col',dd',k0',k1',k2',k3',k5',_,(hat h X).1,(hat' h X).1,hbm' _ (by decide),?_⟩;have g:=(hat h X).1;unfold PySem.W.mroIn at m;obtain⟨cd,a,b⟩:=Option.bind_eq_some_iff.mp m;unfold PySem.W.clsIn at a;split at a
 ·rename_i c' d' cd' sl' ho
  cases a;have z:=(X _ _ ho).symm.trans g;injection z with z
  have zc:=congrArg Obj.data z;injection zc with zc
  subst zc;split at b
  ·cases b
  ·exact Ao b
 ·cases a
theorem zgt {K:Ae}{C:Addr}{bm:List Value}{n:String} (q:PySem.W.excIn K C bm n=true):(PySem.W.clsIn K C).isSome=true:=by
 unfold PySem.W.excIn at q;unfold PySem.W.clsIn;split at q
 ·rename_i ho; rw[ho]; rfl
 ·cases q
end L2
end
section
namespace K52
open K1
open PySem L2 STb
abbrev sIm:Stmt:=top 34
theorem zhI {ns:List (Int×Int)}{p:List Int}{x:Int}:x∈img ns p ↔ ∃y∈p,nv ns y=x:=by
 unfold img;rw[List.mem_mergeSort,zay,List.mem_map]
theorem zfQ (ns:List (Int×Int)) (p:List Int):Rise (img ns p):=by
 refine zlu ?_ ((List.mergeSort_perm _ _).nodup_iff.mpr (zas _));exact (List.pairwise_mergeSort (le:=fun a b:Int=>decide (a<=b)) (fun a b c h1 h2=>by simp at *; omega) (fun a b=>by simp; omega) _).imp fun h=>by simpa using h
theorem zkD {ns:List (Int×Int)}{p q:List Int} (h:∀x∈p,x∈q):(img ns p).Sublist (img ns q):=
 zaJ (img ns q) (img ns p) (zfQ ns q) (zfQ ns p) fun x hx=>by
  obtain⟨y,hy,e⟩:=zhI.mp hx;exact zhI.mpr ⟨y,h y hy,e⟩
theorem zk0 {ns:List (Int×Int)}{pss:List (List Int)} (h0:∀p∈pss,p≠[]):canon ((canon pss).map (img ns))=canon (pss.map (img ns)):=by
 refine ze3 fun x=>?_;constructor
 ·intro h
  obtain⟨i,hi,hx⟩:=List.mem_flatMap.mp h;obtain⟨q,hq,rfl⟩:=List.mem_map.mp hi;obtain⟨_,t,ht,hs⟩:=zbz.mp hq;refine List.mem_flatMap.mpr ⟨img ns t,List.mem_map.mpr ⟨t,ht,rfl⟩,zA.mpr ⟨(zA.mp hx).1,(zA.mp hx).2.trans (zkD fun y hy=>hs.subset hy)⟩⟩
 ·intro h
  obtain⟨i,hi,hx⟩:=List.mem_flatMap.mp h;obtain⟨t,ht,rfl⟩:=List.mem_map.mp hi;exact List.mem_flatMap.mpr ⟨img ns t,List.mem_map.mpr ⟨t,zbz.mpr ⟨h0 t ht,t,ht,List.Sublist.refl _⟩,rfl⟩,hx⟩
theorem zmv {ns:List (Int×Int)}{kn there:List (List Int)} (h:mapG ns kn there=true) {p:List Int} (hp:p∈kn):img ns p∈there:=by
 have:=(AN _ _ ▸ h:_/\_).2;exact of_decide_eq_true (List.all_eq_true.mp this p hp)
theorem zfC {ns:List (Int×Int)}{kn there:List (List Int)} (h:mapG ns kn there=true):zds ns kn=true:=(AN _ _ ▸ h:_/\_).1
theorem zhP {ns:List (Int×Int)}{pss qss X:List (List Int)} (hv:webS qss) (h:mapG ns (canon pss) (canon qss)=true) (hX:∀p∈X,p∈canon pss) :
  (∀q∈X.map (img ns),zY q=true)/\(canon (X.map (img ns))).length<64:=by
 have h1:∀q∈X.map (img ns),q∈canon qss:=fun q hq=>by
  obtain⟨p,hp,rfl⟩:=List.mem_map.mp hq;exact zmv h (hX p hp)
 refine⟨fun q hq=>zg5 hv.1 (h1 q hq),Nat.lt_of_le_of_lt (zdt fun x hx=>?_) hv.2⟩;obtain⟨n0,t,ht,hs⟩:=zbz.mp hx;obtain⟨_,u,hu,hs2⟩:=zbz.mp (h1 t ht);exact zbz.mpr ⟨n0,u,hu,hs.trans hs2⟩
section
variable {P:Program}{w:World}{K:Ae}{mg:Str->Option Value}{base:Heap}
theorem zif {H2:Hp}{KN D:Addr}{ks:List Addr}{ns:List (Int×Int)}{kn:List (List Int)}{te:TE}{σ0:List (Option V)}{Q:VK} (hk:SqL K H2 KN (ks.map V.ref)) (hks:Tps H2 ks kn) (hz:kn.length<=1000)
  (hte:∀(t:Addr) (p:List Int) (H3:Hp) (Q':VK),p∈kn->Tp H3 t p->Same H2 H3->(∀u H4,Same H3 H4->Tp H4 u (img ns p)->Q' (.ref u) H4)->te (some (.ref t)::σ0) H3 Q') (hD:H2 D=none)
  (k:∀(H3:Hp) (us:List Addr),Same H2 H3->H3 D=some (.lst (us.map V.ref))->Tps H3 us (kn.map (img ns))->Q (.ref D) H3):zaf (Itl K KN) (zai 0) tYes te (none::σ0) H2 D Q:=by
 have hla:=hks.length;refine zH (xs:=ks.map V.ref) (fun i σ ys H3=>∃(v:Option V) (us:List Addr),σ=v::σ0/\Same H2 H3/\H3 D=some (.lst ys)/\ys=us.map V.ref/\Tps H3 us ((kn.map (img ns)).take i))
  ⟨none,[],rfl,Same.new hD,upd_same,rfl,.nil⟩ (fun i σ ys H3 ⟨_,_,_,sm,_⟩=>sm.seq hk) ?_ ?_
 ·rintro i σ ys H3 z hx hi hy ⟨v,us,rfl,sm,hD3,rfl,hp3⟩
  obtain⟨t,et,rfl⟩:=zP hx;obtain⟨p,ep,hp⟩:=hks.get et;refine gyes ?_;refine hte t p H3 _ (Aq ep) (sm.tp hp) sm fun u H4 s4 hu4=>?_;have e:(kn.map (img ns))[i]?=some (img ns p):=by rw[Ap,ep]; rfl
  refine cput (by rw[Ab]; exact zd (by omega)) hi hy (s4 _ _ hD3) ⟨_,us++[u],rfl,(sm.trans s4).then hD,upd_same,by rw[Ak]; rfl,?_⟩;rw[AQ e];exact Tps.upd (Tps.append (s4.tps hp3) (.cons hu4 .nil)) (s4 _ _ hD3) (by intro xs z; cases z)
 ·rintro σ ys H3 ⟨v,us,rfl,sm,hD3,rfl,hp3⟩
  rw[Ay (by rw[Ab,Ab]; omega)] at hp3;exact k H3 us sm hD3 hp3
def spIm (K:Ae):Sp:=fun vs H Q _=>∃l o m as bs pss qss ns,vs=[.ref l,.ref o,.ref m]/\WM K H l o m as bs pss qss ns/\mapG ns (canon pss) (canon qss)=true/\
 ∀D H2 us,Same H H2->H D=none->H2 D=some (.lst (us.map V.ref))->Tps H2 us (tops (canon (pss.map (img ns))))->Q (.ref D) H2
theorem scIm:zp ["web","other","names"] ["web","other","names"] (za sIm):=⟨rfl,rfl,rfl,by decide +kernel,rfl,by decide +kernel,by decide +kernel⟩
theorem zm1 {f fm fi fa ft:Addr}{fd fdm fdi fda fdt:FuncData} (F:Fun K "image" "image" sIm f fd)
  (Fm:Fun K "must_be_map" "must_be_map" zbK fm fdm) (bm:Binds K fdm ["web","other","names"] []) (mm:mg "must_be_map"=some (.ref fm)) (Gm:FnOk P w K mg base CX0 10 fm fdm ["web","other","names"] (zgR K))
  (Fi:Fun K "image_of" "image_of" zb8 fi fdi) (bi:Binds K fdi ["names","piece"] []) (mi:mg "image_of"=some (.ref fi)) (Gi:FnOk P w K mg base CX0 2 fi fdi ["names","piece"] ze7)
  (Fa:Fun K "all_parts" "all_parts" sAll fa fda) (ba:Binds K fda ["some"] []) (ma:mg "all_parts"=some (.ref fa)) (Ga:FnOk P w K mg base CX0 5 fa fda ["some"] (zdS K))
  (Ft:Fun K "greatest_of" "greatest_of" zd1 ft fdt) (bt:Binds K fdt ["every"] []) (mt:mg "greatest_of"=some (.ref ft)) (Gt:FnOk P w K mg base CX0 5 ft fdt ["every"] (zjX K)) :
  FnOk P w K mg base CX0 11 f fd ["web","other","names"] (spIm K):=by
 refine F.ok scIm (fun vs H Q E h=>?_) (fun cdv A outer s H vs Q E hr h=>?_)
 ·obtain⟨l,o,m,as,bs,pss,qss,ns,rfl,_⟩:=h; rfl
 ·obtain⟨l,o,m,as,bs,pss,qss,ns,rfl,wm,hM,k⟩:=h
  have hr2:Room 2 _:=hr.mono (by decide);have hr5:Room 5 _:=hr.mono (by decide);refine⟨_,zb (zaB (zi Gm hr rfl mm Fm.kp bm .nil pass0 (pa_cons (pv 0) (pa_cons (pv 1) (pa_cons (pv 2) pa_nil)))))
   (ze (zt (zi Gt hr5 rfl mt Ft.kp bt .nil pass0 (pa_cons (zi Ga hr5 rfl ma Fa.kp ba .nil pass0 (pa_cons
    (zy ["web","other","names"] ["piece","names"] [none,some 2] (zw (pv 0)) (fun cl C s₀ H₀ ex=>zm (i:=0) (ndN ["piece","names"]) rfl (Or.inl rfl)) (fun cl C s₀ H₀ ex=>zL)
     (fun cl C s₀ H₀ ex=>zi Gi hr2 rfl mi Fi.kp bi .nil pass0 (pa_cons (pv 1) (pa_cons (pv 0) pa_nil))) (hfr:=frOf (za sIm) (by decide +kernel))) pa_nil)) pa_nil)))),?_⟩
  obtain⟨h20,hpc,h5,_⟩:=zal wm.hw.1;have hin:∀p∈pss,p∈canon pss:=fun p hp=>zbz.mpr ⟨(zB.mp (hpc p hp)).1,p,hp,List.Sublist.refl _⟩;obtain⟨f1,f2⟩:=zhP wm.hv hM hin;refine⟨_,rfl,_,rfl,_,rfl,l,o,m,as,bs,pss,qss,ns,rfl,wm,hM,fun H1 s1=>?_⟩;have wm1:=wm.same s1;refine⟨_,rfl,l,rfl,⟨_,wm1.hl⟩,fun D1 hD1=>zz (zif (ns:=ns) wm1.hl wm1.ha (by omega) (fun t p H2 Q' hp ht s2 q=>?_) hD1 fun H2 us s2 h2 t2=>?_)⟩
  ·exact⟨_,rfl,_,rfl,m,t,ns,p,rfl,s2 _ _ wm1.hm,ht,by have:=h5 p hp; omega,fun x hx=>zdJ (zfC hM) (zcP (hin p hp) hx),fun u H3 s3 _ hu3=>q u H3 s3 hu3⟩
  ·refine⟨D1,us,pss.map (img ns),rfl,SqL.of h2,t2,fun q hq=>(zB.mp (f1 q hq)).2.1,by rw[Ab]; omega,by rw[<- zI]; exact f2,fun D2 H3 qs t=>?_⟩
   obtain⟨ks,sm3,hD0,hD3,hks3⟩:=zae t;refine⟨D2,ks,pss.map (img ns),rfl,SqL.of hD3,hks3,f1,f2,fun D4 H4 vs s4 h40 h4 t4=>?_⟩;have sA:=(s1.trans s2).trans sm3;exact k D4 H4 vs (sA.trans s4) (sA.free h40) h4 t4
def zil (K:Ae) (fM:Addr):Sp:=fun vs H Q E=>∃l o m as bs pss qss ns,vs=[.ref l,.ref o,.ref m]/\WM K H l o m as bs pss qss ns/\mapG ns (canon pss) (canon qss)=false/\∀H1,Same H H1->∀x,H1 x=none->E (.ref x) (some fM) H1
theorem zgI {f fi fM:Addr}{fd fdi:FuncData} (F:Fun K "must_be_map" "must_be_map" zbK f fd) (mM:mg "NoMap"=some (.ref fM)) (qM:PySem.W.excIn K fM bmV "ValueError.__new__"=true)
  (Fi:Fun K "is_map" "is_map" zbt fi fdi) (bi:Binds K fdi ["web","other","names"] []) (mi:mg "is_map"=some (.ref fi)) (Gi:FnOk P w K mg base CX0 9 fi fdi ["web","other","names"] (zdH K)):FnOk P w K mg base (CX1 P w) 10 f fd ["web","other","names"] (zil K fM):=by
 refine F.ok1 zhG (fun vs H Q E h=>?_) (fun cdv A outer s H vs Q E hr h=>?_)
 ·obtain⟨l,o,m,as,bs,pss,qss,ns,rfl,_⟩:=h; rfl
 ·obtain⟨l,o,m,as,bs,pss,qss,ns,rfl,wm,hM,k⟩:=h
  refine⟨_,ze (zU (za1 (zaY (zi Gi hr rfl mi Fi.kp bi .nil pass0 (pa_cons (pv 0) (pa_cons (pv 1) (pa_cons (pv 2) pa_nil))))))
   (ze (ziJ (C:=fM) (EX:=E) rfl rfl mM qM (fun pins σ H' s' x I hx h0 hs hE=>zj5 I hx h0 hs (fun a e=>nomatch e) hE))) zv),?_⟩
  refine⟨_,rfl,_,rfl,_,rfl,l,o,m,as,bs,pss,qss,ns,rfl,wm,fun H1 s1=>⟨_,rfl,?_⟩⟩;rw[hM];exact iteT fun x hx=>k H1 s1 x hx
theorem zmr {f fm fM:Addr}{fd fdm:FuncData} (F:Fun K "image" "image" sIm f fd)
  (Fm:Fun K "must_be_map" "must_be_map" zbK fm fdm) (bm:Binds K fdm ["web","other","names"] []) (mm:mg "must_be_map"=some (.ref fm)) (Gm:FnOk P w K mg base (CX1 P w) 10 fm fdm ["web","other","names"] (zil K fM)):FnOk P w K mg base (CX1 P w) 11 f fd ["web","other","names"] (zil K fM):=by
 refine F.ok1 scIm (fun vs H Q E h=>?_) (fun cdv A outer s H vs Q E hr h=>?_)
 ·obtain⟨l,o,m,as,bs,pss,qss,ns,rfl,_⟩:=h; rfl
 ·obtain⟨l,o,m,as,bs,pss,qss,ns,rfl,hb⟩:=h
  exact⟨_,zb (zaB (zi Gm hr rfl mm Fm.kp bm .nil (pass1 (E:=E)) (pa_cons (pv 0) (pa_cons (pv 1) (pa_cons (pv 2) pa_nil))))) zbN,⟨_,rfl,_,rfl,_,rfl,l,o,m,as,bs,pss,qss,ns,rfl,hb⟩⟩
end
end K52
end
section
namespace K52
open K1
open PySem L2
abbrev za3:Stmt:=top 50
def tIsi (C:Addr) (i:Nat) (b:Bool):TE:=fun σ H Q=>∃x,σ[i]?=some (some (.ref x))/\H x=some (excO x C)/\Q (.bl b) H
section
variable {X:Cx}{x1 x2 x3 x4:Str}{j1 j2 j3 j4:Nat}{p1 p2 p3 p4:Pos}{es:List Expr}{t:TA}
theorem za8 {n xC:Str}{i:Nat}{C fC:Addr}{b:Bool}{q1 q2 q3 pos:Pos} (xc:XCls X.K C) (y:AM X.K (.ref C) (.ref fC)=some b) (bi:X.mg "isinstance"=none) (mC:X.mg xC=some (.ref fC)) (hgi:Gl X "isinstance") (hgC:Gl X xC) (he:PE X (.Name n q2) (tVar i)) (hdb:(xC == ("__debug__":Str))=false:=by decide) :
  PE X (.Call (.Name "isinstance" q1) [.Name n q2,.Name xC q3] [] pos) (tIsi C i b):=by
 intro pins s σ H Q I h;obtain⟨x,e,hx,q⟩:=h;refine (show PE X _ _ from zj (zc9 (c:=.ref fC) (fun u h=>h) xc y) hgi bi zR (pa_cons he (pa_cons (zb0 (v:=.ref fC) hgC mC rfl (hd:=hdb)) pa_nil))) pins s σ H Q I ?_;exact⟨_,e,x,rfl,hx,q⟩
theorem zie (h:PA X es t):PA X (.Constant (.str x1) j1 p1::.Constant (.str x2) j2 p2::.Constant (.str x3) j3 p3::.Constant (.str x4) j4 p4::es) (zQ (tC (.str x1)) (zQ (tC (.str x2)) (zQ (tC (.str x3)) (zQ (tC (.str x4)) t)))):=
 pa_cons pe_str (pa_cons pe_str (pa_cons pe_str (pa_cons pe_str h)))
end
structure Mk (K:Ae) (C f0 f1 f2 f3 f4 f5 f6 f7 f8 f9 f10:Addr):Prop where
 xc:XCls K C
 y0:AM K (.ref C) (.ref f0)=some false
 y1:AM K (.ref C) (.ref f1)=some false
 y2:AM K (.ref C) (.ref f2)=some false
 y3:AM K (.ref C) (.ref f3)=some false
 y4:AM K (.ref C) (.ref f4)=some false
 y5:AM K (.ref C) (.ref f5)=some false
 y6:AM K (.ref C) (.ref f6)=some false
 y7:AM K (.ref C) (.ref f7)=some true
 y8:AM K (.ref C) (.ref f8)=some false
 y9:AM K (.ref C) (.ref f9)=some false
 y10:AM K (.ref C) (.ref f10)=some false
 yv:AM K (.ref C) (.type "ValueError")=some true
def zmL:List Expr:=match List.drop 4 (zl za3) with
 | [.Assign _ (.List E _) _,_]=>E
 | _=>[]
def wRet:Stmt:=(List.drop 5 (zl za3)).headD (.Pass ⟨0,0,0,0⟩)
def wS (i:Nat):Stmt:=(zl za3).getD i (.Pass ⟨0,0,0,0⟩)
theorem w2:∃E:List Expr,zl za3=[wS 0,wS 1,wS 2,wS 3,.Assign [.Name "some" ⟨208,4,208,8⟩] (.List E ⟨208,11,208,105⟩) ⟨208,4,208,105⟩,wRet]/\∀X:Cx,PA X E (zQ (tC (.str "web")) (zQ (tC (.str "piece")) (zQ (tC (.str "chain")) (zQ (tC (.str "closed")) (zQ (tC (.str "table")) (zQ (tC (.str "goal")) (zQ (tC (.str "push")) (zQ (tC (.str "map")) (zQ (tC (.str "order")) (zQ (tC (.str "number")) (zQ (tC (.str "note")) tNil))))))))))):=
 ⟨zmL,rfl,fun X=>zie (zie (pa_cons pe_str (pa_cons pe_str (pa_cons pe_str pa_nil))))⟩
section
variable {P:Program}{w:World}{K:Ae}{mg:Str->Option Value}{base:Heap}
def zeD (fP:Addr):Sp:=fun vs H Q _=>∃x,vs=[.ref x]/\H x=some (excO x fP)/\∀H',Same H H'->Q (.str "map") H'
theorem zcL:zp ["e","low","some"] ["e"] (za za3):=⟨rfl,rfl,rfl,by decide +kernel,rfl,by decide +kernel,by decide +kernel⟩
theorem ziu {f f0 f1 f2 f3 f4 f5 f6 f7 f8 f9 f10:Addr}{fd:FuncData} (F:Fun K "_law_which" "_law_which" za3 f fd) (bi:mg "isinstance"=none) (bv:mg "ValueError"=none)
  (m0:mg "NoWeb"=some (.ref f0)) (m1:mg "NoPiece"=some (.ref f1)) (m2:mg "NoChain"=some (.ref f2)) (m3:mg "NotClosed"=some (.ref f3)) (m4:mg "NoTable"=some (.ref f4)) (m5:mg "NoGoal"=some (.ref f5)) (m6:mg "NoPush"=some (.ref f6)) (m7:mg "NoMap"=some (.ref f7)) (m8:mg "NoOrder"=some (.ref f8)) (m9:mg "NoNumber"=some (.ref f9)) (m10:mg "NoNote"=some (.ref f10))
  (M:Mk K f7 f0 f1 f2 f3 f4 f5 f6 f7 f8 f9 f10):zhA P w K mg base 1 f fd ["e"] (zeD f7):=by
 refine F.okN zcL (fun vs H Q E h=>?_) (fun cdv A outer s H vs Q E hr h=>?_)
 ·obtain⟨x,rfl,_⟩:=h; rfl
 ·obtain⟨x,rfl,hx,k⟩:=h
  obtain⟨EL,hEL,paEL⟩:=w2;rw[hEL];refine⟨_,zb (zn (i:=1) zcL.nd rfl (Or.inl rfl) (zO (pa_cons (za8 M.xc M.y0 bi m0 rfl rfl (pv 0)) (pa_cons (za8 M.xc M.y1 bi m1 rfl rfl (pv 0)) (pa_cons (za8 M.xc M.y2 bi m2 rfl rfl (pv 0)) (pa_cons (za8 M.xc M.y3 bi m3 rfl rfl (pv 0)) pa_nil))))))
   (zb (zn (i:=1) zcL.nd rfl (Or.inl rfl) (zG zbF (pv 1) (zO (pa_cons (za8 M.xc M.y4 bi m4 rfl rfl (pv 0)) (pa_cons (za8 M.xc M.y5 bi m5 rfl rfl (pv 0)) (pa_cons (za8 M.xc M.y6 bi m6 rfl rfl (pv 0)) (pa_cons (za8 M.xc M.y7 bi m7 rfl rfl (pv 0)) pa_nil)))))))
   (zb (zn (i:=1) zcL.nd rfl (Or.inl rfl) (zG zbF (pv 1) (zO (pa_cons (za8 M.xc M.y8 bi m8 rfl rfl (pv 0)) (pa_cons (za8 M.xc M.y9 bi m9 rfl rfl (pv 0)) (pa_cons (za8 M.xc M.y10 bi m10 rfl rfl (pv 0)) pa_nil))))))
   (zb (zU (PW.pt (zgy (za1 (zaY (zj (zc9 (c:=.ty "ValueError") (fun u h=>h) M.xc M.yv) rfl bi zR (pa_cons (pv 0) (pa_cons (zb3 (v:=.ty "ValueError") rfl bv PyProof.Rows.Boot.«ValueError» rfl) pa_nil))))) (zd6 (zo zjp (zdc PySem.F.plainAttrs_list PySem.F.slot_list_count PySem.F.type_list_count zh3 (pv 1) (pa_cons zba pa_nil)) zf (nomark _)))))
     (ze (zt pe_str)) zv)
   (zb (zn (i:=2) zcL.nd rfl (Or.inl rfl) (zO (paEL _)))
    (ze (zt (zK zC (pv 2) (zdc PySem.F.plainAttrs_list PySem.F.slot_list_index PySem.F.type_list_index zg3 (pv 1) (pa_cons zba pa_nil)) (fun _ _=>rfl)))))))),?_⟩
  refine⟨x,rfl,hx,x,rfl,hx,x,rfl,hx,x,rfl,hx,zd (by simp),fun p hp=>?_⟩;have s1:=Same.new (o:=.lst [.bl false,.bl false,.bl false,.bl false]) hp;refine⟨_,rfl,x,rfl,s1 _ _ hx,x,rfl,s1 _ _ hx,x,rfl,s1 _ _ hx,x,rfl,s1 _ _ hx,zd (by simp),fun p2 hp2=>?_⟩;have s2:=s1.trans (Same.new (o:=.lst [.bl false,.bl false,.bl false,.bl true]) hp2);refine⟨p,p2,_,_,rfl,rfl,(Same.new hp2) _ _ upd_same,upd_same,zd (by simp),fun p3 hp3=>?_⟩;have s3:=s2.trans (Same.new (o:=.lst [.bl false,.bl false,.bl false,.bl false,.bl false,.bl false,.bl false,.bl true]) hp3);refine⟨_,rfl,x,rfl,s3 _ _ hx,x,rfl,s3 _ _ hx,x,rfl,s3 _ _ hx,zd (by simp),fun p4 hp4=>?_⟩;have s4:=s3.trans (Same.new (o:=.lst [.bl false,.bl false,.bl false]) hp4);refine⟨p3,p4,_,_,rfl,rfl,(Same.new hp4) _ _ upd_same,upd_same,zd (by simp),fun p5 hp5=>?_⟩;have s5:=s4.trans (Same.new (o:=.lst [.bl false,.bl false,.bl false,.bl false,.bl false,.bl false,.bl false,.bl true,.bl false,.bl false,.bl false]) hp5);refine⟨_,rfl,x,rfl,s5 _ _ hx,_,rfl,?_⟩;refine iteF ⟨_,rfl,.inl ⟨rfl,_,SqL.of upd_same⟩,p5,_,.bl true,rfl,rfl,upd_same,rfl,?_⟩;refine⟨rfl,rfl,false,(by first | rfl | decide),iteF ⟨zd (by simp),fun p6 hp6=>?_⟩⟩;have h6:=(Same.new (o:=.lst [.str "web",.str "piece",.str "chain",.str "closed",.str "table",.str "goal",.str "push",.str "map",.str "order",.str "number",.str "note"]) hp6) _ _ (upd_same (a:=p5));refine⟨_,rfl,_,rfl,.inl ⟨rfl,_,SqL.of h6⟩,p5,_,.bl true,7,rfl,rfl,h6,by decide,rfl,by decide,by decide,(fun m hm=>?_),p6,_,7,_,rfl,rfl,SqL.of upd_same,rfl,k _ (s5.trans (Same.new hp6))⟩;have:m=0 \/ m=1 \/ m=2 \/ m=3 \/ m=4 \/ m=5 \/ m=6:=by omega
  rcases this with rfl | rfl | rfl | rfl | rfl | rfl | rfl <;> decide
end
end K52
end
section
namespace K52
open K1
open PySem L2 STb
abbrev zcJ:Stmt:=top 51
section
variable {P:Program}{w:World}{K:Ae}{mg:Str->Option Value}{base:Heap}
theorem zaN:zp ["web","other","names","told","e"] ["web","other","names"] (za zcJ):=⟨rfl,rfl,rfl,by decide +kernel,rfl,by decide +kernel,by decide +kernel⟩
def zfR (K:Ae):Sp:=fun vs H Q _=>∃l o m as bs pss qss ns,vs=[.ref l,.ref o,.ref m]/\WM K H l o m as bs pss qss ns/\mapG ns (canon pss) (canon qss)=false/\∀H',Same H H'->Q (.str "map") H'
section
variable {f f0 fw fS fP:Addr}{fd fd0 fdw:FuncData} (F:Fun K "_law_asked" "_law_asked" zcJ f fd) (mS:mg "SeamError"=some (.ref fS))
  (F0:Fun K "image" "image" sIm f0 fd0) (b0:Binds K fd0 ["web","other","names"] []) (m0:mg "image"=some (.ref f0))
include F mS F0 b0 m0
theorem zg6 (G0:FnOk P w K mg base CX0 11 f0 fd0 ["web","other","names"] (spIm K)):FnOk P w K mg base CX0 12 f fd ["web","other","names"] (spIm K):=by
 refine F.ok zaN (fun vs H Q E h=>?_) (fun cdv A outer s H vs Q E hr h=>?_)
 ·obtain⟨l,o,m,as,bs,pss,qss,ns,rfl,_⟩:=h; rfl
 ·obtain⟨l,o,m,as,bs,pss,qss,ns,rfl,wm,hM,k⟩:=h
  refine⟨_,zb (zn (i:=3) zaN.nd rfl (Or.inl rfl) zj7)
   (zb (zjN (ie:=4) (S:=fS) rfl zaN.nd rfl rfl rfl rfl rfl mS
    (fun pins EB=>ze (zn (i:=3) zaN.nd rfl (Or.inl rfl) (zi G0 hr rfl m0 F0.kp b0 .nil pass0 (pa_cons (pv 0) (pa_cons (pv 1) (pa_cons (pv 2) pa_nil))))))
    (fun pins x=>zbN))
   (ze (zt (pv 3)))),?_⟩
  exact⟨_,rfl,_,rfl,_,rfl,l,o,m,as,bs,pss,qss,ns,rfl,wm,hM,fun D H2 us sm hD hD2 hu=>⟨_,rfl,k D H2 us sm hD hD2 hu⟩⟩
theorem zhB (Fw:Fun K "_law_which" "_law_which" za3 fw fdw) (bw:Binds K fdw ["e"] []) (mw:mg "_law_which"=some (.ref fw)) (hS:SubX K fP fS) (G0:FnOk P w K mg base (CX1 P w) 11 f0 fd0 ["web","other","names"] (zil K fP)) (Gw:zhA P w K mg base 1 fw fdw ["e"] (zeD fP)) :
  FnOk P w K mg base CX0 12 f fd ["web","other","names"] (zfR K):=by
 refine F.ok zaN (fun vs H Q E h=>?_) (fun cdv A outer s H vs Q E hr h=>?_)
 ·obtain⟨l,o,m,as,bs,pss,qss,ns,rfl,_⟩:=h; rfl
 ·obtain⟨l,o,m,as,bs,pss,qss,ns,rfl,wm,hM,k⟩:=h
  have hr1:Room 1 _:=hr.mono (by decide);refine⟨_,zb (zn (i:=3) zaN.nd rfl (Or.inl rfl) zj7)
   (zb (zjN (ie:=4) (S:=fS) rfl zaN.nd rfl rfl rfl rfl rfl mS
    (fun pins EB=>ze (zn (i:=3) zaN.nd rfl (Or.inl rfl) (zi G0 hr rfl m0 F0.kp b0 .nil (zmR rfl) (pa_cons (pv 0) (pa_cons (pv 1) (pa_cons (pv 2) pa_nil))))))
    (fun pins x=>ze (zn (i:=3) zaN.nd rfl (Or.inl rfl) (zjv (E:=E0) Gw (hr1.mark _) rfl mw Fw.kp bw .nil (pa_cons (pv 4) pa_nil)))))
   (ze (zt (pv 3)))),?_⟩
  have HB:∀(D:Ends) (H1:Hp) (x:Addr),H1 x=none->(∀a b c H2,Same H1 H2->D.nx [a,b,c,some (.str "map"),none] H2)->EBof K 5 4 fS (tAsg (zlw (zeD fP) [] E0 (zQ (tVar 4) tNil)) (zai 3)) D (.ref x) (some fP) H1:=by
   intro D H1 x hx kk;refine⟨x,fP,rfl,rfl,hS,fun σ' hl=>?_⟩
   match σ',hl with
   | [a,b,c,d,e],_=>exact⟨_,rfl,x,rfl,upd_same,fun H2 sm2=>kk a b c H2 ((Same.new hx).trans sm2)⟩
  exact⟨_,rfl,_,rfl,_,rfl,l,o,m,as,bs,pss,qss,ns,rfl,wm,hM,fun H1 sm1 x hx=>HB _ H1 x hx fun a b c H2 sm2=>⟨_,rfl,k H2 (sm1.trans sm2)⟩⟩
end
end
end K52
end
section
namespace L2
open PySem PySem.Spec PyProof.Rows
theorem zed {X:Cx}:zat X (.type "dict") (fun xs H Q=>∃a kvs,xs=[.ref a]/\Rd H a (.dK kvs)/\∀p,H p=none->Q (.ref p) (upd H p (.dK kvs))):=by
 intro pins s σ H xs us Q I r h;obtain⟨a,kvs,rfl,hq,q⟩:=h;obtain⟨u,rfl,ru⟩:=vals1 r;cases ru;exact zi9 I hq fun p s' hp I'=>⟨.ref p,_,I',rfl,q p hp⟩
end L2
namespace K52
open K1
open PySem L2 STb
abbrev sLaw:Stmt:=top 52
theorem u128 {k:Nat}{A:Around} (r:Room k A):A.units+128<cLine:=by have:=r.un; omega
theorem zkP (ns:List (Int×Int)) (x:Int):zeN (kZ ns) (Sum.inl x)=kZ (ns.filter fun q=>decide (q.1≠x)):=by
 unfold zeN kZ;rw[Aw,Aw,List.filter_map]
 congr 1
 refine List.filter_congr fun q _=>?_;show decide ((Sum.inl q.1:Key)≠Sum.inl x)=decide (q.1≠x)
 by_cases h:q.1=x
 ·simp[h]
 ·simp[h]
theorem zeX {ns:List (Int×Int)}{x y:Int}:∃ms:List (Int×Int),putK (kZ ns) (Sum.inl x) (V.int y)=kZ ms/\ms.length<=ns.length+1/\(x∈ns.map (·.1)->ms.map (·.1)=ns.map (·.1)):=by
 by_cases h:x∈ns.map (·.1)
 ·obtain⟨ms,e,hk⟩:=zhy (y:=y) h
  refine⟨ms,e,?_,fun _=>hk⟩;have:=congrArg List.length hk;rw[Ab,Ab] at this;omega
 ·exact⟨ns++[(x,y)],zeS h,by rw[At]; exact Af _,fun z=>absurd z h⟩
theorem zhx (ns:List (Int×Int)):(kZ ns).length=ns.length:=by rw[kZ,Ab,Ab]
structure W3 (H:Hp) (p O OT KN TH:Addr) (os bs ks ts:List Addr) (pss qss:List (List Int)):Prop where
 bx:zT H p
 hO:H O=some (.lst (os.map V.ref))
 ho:Tps H os pss
 hT:H OT=some (.lst (bs.map V.ref))
 hb:Tps H bs qss
 hK:H KN=some (.lst (ks.map V.ref))
 hk:Tps H ks (canon pss)
 hH:H TH=some (.lst (ts.map V.ref))
 hh:Tps H ts (canon qss)
section
variable {H H':Hp}{p O OT KN TH M:Addr}{os bs ks ts:List Addr}{pss qss:List (List Int)}{kvs:List (Key×V)}{o:HO}
theorem W3.same (h:W3 H p O OT KN TH os bs ks ts pss qss) (s:Same H H'):W3 H' p O OT KN TH os bs ks ts pss qss:=
 ⟨h.bx.same s,s _ _ h.hO,s.tps h.ho,s _ _ h.hT,s.tps h.hb,s _ _ h.hK,s.tps h.hk,s _ _ h.hH,s.tps h.hh⟩
theorem W3.box (h:W3 H p O OT KN TH os bs ks ts pss qss) (s:zac p H H') (b:zT H' p):W3 H' p O OT KN TH os bs ks ts pss qss:=
 ⟨b,s _ _ (h.bx.ne h.hO) h.hO,s.tps h.bx h.ho,s _ _ (h.bx.ne h.hT) h.hT,s.tps h.bx h.hb,s _ _ (h.bx.ne h.hK) h.hK,s.tps h.bx h.hk,s _ _ (h.bx.ne h.hH) h.hH,s.tps h.bx h.hh⟩
theorem W3.put (h:W3 H p O OT KN TH os bs ks ts pss qss) (hM:H M=some (.dK kvs)):W3 (upd H M o) p O OT KN TH os bs ks ts pss qss:=by
 have k1:∀{b:Addr} {u:HO},H b=some u->(∀z,u≠.dK z)->upd H M o b=some u:=fun {b u} e n=>by rw[zk (za2 e hM (n _))]; exact e
 have kt:∀{as:List Addr} {l:List (List Int)},Tps H as l->Tps (upd H M o) as l:=fun t=>Paired.mapP t fun b q hb=>k1 (show H b=some _ from hb) (by intro z y; cases y);have kl:∀{b:Addr} {xs:List V},H b=some (.lst xs)->upd H M o b=some (.lst xs):=fun e=>k1 e (by intro z y; cases y);refine⟨?_,kl h.hO,kt h.ho,kl h.hT,kt h.hb,kl h.hK,kt h.hk,kl h.hH,kt h.hh⟩;obtain⟨x,y,e,r⟩:=h.bx;exact⟨x,y,kl e,r⟩
end
structure S6 (H:Hp) (O OT KN TH M LA LB DM HD:Addr) (os bs ks ts:List Addr) (pss qss:List (List Int)) (ns:List (Int×Int)):Prop where
 hO:H O=some (.lst (os.map V.ref))
 ho:Tps H os pss
 hT:H OT=some (.lst (bs.map V.ref))
 hb:Tps H bs qss
 hK:H KN=some (.lst (ks.map V.ref))
 hk:Tps H ks (canon pss)
 hH:H TH=some (.lst (ts.map V.ref))
 hh:Tps H ts (canon qss)
 hM:H M=some (zV ns)
 hA:H LA=some (.lst (os.map V.ref))
 hB:H LB=some (.lst (bs.map V.ref))
 hD:H DM=some (zV ns)
 hN:H HD=some (.lst [.ref LA,.ref LB,.ref DM])
section
variable {H H':Hp}{O OT KN TH M LA LB DM HD D:Addr}{os bs ks ts:List Addr}{pss qss:List (List Int)}{ns:List (Int×Int)}{xs ys:List V}
theorem S6.same (h:S6 H O OT KN TH M LA LB DM HD os bs ks ts pss qss ns) (s:Same H H'):S6 H' O OT KN TH M LA LB DM HD os bs ks ts pss qss ns:=
 ⟨s _ _ h.hO,s.tps h.ho,s _ _ h.hT,s.tps h.hb,s _ _ h.hK,s.tps h.hk,s _ _ h.hH,s.tps h.hh,s _ _ h.hM,s _ _ h.hA,s _ _ h.hB,s _ _ h.hD,s _ _ h.hN⟩
theorem S6.put (h:S6 H O OT KN TH M LA LB DM HD os bs ks ts pss qss ns) (hD:H D=some (.lst xs)) (n1:O≠D) (n2:OT≠D) (n3:KN≠D) (n4:TH≠D) (n5:LA≠D) (n6:LB≠D) (n7:HD≠D):S6 (upd H D (.lst ys)) O OT KN TH M LA LB DM HD os bs ks ts pss qss ns:=by
 have kd:∀{b:Addr} {z:List (Key×V)},H b=some (.dK z)->upd H D (.lst ys) b=some (.dK z):=fun {b z} e=>by rw[zk (za2 e hD (by intro z; cases z))]; exact e
 have kl:∀{b:Addr} {z:HO},H b=some z->b≠D->upd H D (.lst ys) b=some z:=fun {b z} e n=>by rw[zk n]; exact e
 exact⟨kl h.hO n1,Tps.upd h.ho hD (by intro xs z; cases z),kl h.hT n2,Tps.upd h.hb hD (by intro xs z; cases z),kl h.hK n3,Tps.upd h.hk hD (by intro xs z; cases z),kl h.hH n4,Tps.upd h.hh hD (by intro xs z; cases z),kd h.hM,kl h.hA n5,kl h.hB n6,kd h.hD,kl h.hN n7⟩
end
abbrev nmL:List Str:=["script","box","web","other","names","known","there","way","point","one","handed","found","due","told","images"]
section
variable {P:Program}{w:World}{K:Ae}{mg:Str->Option Value}{base:Heap}
theorem zkF {H2:Hp}{L D:Addr}{as:List Addr}{kn:List (List Int)}{Q:VK} (hl:SqL K H2 L (as.map V.ref)) (ht:Tps H2 as kn) (hz:kn.length<=1000) (h0:∀p∈kn,p≠[]) (hD:H2 D=none)
  (k:∀H3,Same H2 H3->H3 D=some (.lst ((kn.map (·.headD 0)).map V.int))->Q (.ref D) H3):zaf (Itl K L) (zai 0) tYes (zf9 K) [none] H2 D Q:=by
 have hla:=ht.length;refine zH (xs:=as.map V.ref) (fun i σ ys H3=>∃v:Option V,σ=[v]/\Same H2 H3/\H3 D=some (.lst ys)/\ys=((kn.map (·.headD 0)).take i).map V.int)
  ⟨none,rfl,Same.new hD,upd_same,rfl⟩ (fun i σ ys H3 ⟨_,_,sm,_⟩=>sm.seq hl) ?_ ?_
 ·rintro i σ ys H3 z hx hi hy ⟨v,rfl,sm,hD3,rfl⟩
  obtain⟨t,et,rfl⟩:=zP hx;obtain⟨ps,eps,hps⟩:=ht.get et;have hp3:=sm.tp hps;have e:(kn.map (·.headD 0))[i]?=some (ps.headD 0):=by rw[Ap,eps]; rfl
  obtain⟨x,r,rfl⟩:=zez ps (h0 ps (Aq eps));refine gyes ⟨_,rfl,t,_,0,.int x,rfl,rfl,SqT.of hp3,zu (j:=0) rfl,cput (by rw[Ab]; exact zd (by omega)) hi hy hD3 ⟨_,rfl,sm.then hD,upd_same,?_⟩⟩;rw[AQ e,Ak]; rfl
 ·rintro σ ys H3 ⟨v,rfl,sm,hD3,rfl⟩
  rw[Ay (by rw[Ab,Ab]; omega)] at hD3;exact k H3 sm hD3
theorem zmm {as:List Addr}{pss:List (List Int)}{H:Hp} (ht:Tps H as pss) {r:Int} (h0:0<=r) (h1:r<as.length):∃a ps,atI (as.map V.ref) r=some (.ref a)/\Tp H a ps/\ps∈pss:=by
 obtain⟨n,rfl⟩:=Int.eq_ofNat_of_zero_le h0;have e:as[n]?=some as[n]:=Ag (by omega);obtain⟨ps,e2,h⟩:=ht.get e;exact⟨as[n],ps,zu (by rw[Ap,e]; rfl),h,Aq e2⟩
def ziR (K:Ae):Sp:=fun vs H Q _=>∃(a:Addr) (ns:List Int),vs=[.ref a]/\SqL K H a (ns.map V.int)/\ns.length<=63/\∀H',Q (.bl true) H'
theorem zbC:zp nmL ["script"] (za sLaw):=⟨rfl,rfl,rfl,by decide +kernel,rfl,by decide +kernel,by decide +kernel⟩
theorem zlS {f fc fb ft fp fl fi fm fh fg fr fk:Addr}{fd fdc fdb fdt fdp fdl fdi fdm fdh fdg fdr fdk:FuncData} (F:Fun K "law" "law" sLaw f fd) (B:Bt mg)
  (Fc:Fun K "_law_cell_at" "_law_cell_at" zeT fc fdc) (bc:Binds K fdc ["script","k"] []) (mc:mg "_law_cell_at"=some (.ref fc))
  (Fb:Fun K "_law_box" "_law_box" sBox fb fdb) (bb:Binds K fdb ["cell"] []) (mb:mg "_law_box"=some (.ref fb))
  (Ft:Fun K "_law_take" "_law_take" zcR ft fdt) (bt:Binds K fdt ["box","most"] []) (mt:mg "_law_take"=some (.ref ft))
  (Fp:Fun K "_law_pair" "_law_pair" zbv fp fdp) (bp:Binds K fdp ["box"] []) (mp:mg "_law_pair"=some (.ref fp)) (Gp:FnOk P w K mg base CX0 4 fp fdp ["box"] zjV)
  (Fl:Fun K "_law_pieces" "_law_pieces" zar fl fdl) (bl:Binds K fdl ["web"] []) (ml:mg "_law_pieces"=some (.ref fl)) (Gl:FnOk P w K mg base CX0 2 fl fdl ["web"] (zdS K))
  (Fi:Fun K "_law_is_map" "_law_is_map" za9 fi fdi) (bi:Binds K fdi ["known","there","names"] []) (mi:mg "_law_is_map"=some (.ref fi)) (Gi:FnOk P w K mg base CX0 2 fi fdi ["known","there","names"] (zfv K))
  (Fm:Fun K "is_map" "is_map" zbt fm fdm) (bm:Binds K fdm ["web","other","names"] []) (mm:mg "is_map"=some (.ref fm)) (Gm:FnOk P w K mg base CX0 9 fm fdm ["web","other","names"] (zdH K))
  (Fh:Fun K "_law_asked" "_law_asked" zcJ fh fdh) (bh:Binds K fdh ["web","other","names"] []) (mh:mg "_law_asked"=some (.ref fh)) (Gh:FnOk P w K mg base CX0 12 fh fdh ["web","other","names"] (fun vs H Q E=>spIm K vs H Q E \/ zfR K vs H Q E))
  (Fg:Fun K "_law_greatest" "_law_greatest" zan fg fdg) (bg:Binds K fdg ["web"] []) (mg':mg "_law_greatest"=some (.ref fg)) (Gg:FnOk P w K mg base CX0 3 fg fdg ["web"] (zc4 K))
  (Fr:Fun K "_law_image" "_law_image" zaU fr fdr) (br:Binds K fdr ["piece","names"] []) (mr:mg "_law_image"=some (.ref fr)) (Gr:FnOk P w K mg base CX0 1 fr fdr ["piece","names"] zdl)
  (Fk:Fun K "_law_pieces_like" "_law_pieces_like" ze2 fk fdk) (bk:Binds K fdk ["found","due"] []) (mk:mg "_law_pieces_like"=some (.ref fk)) (Gk:FnOk P w K mg base CX0 2 fk fdk ["found","due"] (zjQ K)) :
  FnOk P w K mg base CX0 13 f fd ["script"] (ziR K):=by
 have Gc:FnOk P w K mg base CX0 1 fc fdc ["script","k"] (zkg K):=zkE Fc B;have Gb:FnOk P w K mg base CX0 1 fb fdb ["cell"] zl6:=zms Fb;have Gt:FnOk P w K mg base CX0 1 ft fdt ["box","most"] zdN:=zdr Ft;refine F.ok zbC (fun vs H Q E h=>?_) (fun cdv A outer s H vs Q E hr h=>?_)
 ·obtain⟨a,ns,rfl,_⟩:=h; rfl
 ·obtain⟨a,nn,rfl,hS,hn,k⟩:=h
  have hu:=zcV hr;have hu64:=hr.units;have hu128:=u128 hr;have hr1:Room 1 _:=hr.mono (by decide);have hr2:Room 2 _:=hr.mono (by decide);have hr3:Room 3 _:=hr.mono (by decide);have hr4:Room 4 _:=hr.mono (by decide);have hr9:Room 9 _:=hr.mono (by decide);have R14:∃tr,PSs (cxOf CX0 P w K mg base nmL "law" (za sLaw) f cdv A outer s H E).nox (List.drop 14 (zl sLaw)) tr/\
    ∀(p O OT KN TH M LA LB DM HD:Addr) (os bs ks ts:List Addr) (pss qss:List (List Int)) (ns:List (Int×Int)) (v7 v8 v9 v11:Option V) (H2:Hp),S6 H2 O OT KN TH M LA LB DM HD os bs ks ts pss qss ns->webS pss->(canon pss).length<=56->webS qss->ns.length<=63->
     tr { nx:=fun _ H'=>Q .non H',rt:=Q } [some (.ref a),some (.ref p),some (.ref O),some (.ref OT),some (.ref M),some (.ref KN),some (.ref TH),v7,v8,v9,some (.ref HD),v11,some (.bl (mapG ns (canon pss) (canon qss))),none,none] H2:=by
   refine⟨_,zb (zn (i:=13) zbC.nd rfl (Or.inl rfl) (zi Gh hr rfl mh Fh.kp bh .nil pass0 (pa_cons (zK zC (pv 10) zf (fun _ _=>rfl)) (pa_cons (zK zC (pv 10) zf (fun _ _=>rfl)) (pa_cons (zK zC (pv 10) zf (fun _ _=>rfl)) pa_nil)))))
    (zb (zU (za1 (zaY (pv 12))) (ze (zt (zaS zaC (pv 13) pe_str (nomark _)))) zv)
    (zb (zn (i:=14) zbC.nd rfl (Or.inl rfl) (zi Gg hr3 rfl mg' Fg.kp bg .nil pass0 (pa_cons
     (zy nmL ["piece","names"] [none,some 4] (zw (pv 5)) (fun cl C s₀ H₀ ex=>zm (i:=0) (ndN ["piece","names"]) rfl (Or.inl rfl)) (fun cl C s₀ H₀ ex=>zL)
      (fun cl C s₀ H₀ ex=>zi Gr hr1 rfl mr Fr.kp br .nil pass0 (pa_cons (pv 0) (pa_cons (pv 1) pa_nil))) (hfr:=frOf (za sLaw) (by decide +kernel))) pa_nil)))
    (zb (zU (za1 (zaY (zi Gk hr2 rfl mk Fk.kp bk .nil pass0 (pa_cons (pv 13) (pa_cons (pv 14) pa_nil))))) (ze (zt zba)) zv)
    (zb (zaB (zdc PySem.F.plainAttrs_list PySem.F.slot_list_append PySem.F.type_list_append zax (pv 13) (pa_cons (zaX (pa_cons zf pa_nil)) pa_nil)))
    (ze (zt (zjM (zaS (zj4 hu64) (zi Gh hr rfl mh Fh.kp bh .nil pass0 (pa_cons (zK zC (pv 10) zf (fun _ _=>rfl)) (pa_cons (zK zC (pv 10) zf (fun _ _=>rfl)) (pa_cons (zK zC (pv 10) zf (fun _ _=>rfl)) pa_nil)))) (pv 14) (nomark _))
     (zj1 (zaS (zlB hu128) (pv 10) (zO (pa_cons (pv 2) (pa_cons (pv 3) (pa_cons (pv 4) pa_nil)))) (nomark _)))))))))),?_⟩
   intro p O OT KN TH M LA LB DM HD os bs ks ts pss qss ns v7 v8 v9 v11 H2 st hws h56 hv hln;have wm:WM K H2 LA LB DM os bs pss qss ns:=⟨SqL.of st.hA,st.ho,hws,SqL.of st.hB,st.hb,hv,st.hD,hln⟩;refine⟨_,rfl,HD,_,_,_,rfl,rfl,SqL.of st.hN,zu (j:=0) rfl,_,rfl,HD,_,_,_,rfl,rfl,SqL.of st.hN,zu (j:=1) rfl,_,rfl,HD,_,_,_,rfl,rfl,SqL.of st.hN,zu (j:=2) rfl,?_⟩;cases hM:mapG ns (canon pss) (canon qss) with
   | false=>
    refine .inr ⟨LA,LB,DM,os,bs,pss,qss,ns,rfl,wm,hM,fun H3 s3=>?_⟩;refine⟨_,rfl,_,rfl,iteT ⟨_,rfl,rfl,?_⟩⟩;rw[decide_eq_true rfl];exact k H3
   | true=>
    obtain⟨_,hpc,h5,_⟩:=zal hws.1;obtain⟨f1,f2⟩:=zhP hv hM (X:=canon pss) fun p hp=>hp;have e1:canon ((canon pss).map (img ns))=canon (pss.map (img ns)):=zk0 fun p hp=>(zB.mp (hpc p hp)).1;have hkl:=st.hk.length;refine .inl ⟨LA,LB,DM,os,bs,pss,qss,ns,rfl,wm,hM,fun FD H3 us s3 hF0 hF3 hu3=>?_⟩;have st3:=st.same s3;refine⟨_,rfl,_,rfl,iteF ⟨_,rfl,KN,rfl,⟨_,SqL.of st3.hK⟩,fun D4 hD4=>zz (zif (ns:=ns) (SqL.of st3.hK) st3.hk (by omega) (fun t q H4 Q' hq ht s4 kq=>?_) hD4 fun H4 vs s4 h4 t4=>?_)⟩⟩
    ·exact⟨_,rfl,_,rfl,M,t,ns,q,rfl,s4 _ _ st3.hM,ht,by have:=(can5 hws.1 q hq).1; omega,fun x hx=>zdJ (zfC hM) (zcP hq hx),fun u H5 s5 _ hu5=>kq u H5 s5 hu5⟩
    have st4:=st3.same s4;refine⟨D4,vs,_,rfl,SqL.of h4,t4,f1,by rw[Ab]; omega,f2,fun DU H5 ds s5 hU0 hU5 hd5=>?_⟩;rw[e1] at hd5;have st5:=st4.same s5;have hF5:=s5 _ _ (s4 _ _ hF3);have hu5:=s5.tps (s4.tps hu3);have hd5':∀q∈tops (canon (pss.map (img ns))),q.length<=5:=fun q hq=>(zB.mp (f1 q (by
     obtain⟨r,hr',e⟩:=List.mem_map.mp (zfI hq);exact List.mem_map.mpr ⟨r,zbz.mpr ⟨(zB.mp (hpc r hr')).1,r,hr',List.Sublist.refl _⟩,e⟩))).2.1
    have htl:(tops (canon (pss.map (img ns)))).length<=20:=by
     have:=zjw (pss.map (img ns));have h20:=(zal hws.1).1;rw[Ab] at this;omega
    have nU:DU≠FD:=(zg (s4 _ _ hF3) hU0).symm;refine⟨_,rfl,_,rfl,FD,DU,us,ds,_,rfl,hF5,hu5,SqL.of hU5,hd5,hd5',by omega,fun H6 s6=>⟨_,rfl,iteF ?_⟩⟩;have st6:=st5.same s6;have hF6:=s6 _ _ hF5;refine⟨_,rfl,.inl ⟨rfl,_,SqL.of hF6⟩,zd (by simp),fun T hT=>?_⟩;have sT:=Same.new (o:=.tup [.int 0]) hT;have hF7:=sT _ _ hF6;have hul:=hu5.length;refine⟨FD,_,_,rfl,rfl,hF7,by rw[Ab]; exact zab (by omega),?_⟩;have st8:=(st6.same sT).put (ys:=us.map V.ref++[.ref T]) hF7 (zg st.hO hF0) (zg st.hT hF0) (zg st.hK hF0) (zg st.hH hF0) (zg st.hA hF0) (zg st.hB hF0) (zg st.hN hF0);have hU8:upd (upd H6 T (.tup [.int 0])) FD (.lst (us.map V.ref++[.ref T])) DU=some (.lst (ds.map V.ref)):=by rw[zk nU]; exact sT _ _ (s6 _ _ hU5)
    have hd8:Tps (upd (upd H6 T (.tup [.int 0])) FD (.lst (us.map V.ref++[.ref T]))) ds (tops (canon (pss.map (img ns)))):=Tps.upd (sT.tps (s6.tps hd5)) hF7 (by intro xs z; cases z);generalize upd (upd H6 T (.tup [.int 0])) FD (.lst (us.map V.ref++[.ref T]))=H8 at st8 hU8 hd8;have wm8:WM K H8 LA LB DM os bs pss qss ns:=⟨SqL.of st8.hA,st8.ho,hws,SqL.of st8.hB,st8.hb,hv,st8.hD,hln⟩;refine⟨_,rfl,HD,_,_,_,rfl,rfl,SqL.of st8.hN,zu (j:=0) rfl,_,rfl,HD,_,_,_,rfl,rfl,SqL.of st8.hN,zu (j:=1) rfl,_,rfl,HD,_,_,_,rfl,rfl,SqL.of st8.hN,zu (j:=2) rfl,?_⟩;refine .inl ⟨LA,LB,DM,os,bs,pss,qss,ns,rfl,wm8,hM,fun F2 H9 cs s9 hG0 hG9 hc9=>?_⟩;have st9:=st8.same s9;refine⟨_,rfl,.inr ⟨F2,DU,cs,ds,_,_,rfl,rfl,SqL.of hG9,hc9,SqL.of (s9 _ _ hU8),s9.tps hd8,?_⟩⟩;rw[if_neg (by decide),decide_eq_true rfl];refine⟨_,rfl,iteT ⟨_,rfl,_,rfl,_,rfl,_,rfl,zd (by simp),fun T2 hT2=>?_⟩⟩;have sZ:=Same.new (o:=.lst [.ref O,.ref OT,.ref M]) hT2;have stZ:=st9.same sZ;exact⟨HD,T2,_,_,rfl,rfl,SqL.of stZ.hN,SqL.of upd_same,.cons (.lt (SqL.of stZ.hA) stZ.ho (SqL.of stZ.hO) stZ.ho) (.cons (.lt (SqL.of stZ.hB) stZ.hb (SqL.of stZ.hT) stZ.hb) (.cons (.dz (ns:=ns) (.inl stZ.hD) (.inl stZ.hM)) .nil)),k _⟩
  obtain⟨tr14,htr14,rest14⟩:=R14;have R10:∃tr,PSs (cxOf CX0 P w K mg base nmL "law" (za sLaw) f cdv A outer s H E).nox (List.drop 10 (zl sLaw)) tr/\
    ∀(p O OT KN TH M:Addr) (os bs ks ts:List Addr) (pss qss:List (List Int)) (ns:List (Int×Int)) (v7 v8 v9:Option V) (H2:Hp),W3 H2 p O OT KN TH os bs ks ts pss qss->H2 M=some (zV ns)->webS pss->(canon pss).length<=56->webS qss->ns.length<=63->
     tr { nx:=fun _ H'=>Q .non H',rt:=Q } [some (.ref a),some (.ref p),some (.ref O),some (.ref OT),some (.ref M),some (.ref KN),some (.ref TH),v7,v8,v9,none,none,none,none,none] H2:=by
   refine⟨_,zb (zn (i:=10) zbC.nd rfl (Or.inl rfl) (zO (pa_cons (zx zbb rfl B.list zbS (pa_cons (pv 2) pa_nil)) (pa_cons (zx zbb rfl B.list zbS (pa_cons (pv 3) pa_nil)) (pa_cons (zx zed rfl B.dict zhW (pa_cons (pv 4) pa_nil)) pa_nil)))))
    (zb (zn (i:=11) zbC.nd rfl (Or.inl rfl) (zi Gm hr9 rfl mm Fm.kp bm .nil pass0 (pa_cons (zK zC (pv 10) zf (fun _ _=>rfl)) (pa_cons (zK zC (pv 10) zf (fun _ _=>rfl)) (pa_cons (zK zC (pv 10) zf (fun _ _=>rfl)) pa_nil)))))
    (zb (zn (i:=12) zbC.nd rfl (Or.inl rfl) (zi Gi hr2 rfl mi Fi.kp bi .nil pass0 (pa_cons (pv 5) (pa_cons (pv 6) (pa_cons (pv 4) pa_nil)))))
    (zb (zU (PW.pt (zgy (za1 (zaY (zj zdE rfl B.isinstance zR (pa_cons (pv 11) (pa_cons (zb3 (v:=.ty "bool") rfl B.bool zke rfl) pa_nil))))) (zgy (zo zjp (pv 11) (pv 12) (nomark _)) (zd6 (zo (zlz hu128) (pv 10) (zO (pa_cons (pv 2) (pa_cons (pv 3) (pa_cons (pv 4) pa_nil)))) (nomark _)))))) (ze (zt zba)) zv)
    htr14))),?_⟩
   intro p O OT KN TH M os bs ks ts pss qss ns v7 v8 v9 H2 W hM hws h56 hv hln;refine⟨_,rfl,O,_,rfl,.inl (SqL.of W.hO),fun LA hLA=>?_⟩;have sA:=Same.new (o:=.lst (os.map V.ref)) hLA;refine⟨_,rfl,OT,_,rfl,.inl (SqL.of (sA _ _ W.hT)),fun LB hLB=>?_⟩;have sB:=Same.new (o:=.lst (bs.map V.ref)) hLB;have sAB:=sA.trans sB;refine⟨_,rfl,M,_,rfl,.inl (sAB _ _ hM),fun DM hDM=>⟨zd (by simp),fun HD hHD=>?_⟩⟩;have sD:=Same.new (o:=zV ns) hDM;have sH:=Same.new (o:=.lst [.ref LA,.ref LB,.ref DM]) hHD;have s3:=(sAB.trans sD).trans sH;have W4:=W.same s3;have st4:S6 (upd (upd (upd (upd H2 LA (.lst (os.map V.ref))) LB (.lst (bs.map V.ref))) DM (zV ns)) HD (.lst [.ref LA,.ref LB,.ref DM])) O OT KN TH M LA LB DM HD os bs ks ts pss qss ns:=
    ⟨W4.hO,W4.ho,W4.hT,W4.hb,W4.hK,W4.hk,W4.hH,W4.hh,s3 _ _ hM,sH _ _ (sD _ _ (sB _ _ upd_same)),sH _ _ (sD _ _ upd_same),sH _ _ upd_same,upd_same⟩
   generalize upd (upd (upd (upd H2 LA (.lst (os.map V.ref))) LB (.lst (bs.map V.ref))) DM (zV ns)) HD (.lst [.ref LA,.ref LB,.ref DM])=H4 at st4;have wm4:WM K H4 LA LB DM os bs pss qss ns:=⟨SqL.of st4.hA,st4.ho,hws,SqL.of st4.hB,st4.hb,hv,st4.hD,hln⟩;refine⟨_,rfl,HD,_,_,_,rfl,rfl,SqL.of st4.hN,zu (j:=0) rfl,_,rfl,HD,_,_,_,rfl,rfl,SqL.of st4.hN,zu (j:=1) rfl,_,rfl,HD,_,_,_,rfl,rfl,SqL.of st4.hN,zu (j:=2) rfl,?_⟩;refine⟨LA,LB,DM,os,bs,pss,qss,ns,rfl,wm4,fun H5 s5=>?_⟩;have st5:=st4.same s5;refine⟨_,rfl,_,rfl,_,rfl,KN,TH,M,ks,ts,ns,canon pss,pss,canon qss,rfl,SqL.of st5.hK,st5.hk,rfl,by omega,fun q hq=>(can5 hws.1 q hq).1,SqL.of st5.hH,st5.hh,st5.hM,hln,fun H6 s6=>?_⟩;have st6:=st5.same s6;refine⟨_,rfl,_,rfl,_,rfl,iteF ⟨_,rfl,_,rfl,rfl,_,rfl,?_⟩⟩;rw[decide_eq_true rfl];refine iteF ⟨_,rfl,_,rfl,_,rfl,_,rfl,zd (by simp),fun T2 hT2=>?_⟩;have sZ:=Same.new (o:=.lst [.ref O,.ref OT,.ref M]) hT2;have stZ:=st6.same sZ;refine⟨HD,T2,_,_,rfl,rfl,SqL.of stZ.hN,SqL.of upd_same,.cons (.lt (SqL.of stZ.hA) stZ.ho (SqL.of stZ.hO) stZ.ho) (.cons (.lt (SqL.of stZ.hB) stZ.hb (SqL.of stZ.hT) stZ.hb) (.cons (.dz (ns:=ns) (.inl stZ.hD) (.inl stZ.hM)) .nil)),_,rfl,iteF ?_⟩;exact rest14 p O OT KN TH M LA LB DM HD os bs ks ts pss qss ns v7 v8 v9 _ _ stZ hws h56 hv hln
  obtain⟨tr10,htr10,rest10⟩:=R10;have R9:∃tr,PSs (cxOf CX0 P w K mg base nmL "law" (za sLaw) f cdv A outer s H E).nox (List.drop 9 (zl sLaw)) tr/\
    ∀(p O OT KN TH M:Addr) (os bs ks ts:List Addr) (pss qss:List (List Int)) (ns:List (Int×Int)) (wy x:Int) (H2:Hp),W3 H2 p O OT KN TH os bs ks ts pss qss->H2 M=some (zV ns)->webS pss->(canon pss).length<=56->webS qss->ns.length<=63->
     tr { nx:=fun _ H'=>Q .non H',rt:=Q } [some (.ref a),some (.ref p),some (.ref O),some (.ref OT),some (.ref M),some (.ref KN),some (.ref TH),some (.int wy),some (.int x),none,none,none,none,none,none] H2:=by
   refine⟨_,zb (zU (zo zaC (pv 7) zf (nomark _))
     (ze (zaq A7 rfl (zw (zx (zbg rfl) rfl B.list zbS (pa_cons (pv 4) pa_nil))) (zm (i:=9) zbC.nd rfl (Or.inl rfl))
      (ze (zaV hu (pv 4) (pv 9) (zfD (zo zeF (zj zh rfl B.len z0 (pa_cons (pv 6) pa_nil)) zf (nomark _))
       (zK zaw (zK zC (pv 6) (zi Gt hr1 rfl mt Ft.kp bt .nil pass0 (pa_cons (pv 1) (pa_cons (zj zh rfl B.len z0 (pa_cons (pv 6) pa_nil)) pa_nil))) (fun _ _=>rfl)) zf (fun _ _=>rfl)) zf) rfl)))) zv)
    htr10,?_⟩
   intro p O OT KN TH M os bs ks ts pss qss ns wy x H2 W hM hws h56 hv hln;have hz:=hv.2;refine⟨_,rfl,rfl,_,rfl,ite2 (fun _=>?_) (fun _=>rest10 p O OT KN TH M os bs ks ts pss qss ns _ _ _ H2 W hM hws h56 hv hln)⟩;refine⟨_,rfl,M,_,rfl,hM,fun L hL=>⟨L,rfl,⟨_,SqL.of upd_same⟩,?_⟩⟩;have sL:=Same.new (o:=.lst (((ns.map fun p=>(p.1,V.int p.2)).map fun p=>((Sum.inl p.1:Key),p.2)).map fun kv=>kV kv.1)) hL;have ev:(((ns.map fun p=>(p.1,V.int p.2)).map fun p=>((Sum.inl p.1:Key),p.2)).map fun kv=>kV kv.1)=(ns.map (·.1)).map V.int:=by rw[Aw,Aw,Aw]; rfl
   have hL3:=upd_same (H:=H2) (a:=L) (o:=.lst (((ns.map fun p=>(p.1,V.int p.2)).map fun p=>((Sum.inl p.1:Key),p.2)).map fun kv=>kV kv.1));generalize upd H2 L (.lst (((ns.map fun p=>(p.1,V.int p.2)).map fun p=>((Sum.inl p.1:Key),p.2)).map fun kv=>kV kv.1))=H3 at sL hL3;rw[ev] at hL3;have hLp:L≠p:=by
    obtain⟨_,_,e,_⟩:=W.bx;exact (zg e hL).symm
   refine zaa (K:=K) (a:=L) (xs:=(ns.map (·.1)).map V.int) (fun i σ H4=>∃(v9:Option V) (ms:List (Int×Int)),σ=[some (.ref a),some (.ref p),some (.ref O),some (.ref OT),some (.ref M),some (.ref KN),some (.ref TH),some (.int wy),some (.int x),v9,none,none,none,none,none]/\W3 H4 p O OT KN TH os bs ks ts pss qss/\H4 M=some (zV ms)/\ms.map (·.1)=ns.map (·.1)/\H4 L=some (.lst ((ns.map (·.1)).map V.int)))
    ⟨none,ns,rfl,W.same sL,sL _ _ hM,rfl,hL3⟩ (fun i σ H4 _ ⟨_,_,_,_,_,_,h⟩=>SqL.of h) ?_ ?_
   ·rintro i y σ H4 hy ⟨v9,ms,rfl,W4,hM4,hk4,hL4⟩
    obtain⟨z,ez,rfl⟩:=zbo hy;have hzin:z∈ms.map (·.1):=by rw[hk4]; exact Aq ez
    have hml:ms.length<=63:=by
     have:=congrArg List.length hk4;rw[Ab,Ab] at this;omega
    have fin:∀(c:Int) (H5:Hp),W3 H5 p O OT KN TH os bs ks ts pss qss->H5 M=some (zV ms)->H5 L=some (.lst ((ns.map (·.1)).map V.int))->∃(a_1:Addr) (H6:Hp),V.ref M=V.ref a_1/\DPut H5 a_1 (.int z) (.int c) H6/\∃(v9:Option V) (ms:List (Int×Int)),[some (V.ref a),some (V.ref p),some (V.ref O),some (V.ref OT),some (V.ref M),some (V.ref KN),some (V.ref TH),some (V.int wy),some (V.int x),some (V.int z),none,none,none,none,none]=[some (V.ref a),some (V.ref p),some (V.ref O),some (V.ref OT),some (V.ref M),some (V.ref KN),some (V.ref TH),some (V.int wy),some (V.int x),v9,none,none,none,none,none]/\W3 H6 p O OT KN TH os bs ks ts pss qss/\H6 M=some (zV ms)/\ms.map (·.1)=ns.map (·.1)/\H6 L=some (.lst ((ns.map (·.1)).map V.int)):=by
     intro c H5 W5 hM5 hL5;obtain⟨ms',e',_,hk'⟩:=zeX (ns:=ms) (x:=z) (y:=c);refine⟨M,_,rfl,DPut.k (k:=Sum.inl z) hM5 (by rw[zhx]; exact zab (by omega)),_,ms',rfl,W5.put hM5,?_,(hk' hzin).trans hk4,?_⟩
     ·rw[upd_same,e']
     ·rw[zk (za2 hL5 hM5 (by intro z; cases z))]; exact hL5
    refine⟨_,rfl,TH,_,rfl,.inl (SqL.of W4.hH),_,_,rfl,rfl,_,rfl,ite2 (fun g=>?_) fun _=>?_⟩
    ·have hpos:0<ts.length:=by
      have:=of_decide_eq_true g;rw[Ab] at this;omega
     have htl:=W4.hh.length;refine⟨_,rfl,_,rfl,_,rfl,TH,_,rfl,.inl (SqL.of W4.hH),p,_,rfl,W4.bx,by rw[Ab]; omega,by rw[Ab]; omega,fun r H5 r0 r1 sb5 hb5=>?_⟩;rw[Ab] at r1;have W5:=W4.box sb5 hb5;obtain⟨t,q,e1,htp,hq⟩:=zmm W5.hh r0 r1;refine⟨TH,_,r,_,rfl,rfl,SqL.of W5.hH,e1,?_⟩;obtain⟨y0,rr,rfl⟩:=zez q ((can5 hv.1 q hq).2);refine⟨t,_,0,.int y0,rfl,rfl,SqT.of htp,zu (j:=0) rfl,_,rfl,_,rfl,?_⟩;exact fin y0 H5 W5 (sb5 _ _ (zbp W4.bx hM4) hM4) (sb5 _ _ hLp hL4)
    ·exact⟨_,rfl,_,rfl,fin 7 H4 W4 hM4 hL4⟩
   ·rintro σ H4 ⟨v9,ms,rfl,W4,hM4,hk4,hL4⟩
    have hml:ms.length<=63:=by
     have:=congrArg List.length hk4;rw[Ab,Ab] at this;omega
    exact rest10 p O OT KN TH M os bs ks ts pss qss ms _ _ _ H4 W4 hM4 hws h56 hv hml
  obtain⟨tr9,htr9,rest9⟩:=R9;have R8:∃tr,PSs (cxOf CX0 P w K mg base nmL "law" (za sLaw) f cdv A outer s H E).nox (List.drop 8 (zl sLaw)) tr/\
    ∀(p O OT KN TH M:Addr) (os bs ks ts:List Addr) (pss qss:List (List Int)) (ns:List (Int×Int)) (wy x:Int) (H2:Hp),W3 H2 p O OT KN TH os bs ks ts pss qss->H2 M=some (zV ns)->webS pss->(canon pss).length<=56->webS qss->ns.length<=62->
     tr { nx:=fun _ H'=>Q .non H',rt:=Q } [some (.ref a),some (.ref p),some (.ref O),some (.ref OT),some (.ref M),some (.ref KN),some (.ref TH),some (.int wy),some (.int x),none,none,none,none,none,none] H2:=by
   refine⟨_,zb (zU (PW.pt (zfY (zo zaC (pv 7) zf (nomark _)) (zdq (zka (zl1 hu (pv 8) (pv 4)) (by with_unfolding_all rfl)))))
     (ze (zaV hu (pv 4) (pv 8) (zK zC (zO (pa_cons zf (pa_cons (zkz zhg zf) (pa_cons (pv 8) pa_nil)))) (zi Gt hr1 rfl mt Ft.kp bt .nil pass0 (pa_cons (pv 1) (pa_cons zf pa_nil))) (fun _ _=>rfl)) rfl)) zv)
    htr9,?_⟩
   intro p O OT KN TH M os bs ks ts pss qss ns wy x H2 W hM hws h56 hv hln;have N:∀H2 ns,W3 H2 p O OT KN TH os bs ks ts pss qss->H2 M=some (zV ns)->ns.length<=63->_:=fun H2 ns W hM h=>rest9 p O OT KN TH M os bs ks ts pss qss ns wy x H2 W hM hws h56 hv h;refine⟨_,rfl,rfl,_,rfl,ite2 (fun _=>?_) (fun _=>N H2 ns W hM (by omega))⟩;refine⟨_,rfl,_,rfl,M,_,rfl,DGet.k (k:=Sum.inl x) hM,_,rfl,ite2 (fun _=>?_) (fun _=>N H2 ns W hM (by omega))⟩;refine⟨_,rfl,_,rfl,zd (by simp),fun L hL=>?_⟩;have sL:=Same.new (o:=.lst [.int 98,.int (-1),.int x]) hL;have W3':=W.same sL;refine⟨_,rfl,p,3,rfl,W3'.bx,by decide,by decide,fun r H4 r0 r1 sb4 hb4=>?_⟩;have W4:=W3'.box sb4 hb4;have hM4:=sb4 _ _ (zbp W3'.bx (sL _ _ hM)) (sL _ _ hM);have hLp:L≠p:=by
    obtain⟨_,_,e,_⟩:=W.bx;exact (zg e hL).symm
   have hL4:=sb4 _ _ hLp upd_same;obtain⟨z,ez⟩:∃z,atI [V.int 98,V.int (-1),V.int x] r=some (.int z):=by
    have:r=0 \/ r=1 \/ r=2:=by omega
    rcases this with rfl | rfl | rfl
    ·exact⟨_,zu (j:=0) rfl⟩
    ·exact⟨_,zu (j:=1) rfl⟩
    ·exact⟨_,zu (j:=2) rfl⟩
   obtain⟨ms,e',hl',_⟩:=zeX (ns:=ns) (x:=x) (y:=z);refine⟨L,_,_,.int z,rfl,rfl,SqL.of hL4,ez,_,rfl,_,rfl,M,_,rfl,DPut.k (k:=Sum.inl x) hM4 (by rw[zhx]; exact zab (by omega)),?_⟩;exact N _ ms (W4.put hM4) (by rw[upd_same,e']) (by omega)
  obtain⟨tr8,htr8,rest8⟩:=R8;have R7:∃tr,PSs (cxOf CX0 P w K mg base nmL "law" (za sLaw) f cdv A outer s H E).nox (List.drop 7 (zl sLaw)) tr/\
    ∀(p O OT KN TH M:Addr) (os bs ks ts:List Addr) (pss qss:List (List Int)) (ns:List (Int×Int)) (wy x:Int) (H2:Hp),W3 H2 p O OT KN TH os bs ks ts pss qss->H2 M=some (zV ns)->webS pss->(canon pss).length<=56->webS qss->ns.length<=60->
     tr { nx:=fun _ H'=>Q .non H',rt:=Q } [some (.ref a),some (.ref p),some (.ref O),some (.ref OT),some (.ref M),some (.ref KN),some (.ref TH),some (.int wy),some (.int x),none,none,none,none,none,none] H2:=by
   refine⟨_,zb (zU (zo zaC (pv 7) zf (nomark _)) (ze (zaV hu (pv 4) zf zf rfl)) zv) htr8,?_⟩;intro p O OT KN TH M os bs ks ts pss qss ns wy x H2 W hM hws h56 hv hln;refine⟨_,rfl,rfl,_,rfl,ite2 (fun _=>?_) (fun _=>rest8 p O OT KN TH M os bs ks ts pss qss ns wy x H2 W hM hws h56 hv (by omega))⟩;obtain⟨ms,e',hl',_⟩:=zeX (ns:=ns) (x:=50) (y:=0);refine⟨_,rfl,M,_,rfl,DPut.k (k:=Sum.inl 50) hM (by rw[zhx]; exact zab (by omega)),?_⟩;exact rest8 p O OT KN TH M os bs ks ts pss qss ms wy x _ (W.put hM) (by rw[upd_same,e']) hws h56 hv (by omega)
  obtain⟨tr7,htr7,rest7⟩:=R7;have R6:∃tr,PSs (cxOf CX0 P w K mg base nmL "law" (za sLaw) f cdv A outer s H E).nox (List.drop 6 (zl sLaw)) tr/\
    ∀(p O OT KN TH M:Addr) (os bs ks ts:List Addr) (pss qss:List (List Int)) (ns:List (Int×Int)) (wy x:Int) (H2:Hp),W3 H2 p O OT KN TH os bs ks ts pss qss->H2 M=some (zV ns)->webS pss->(canon pss).length<=56->webS qss->ns.length<=60->
     tr { nx:=fun _ H'=>Q .non H',rt:=Q } [some (.ref a),some (.ref p),some (.ref O),some (.ref OT),some (.ref M),some (.ref KN),some (.ref TH),some (.int wy),some (.int x),none,none,none,none,none,none] H2:=by
   refine⟨_,zb (zU (zo zaC (pv 7) zf (nomark _)) (ze (zaB (zik (pv 4) (pv 8) zf ⟨rfl,rfl,rfl,rfl⟩))) zv) htr7,?_⟩;intro p O OT KN TH M os bs ks ts pss qss ns wy x H2 W hM hws h56 hv hln;refine⟨_,rfl,rfl,_,rfl,ite2 (fun _=>?_) (fun _=>rest7 p O OT KN TH M os bs ks ts pss qss ns wy x H2 W hM hws h56 hv hln)⟩;refine⟨_,rfl,M,rfl,.inl ⟨_,.inl hM⟩,_,rfl,kZ ns,Sum.inl x,hM,rfl,fun v _=>?_,fun _=>rest7 p O OT KN TH M os bs ks ts pss qss ns wy x H2 W hM hws h56 hv hln⟩;refine rest7 p O OT KN TH M os bs ks ts pss qss _ wy x _ (W.put hM) (by rw[upd_same,zkP]) hws h56 hv (AF (List.length_filter_le _ _) hln)
  obtain⟨tr6,htr6,rest6⟩:=R6;have R4:∃tr,PSs (cxOf CX0 P w K mg base nmL "law" (za sLaw) f cdv A outer s H E).nox (List.drop 4 (zl sLaw)) tr/\
    ∀(p O OT KN TH M:Addr) (os bs ks ts:List Addr) (pss qss:List (List Int)) (ns:List (Int×Int)) (H2:Hp),W3 H2 p O OT KN TH os bs ks ts pss qss->H2 M=some (zV ns)->webS pss->(canon pss).length<=56->webS qss->ns.length<=60->
     tr { nx:=fun _ H'=>Q .non H',rt:=Q } [some (.ref a),some (.ref p),some (.ref O),some (.ref OT),some (.ref M),some (.ref KN),some (.ref TH),none,none,none,none,none,none,none,none] H2:=by
   refine⟨_,zb (zn (i:=7) zbC.nd rfl (Or.inl rfl) (zi Gt hr1 rfl mt Ft.kp bt .nil pass0 (pa_cons (pv 1) (pa_cons zf pa_nil))))
    (zb (zn (i:=8) zbC.nd rfl (Or.inl rfl) (zK zC
     (zy nmL ["piece"] [none] (zw (zG zbF (pv 5) (zO (pa_cons (zaX (pa_cons zf pa_nil)) pa_nil)))) (fun cl C s₀ H₀ ex=>zm (i:=0) (ndN ["piece"]) rfl (Or.inl rfl)) (fun cl C s₀ H₀ ex=>zL)
      (fun cl C s₀ H₀ ex=>zK zaw (pv 0) zf (fun _ _=>rfl)) (hfr:=nofr (by decide +kernel)) (te:=zf9 K))
     (zi Gt hr1 rfl mt Ft.kp bt .nil pass0 (pa_cons (pv 1) (pa_cons (zG zbd (zj zh rfl B.len z0 (pa_cons (pv 5) pa_nil)) zf) pa_nil))) (fun _ _=>rfl)))
    htr6),?_⟩
   intro p O OT KN TH M os bs ks ts pss qss ns H2 W hM hws h56 hv hln;have hkl:=W.hk.length;refine⟨_,rfl,p,8,rfl,W.bx,by decide,by decide,fun wy H3 _ _ sb3 hb3=>?_⟩;have W3':=W.box sb3 hb3;have hM3:=sb3 _ _ (zbp W.bx hM) hM;refine⟨_,rfl,zd (by simp),fun t ht=>⟨zd (by simp),fun L hL=>?_⟩⟩;have s1:=Same.new (o:=.tup [.int 50]) ht;have s2:=s1.trans (Same.new (o:=.lst [.ref t]) hL);refine⟨KN,L,_,_,rfl,rfl,(s2 _ _ W3'.hK),upd_same,zd (by rw[Ab]; simp; omega),fun L2 hL2=>?_⟩;have s3:=s2.trans (Same.new (o:=.lst (ks.map V.ref++[.ref t])) hL2);have hL2':=upd_same (H:=upd (upd H3 t (.tup [.int 50])) L (.lst [.ref t])) (a:=L2) (o:=.lst (ks.map V.ref++[.ref t]));have ht2:Tp (upd (upd (upd H3 t (.tup [.int 50])) L (.lst [.ref t])) L2 (.lst (ks.map V.ref++[.ref t]))) t [50]:=Same.new hL2 _ _ (Same.new hL _ _ upd_same);generalize upd (upd (upd H3 t (.tup [.int 50])) L (.lst [.ref t])) L2 (.lst (ks.map V.ref++[.ref t]))=H4 at s3 hL2' ht2;have W4:=W3'.same s3;rw[show ks.map V.ref++[.ref t]=(ks++[t]).map V.ref from by rw[Ak]; rfl] at hL2';refine⟨L2,rfl,⟨_,SqL.of hL2'⟩,fun D hD=>zz (zkF (kn:=canon pss++[[50]]) (SqL.of hL2') (Tps.append W4.hk (.cons ht2 .nil)) (by rw[At]; simp; omega) (fun q hq=>?_) hD fun H5 s5 h5=>?_)⟩
   ·rcases List.mem_append.mp hq with h | h
    ·exact (can5 hws.1 q h).2
    ·rw[List.mem_singleton.mp h]; simp
   have W5:=W4.same s5;have hM5:=s5 _ _ (s3 _ _ hM3);refine⟨_,rfl,_,rfl,KN,_,rfl,.inl (SqL.of W5.hK),_,_,rfl,rfl,p,_,rfl,W5.bx,by rw[Ab]; omega,by rw[Ab]; omega,fun r H6 r0 r1 sb6 hb6=>?_⟩;have W6:=W5.box sb6 hb6;have hM6:=sb6 _ _ (zbp W5.bx hM5) hM5;have hDp:D≠p:=by
    obtain⟨_,_,e,_⟩:=W4.bx;exact (zg e hD).symm
   have h6:=sb6 _ _ hDp h5;rw[Ab] at r1;obtain⟨n,rfl⟩:=Int.eq_ofNat_of_zero_le r0;have hn:n<((canon pss++[[50]]).map (fun l:List Int=>l.headD 0)).length:=by rw[Ab,At]; simp; omega
   refine⟨D,_,_,_,rfl,rfl,SqL.of h6,zu (j:=n) (by rw[Ap,Ag hn]; rfl),?_⟩;exact rest6 p O OT KN TH M os bs ks ts pss qss ns wy _ H6 W6 hM6 hws h56 hv hln
  obtain⟨tr4,htr4,rest4⟩:=R4;refine⟨_,zb (zn (i:=1) zbC.nd rfl (Or.inl rfl) (zi Gb hr1 rfl mb Fb.kp bb .nil pass0 (pa_cons (zi Gc hr1 rfl mc Fc.kp bc .nil pass0 (pa_cons (pv 0) (pa_cons zf pa_nil))) pa_nil)))
   (zb (zfW (zi Gp hr4 rfl mp Fp.kp bp .nil pass0 (pa_cons (pv 1) pa_nil)) (zhM rfl (zaO (zm (i:=2) zbC.nd rfl (Or.inl rfl)) (zaO (zm (i:=3) zbC.nd rfl (Or.inl rfl)) (zaO (zm (i:=4) zbC.nd rfl (Or.inr rfl)) zeC)))))
   (zb (zn (i:=5) zbC.nd rfl (Or.inl rfl) (zi Gl hr2 rfl ml Fl.kp bl .nil pass0 (pa_cons (pv 2) pa_nil)))
   (zb (zn (i:=6) zbC.nd rfl (Or.inl rfl) (zi Gl hr2 rfl ml Fl.kp bl .nil pass0 (pa_cons (pv 3) pa_nil)))
   htr4))),?_⟩
  refine⟨_,rfl,a,nn,rfl,hS,fun n=>⟨n,rfl,fun p x y hp bo=>?_⟩⟩;refine⟨_,rfl,p,rfl,⟨x,y,upd_same,bo⟩,fun T O OT M os bs pss qss ns H1 sb1 hb1 hT1 hO1 ho1 hdr hOT1 hbs1 hv h56q hM1 hd=>?_⟩;refine⟨T,_,rfl,SqT.of hT1,rfl,_,_,rfl,_,_,rfl,_,_,rfl,rfl,?_⟩;obtain⟨hw,hnd,h17⟩:=zaK hdr;obtain⟨h20,_,h5,_⟩:=zal hw;have h56:(canon pss).length<=56:=by rw[zI]; exact zaH hdr
  have hws:webS pss:=⟨hw,by omega⟩;obtain⟨q20,_,q5,_⟩:=zal hv.1;refine⟨_,rfl,O,os,pss,rfl,SqL.of hO1,ho1,h5,AF h20 (by decide),by rw[<- zI]; omega,fun KN H2 qs t=>?_⟩;obtain⟨ks,sm2,_,hKN2,hks2⟩:=zae t;refine⟨_,rfl,OT,bs,qss,rfl,SqL.of (sm2 _ _ hOT1),sm2.tps hbs1,q5,AF q20 (by decide),by rw[<- zI]; omega,fun TH H3 qs3 t3=>?_⟩;obtain⟨ts,sm3,_,hTH3,hts3⟩:=zae t3;have s23:=sm2.trans sm3;have hnl:ns.length<=60:=by
   have e:=congrArg List.length hd;rw[Ab] at e;have:=zbn (canon pss);omega
  exact rest4 p O OT KN TH M os bs ks ts pss qss ns H3 ⟨hb1.same s23,s23 _ _ hO1,s23.tps ho1,s23 _ _ hOT1,s23.tps hbs1,sm3 _ _ hKN2,sm3.tps hks2,hTH3,hts3⟩ (s23 _ _ hM1) hws h56 hv hnl
end
end K52
end
section
namespace K52
open K1
open PySem L2 STb
section
variable {P:Program}{w:World}{K:Ae}{mg:Str->Option Value}{base:Heap}
theorem FnOk.or {CX:CXT}{k:Nat}{f:Addr}{fd:FuncData}{ps:List Str}{sp sq:Sp} (F:FnOk P w K mg base CX k f fd ps sp) (G:FnOk P w K mg base CX k f fd ps sq):FnOk P w K mg base CX k f fd ps (fun vs H Q E=>sp vs H Q E \/ sq vs H Q E):=
 ⟨fun vs H Q E h=>h.elim (F.len vs H Q E) (G.len vs H Q E),fun A outer s H args us vs Q E hr he hb hv h=>h.elim (F.run A outer s H args us vs Q E hr he hb hv) (G.run A outer s H args us vs Q E hr he hb hv)⟩
end
end K52
end
section
namespace K52
open K1
open PySem L2 STb
theorem ln1 {α:Type}{us:List α}{p:Str} (h:us.length=[p].length):∃a,us=[a]:=by
 rcases us with _ | ⟨a,_ | ⟨b,t⟩⟩
 ·cases h
 ·exact⟨a,rfl⟩
 ·simp at h
theorem ln2 {α:Type}{us:List α}{p q:Str} (h:us.length=[p,q].length):∃a b,us=[a,b]:=by
 rcases us with _ | ⟨a,t⟩
 ·cases h
 ·obtain⟨b,rfl⟩:=ln1 (p:=p) (Nat.succ.inj h)
  exact⟨a,b,rfl⟩
theorem ln3 {α:Type}{us:List α}{p q r:Str} (h:us.length=[p,q,r].length):∃a b c,us=[a,b,c]:=by
 rcases us with _ | ⟨a,t⟩
 ·cases h
 ·obtain⟨b,c,rfl⟩:=ln2 (p:=p) (q:=q) (Nat.succ.inj h)
  exact⟨a,b,c,rfl⟩
theorem zmk {l:PySem.W.OpenLaw}{w:World}{K:Ae}{h:Heap}{mg:Str->Option Value}{fa f1 f2 f3 f4 f5 f6 f7 f8 f9 f10 f11 f12 f13 f14 f15 f16 f17 f18 f19 f20 f21 f22 f23 f24 f25 f26 f27 f28 f29 f30 f31 f32 e0 e1 e2 e3 e4 e5 e6 e7 e8 e9 e10 eS:Addr} (X:K.In h) (G:h.Ns mainGlobals mg) (hfa:mg "law"=some (.ref fa))
  {od1 an1 od2 an2 od3 an3 od4 an4 od5 an5 od6 an6 od7 an7 od8 an8 od9 an9 od10 an10 od11 an11 od12 an12 od13 an13 od14 an14 od15 an15 od16 an16 od17 an17 od18 an18 od19 an19 od20 an20 od21 an21 od22 an22 od23 an23 od24 an24 od25 an25 od26 an26 od27 an27 od28 an28 od29 an29 od30 an30 od31 an31 od32 an32:Option Addr} {sl1 sl2 sl3 sl4 sl5 sl6 sl7 sl8 sl9 sl10 sl11 sl12 sl13 sl14 sl15 sl16 sl17 sl18 sl19 sl20 sl21 sl22 sl23 sl24 sl25 sl26 sl27 sl28 sl29 sl30 sl31 sl32:Array (Option Value)} {oc1 kV1 dc1 pm1 cd1 ct1 oc2 kV2 dc2 pm2 cd2 ct2 oc3 kV3 dc3 pm3 cd3 ct3 oc4 kV4 dc4 pm4 cd4 ct4 oc5 kV5 dc5 pm5 cd5 ct5 oc6 kV6 dc6 pm6 cd6 ct6 oc7 kV7 dc7 pm7 cd7 ct7 oc8 kV8 dc8 pm8 cd8 ct8 oc9 kV9 dc9 pm9 cd9 ct9 oc10 kV10 dc10 pm10 cd10 ct10 oc11 kV11 dc11 pm11 cd11 ct11 oc12 kV12 dc12 pm12 cd12 ct12 oc13 kV13 dc13 pm13 cd13 ct13 oc14 kV14 dc14 pm14 cd14 ct14 oc15 kV15 dc15 pm15 cd15 ct15 oc16 kV16 dc16 pm16 cd16 ct16 oc17 kV17 dc17 pm17 cd17 ct17 oc18 kV18 dc18 pm18 cd18 ct18 oc19 kV19 dc19 pm19 cd19 ct19 oc20 kV20 dc20 pm20 cd20 ct20 oc21 kV21 dc21 pm21 cd21 ct21 oc22 kV22 dc22 pm22 cd22 ct22 oc23 kV23 dc23 pm23 cd23 ct23 oc24 kV24 dc24 pm24 cd24 ct24 oc25 kV25 dc25 pm25 cd25 ct25 oc26 kV26 dc26 pm26 cd26 ct26 oc27 kV27 dc27 pm27 cd27 ct27 oc28 kV28 dc28 pm28 cd28 ct28 oc29 kV29 dc29 pm29 cd29 ct29 oc30 kV30 dc30 pm30 cd30 ct30 oc31 kV31 dc31 pm31 cd31 ct31 oc32 kV32 dc32 pm32 cd32 ct32:Value} {tp tq tr ts:Tok}
  (a1:Am K mainGlobals "is_piece"=some (some (.ref f1))) (l1:K.lookup f1=some ⟨oc1,od1,.func (AE "is_piece" "is_piece" (zr zcs) (zl zcs) (za zcs) .none kV1 dc1 pm1 an1 cd1 ct1),sl1⟩) (c1:AC K cd1 "is_piece"=true) (k1:AA K (.ref f1)=true)
  (a2:Am K mainGlobals "parts_of"=some (some (.ref f2))) (l2:K.lookup f2=some ⟨oc2,od2,.func (AE "parts_of" "parts_of" (zr zbV) (zl zbV) (za zbV) .none kV2 dc2 pm2 an2 cd2 ct2),sl2⟩) (c2:AC K cd2 "parts_of"=true) (k2:AA K (.ref f2)=true)
  (a3:Am K mainGlobals "rims_of"=some (some (.ref f3))) (l3:K.lookup f3=some ⟨oc3,od3,.func (AE "rims_of" "rims_of" (zr zeb) (zl zeb) (za zeb) .none kV3 dc3 pm3 an3 cd3 ct3),sl3⟩) (c3:AC K cd3 "rims_of"=true) (k3:AA K (.ref f3)=true)
  (a4:Am K mainGlobals "order_key"=some (some (.ref f4))) (l4:K.lookup f4=some ⟨oc4,od4,.func (AE "order_key" "order_key" (zr sKey) (zl sKey) (za sKey) .none kV4 dc4 pm4 an4 cd4 ct4),sl4⟩) (c4:AC K cd4 "order_key"=true) (k4:AA K (.ref f4)=true)
  (a5:Am K mainGlobals "in_order"=some (some (.ref f5))) (l5:K.lookup f5=some ⟨oc5,od5,.func (AE "in_order" "in_order" (zr zbG) (zl zbG) (za zbG) .none kV5 dc5 pm5 an5 cd5 ct5),sl5⟩) (c5:AC K cd5 "in_order"=true) (k5:AA K (.ref f5)=true)
  (a6:Am K mainGlobals "all_parts"=some (some (.ref f6))) (l6:K.lookup f6=some ⟨oc6,od6,.func (AE "all_parts" "all_parts" (zr sAll) (zl sAll) (za sAll) .none kV6 dc6 pm6 an6 cd6 ct6),sl6⟩) (c6:AC K cd6 "all_parts"=true) (k6:AA K (.ref f6)=true)
  (a7:Am K mainGlobals "greatest_of"=some (some (.ref f7))) (l7:K.lookup f7=some ⟨oc7,od7,.func (AE "greatest_of" "greatest_of" (zr zd1) (zl zd1) (za zd1) .none kV7 dc7 pm7 an7 cd7 ct7),sl7⟩) (c7:AC K cd7 "greatest_of"=true) (k7:AA K (.ref f7)=true)
  (a8:Am K mainGlobals "is_web"=some (some (.ref f8))) (l8:K.lookup f8=some ⟨oc8,od8,.func (AE "is_web" "is_web" (zr zcq) (zl zcq) (za zcq) .none kV8 dc8 pm8 an8 cd8 ct8),sl8⟩) (c8:AC K cd8 "is_web"=true) (k8:AA K (.ref f8)=true)
  (a9:Am K mainGlobals "must_be_web"=some (some (.ref f9))) (l9:K.lookup f9=some ⟨oc9,od9,.func (AE "must_be_web" "must_be_web" (zr zeJ) (zl zeJ) (za zeJ) .none kV9 dc9 pm9 an9 cd9 ct9),sl9⟩) (c9:AC K cd9 "must_be_web"=true) (k9:AA K (.ref f9)=true)
  (a10:Am K mainGlobals "pieces"=some (some (.ref f10))) (l10:K.lookup f10=some ⟨oc10,od10,.func (AE "pieces" "pieces" (zr zbw) (zl zbw) (za zbw) .none kV10 dc10 pm10 an10 cd10 ct10),sl10⟩) (c10:AC K cd10 "pieces"=true) (k10:AA K (.ref f10)=true)
  (a11:Am K mainGlobals "is_map"=some (some (.ref f11))) (l11:K.lookup f11=some ⟨oc11,od11,.func (AE "is_map" "is_map" (zr zbt) (zl zbt) (za zbt) .none kV11 dc11 pm11 an11 cd11 ct11),sl11⟩) (c11:AC K cd11 "is_map"=true) (k11:AA K (.ref f11)=true)
  (a12:Am K mainGlobals "must_be_map"=some (some (.ref f12))) (l12:K.lookup f12=some ⟨oc12,od12,.func (AE "must_be_map" "must_be_map" (zr zbK) (zl zbK) (za zbK) .none kV12 dc12 pm12 an12 cd12 ct12),sl12⟩) (c12:AC K cd12 "must_be_map"=true) (k12:AA K (.ref f12)=true)
  (a13:Am K mainGlobals "image_of"=some (some (.ref f13))) (l13:K.lookup f13=some ⟨oc13,od13,.func (AE "image_of" "image_of" (zr zb8) (zl zb8) (za zb8) .none kV13 dc13 pm13 an13 cd13 ct13),sl13⟩) (c13:AC K cd13 "image_of"=true) (k13:AA K (.ref f13)=true)
  (a14:Am K mainGlobals "names_along"=some (some (.ref f14))) (l14:K.lookup f14=some ⟨oc14,od14,.func (AE "names_along" "names_along" (zr zcb) (zl zcb) (za zcb) .none kV14 dc14 pm14 an14 cd14 ct14),sl14⟩) (c14:AC K cd14 "names_along"=true) (k14:AA K (.ref f14)=true)
  (a15:Am K mainGlobals "image"=some (some (.ref f15))) (l15:K.lookup f15=some ⟨oc15,od15,.func (AE "image" "image" (zr sIm) (zl sIm) (za sIm) .none kV15 dc15 pm15 an15 cd15 ct15),sl15⟩) (c15:AC K cd15 "image"=true) (k15:AA K (.ref f15)=true)
  (a16:Am K mainGlobals "_law_cell_at"=some (some (.ref f16))) (l16:K.lookup f16=some ⟨oc16,od16,.func (AE "_law_cell_at" "_law_cell_at" (zr zeT) (zl zeT) (za zeT) .none kV16 dc16 pm16 an16 cd16 ct16),sl16⟩) (c16:AC K cd16 "_law_cell_at"=true) (k16:AA K (.ref f16)=true)
  (a17:Am K mainGlobals "_law_box"=some (some (.ref f17))) (l17:K.lookup f17=some ⟨oc17,od17,.func (AE "_law_box" "_law_box" (zr sBox) (zl sBox) (za sBox) .none kV17 dc17 pm17 an17 cd17 ct17),sl17⟩) (c17:AC K cd17 "_law_box"=true) (k17:AA K (.ref f17)=true)
  (a18:Am K mainGlobals "_law_take"=some (some (.ref f18))) (l18:K.lookup f18=some ⟨oc18,od18,.func (AE "_law_take" "_law_take" (zr zcR) (zl zcR) (za zcR) .none kV18 dc18 pm18 an18 cd18 ct18),sl18⟩) (c18:AC K cd18 "_law_take"=true) (k18:AA K (.ref f18)=true)
  (a19:Am K mainGlobals "_law_parts"=some (some (.ref f19))) (l19:K.lookup f19=some ⟨oc19,od19,.func (AE "_law_parts" "_law_parts" (zr za5) (zl za5) (za za5) .none kV19 dc19 pm19 an19 cd19 ct19),sl19⟩) (c19:AC K cd19 "_law_parts"=true) (k19:AA K (.ref f19)=true)
  (a20:Am K mainGlobals "_law_pieces"=some (some (.ref f20))) (l20:K.lookup f20=some ⟨oc20,od20,.func (AE "_law_pieces" "_law_pieces" (zr zar) (zl zar) (za zar) .none kV20 dc20 pm20 an20 cd20 ct20),sl20⟩) (c20:AC K cd20 "_law_pieces"=true) (k20:AA K (.ref f20)=true)
  (a21:Am K mainGlobals "_law_known"=some (some (.ref f21))) (l21:K.lookup f21=some ⟨oc21,od21,.func (AE "_law_known" "_law_known" (zr zct) (zl zct) (za zct) .none kV21 dc21 pm21 an21 cd21 ct21),sl21⟩) (c21:AC K cd21 "_law_known"=true) (k21:AA K (.ref f21)=true)
  (a22:Am K mainGlobals "_law_named"=some (some (.ref f22))) (l22:K.lookup f22=some ⟨oc22,od22,.func (AE "_law_named" "_law_named" (zr zb5) (zl zb5) (za zb5) .none kV22 dc22 pm22 an22 cd22 ct22),sl22⟩) (c22:AC K cd22 "_law_named"=true) (k22:AA K (.ref f22)=true)
  (a23:Am K mainGlobals "_law_web"=some (some (.ref f23))) (l23:K.lookup f23=some ⟨oc23,od23,.func (AE "_law_web" "_law_web" (zr sWeb) (zl sWeb) (za sWeb) .none kV23 dc23 pm23 an23 cd23 ct23),sl23⟩) (c23:AC K cd23 "_law_web"=true) (k23:AA K (.ref f23)=true)
  (a24:Am K mainGlobals "_law_greatest"=some (some (.ref f24))) (l24:K.lookup f24=some ⟨oc24,od24,.func (AE "_law_greatest" "_law_greatest" (zr zan) (zl zan) (za zan) .none kV24 dc24 pm24 an24 cd24 ct24),sl24⟩) (c24:AC K cd24 "_law_greatest"=true) (k24:AA K (.ref f24)=true)
  (a25:Am K mainGlobals "_law_whole"=some (some (.ref f25))) (l25:K.lookup f25=some ⟨oc25,od25,.func (AE "_law_whole" "_law_whole" (zr zcH) (zl zcH) (za zcH) .none kV25 dc25 pm25 an25 cd25 ct25),sl25⟩) (c25:AC K cd25 "_law_whole"=true) (k25:AA K (.ref f25)=true)
  (a26:Am K mainGlobals "_law_pieces_like"=some (some (.ref f26))) (l26:K.lookup f26=some ⟨oc26,od26,.func (AE "_law_pieces_like" "_law_pieces_like" (zr ze2) (zl ze2) (za ze2) .none kV26 dc26 pm26 an26 cd26 ct26),sl26⟩) (c26:AC K cd26 "_law_pieces_like"=true) (k26:AA K (.ref f26)=true)
  (a27:Am K mainGlobals "_law_image"=some (some (.ref f27))) (l27:K.lookup f27=some ⟨oc27,od27,.func (AE "_law_image" "_law_image" (zr zaU) (zl zaU) (za zaU) .none kV27 dc27 pm27 an27 cd27 ct27),sl27⟩) (c27:AC K cd27 "_law_image"=true) (k27:AA K (.ref f27)=true)
  (a28:Am K mainGlobals "_law_is_map"=some (some (.ref f28))) (l28:K.lookup f28=some ⟨oc28,od28,.func (AE "_law_is_map" "_law_is_map" (zr za9) (zl za9) (za za9) .none kV28 dc28 pm28 an28 cd28 ct28),sl28⟩) (c28:AC K cd28 "_law_is_map"=true) (k28:AA K (.ref f28)=true)
  (a29:Am K mainGlobals "_law_pair"=some (some (.ref f29))) (l29:K.lookup f29=some ⟨oc29,od29,.func (AE "_law_pair" "_law_pair" (zr zbv) (zl zbv) (za zbv) .none kV29 dc29 pm29 an29 cd29 ct29),sl29⟩) (c29:AC K cd29 "_law_pair"=true) (k29:AA K (.ref f29)=true)
  (a30:Am K mainGlobals "_law_which"=some (some (.ref f30))) (l30:K.lookup f30=some ⟨oc30,od30,.func (AE "_law_which" "_law_which" (zr za3) (zl za3) (za za3) .none kV30 dc30 pm30 an30 cd30 ct30),sl30⟩) (c30:AC K cd30 "_law_which"=true) (k30:AA K (.ref f30)=true)
  (a31:Am K mainGlobals "_law_asked"=some (some (.ref f31))) (l31:K.lookup f31=some ⟨oc31,od31,.func (AE "_law_asked" "_law_asked" (zr zcJ) (zl zcJ) (za zcJ) .none kV31 dc31 pm31 an31 cd31 ct31),sl31⟩) (c31:AC K cd31 "_law_asked"=true) (k31:AA K (.ref f31)=true)
  (a32:Am K mainGlobals "law"=some (some (.ref f32))) (l32:K.lookup f32=some ⟨oc32,od32,.func (AE "law" "law" (zr sLaw) (zl sLaw) (za sLaw) .none kV32 dc32 pm32 an32 cd32 ct32),sl32⟩) (c32:AC K cd32 "law"=true) (k32:AA K (.ref f32)=true)
  (gp:Am K mainGlobals "MOST_POINTS"=some (some (.int 5 tp)))
  (gq:Am K mainGlobals "LAST_POINT"=some (some (.int 99 tq)))
  (gr:Am K mainGlobals "MOST_HANDED"=some (some (.int 20 tr)))
  (gs:Am K mainGlobals "MOST_PIECES"=some (some (.int 200 ts)))
  (ve0:Am K mainGlobals "NoWeb"=some (some (.ref e0)))
  (ve1:Am K mainGlobals "NoPiece"=some (some (.ref e1)))
  (ve2:Am K mainGlobals "NoChain"=some (some (.ref e2)))
  (ve3:Am K mainGlobals "NotClosed"=some (some (.ref e3)))
  (ve4:Am K mainGlobals "NoTable"=some (some (.ref e4)))
  (ve5:Am K mainGlobals "NoGoal"=some (some (.ref e5)))
  (ve6:Am K mainGlobals "NoPush"=some (some (.ref e6)))
  (ve7:Am K mainGlobals "NoMap"=some (some (.ref e7)))
  (ve8:Am K mainGlobals "NoOrder"=some (some (.ref e8)))
  (ve9:Am K mainGlobals "NoNumber"=some (some (.ref e9)))
  (ve10:Am K mainGlobals "NoNote"=some (some (.ref e10)))
  (veS:Am K mainGlobals "SeamError"=some (some (.ref eS)))
  (qe7:PySem.W.excIn K e7 bmV "ValueError.__new__"=true)
  (qeS:PySem.W.excIn K eS bmV "ValueError.__new__"=true)
  (ue7:PySem.W.mroIn K e7 (.ref eS)=some true)
  (xae7:PySem.W.findIn K (.ref e7) "__getattribute__"=some (some (.builtin "BaseException.__getattribute__")))
  (xbe7:PySem.W.findIn K (.ref e7) "__getattr__"=some none)
  (xce7:PySem.W.findIn K (.ref e7) "__class__"=some (some (.builtin "object.__class__")))
  (xfe7:PySem.W.mroIn K e7 (.type "object")=some true)
  (xge7:PySem.W.mroIn K e7 (.type "BaseException")=some true)
  (ye7e0:AM K (.ref e7) (.ref e0)=some false)
  (ye7e1:AM K (.ref e7) (.ref e1)=some false)
  (ye7e2:AM K (.ref e7) (.ref e2)=some false)
  (ye7e3:AM K (.ref e7) (.ref e3)=some false)
  (ye7e4:AM K (.ref e7) (.ref e4)=some false)
  (ye7e5:AM K (.ref e7) (.ref e5)=some false)
  (ye7e6:AM K (.ref e7) (.ref e6)=some false)
  (ye7e7:AM K (.ref e7) (.ref e7)=some true)
  (ye7e8:AM K (.ref e7) (.ref e8)=some false)
  (ye7e9:AM K (.ref e7) (.ref e9)=some false)
  (ye7e10:AM K (.ref e7) (.ref e10)=some false)
  (yve7:AM K (.ref e7) (.type "ValueError")=some true)
  (xd:PySem.W.specialIn K (.builtin "object.__class__") "__get__"=some (some (.builtin "getset_descriptor.__get__")))
  (xe:PySem.W.takesIn K (.builtin "object.__class__")=some true)
  (z1:Am K mainGlobals "len"=some none)
  (z2:Am K mainGlobals "all"=some none)
  (z3:Am K mainGlobals "zip"=some none)
  (z4:Am K mainGlobals "sorted"=some none)
  (z5:Am K mainGlobals "set"=some none)
  (z6:Am K mainGlobals "list"=some none)
  (z7:Am K mainGlobals "tuple"=some none)
  (z8:Am K mainGlobals "range"=some none)
  (z9:Am K mainGlobals "enumerate"=some none)
  (z10:Am K mainGlobals "int"=some none)
  (z11:Am K mainGlobals "isinstance"=some none)
  (z12:Am K mainGlobals "reversed"=some none)
  (z13:Am K mainGlobals "bool"=some none)
  (z14:Am K mainGlobals "dict"=some none)
  (z15:Am K mainGlobals "ValueError"=some none) :
  ∃fd:FuncData,(∀(s:Shared) (v:Value),BindsTo s fd ⟨[v],[]⟩ [("script",v)])/\∀base:Heap,K.In base->base.Ns mainGlobals mg->FnOk l.prog w K mg base CX0 13 fa fd ["script"] (ziR K):=by
 have e:=hfa.symm.trans (Ar X G a32);cases e;have B:Bt mg:=⟨AY X G z1,AY X G z2,AY X G z3,AY X G z4,AY X G z5,AY X G z6,AY X G z7,AY X G z8,AY X G z9,AY X G z10,AY X G z11,AY X G z12,AY X G z13,AY X G z14⟩;have F1:=zD (st:=zcs) l1 c1 k1;have b1:=F1.binds (ps:=["numbers"]) fun _ _ _ _ _ _ us hl=>by obtain⟨_,rfl⟩:=ln1 hl; rfl
 have m1:=Ar X G a1;have F2:=zD (st:=zbV) l2 c2 k2;have b2:=F2.binds (ps:=["piece"]) fun _ _ _ _ _ _ us hl=>by obtain⟨_,rfl⟩:=ln1 hl; rfl
 have m2:=Ar X G a2;have F3:=zD (st:=zeb) l3 c3 k3;have b3:=F3.binds (ps:=["piece"]) fun _ _ _ _ _ _ us hl=>by obtain⟨_,rfl⟩:=ln1 hl; rfl
 have m3:=Ar X G a3;have F4:=zD (st:=sKey) l4 c4 k4;have b4:=F4.binds (ps:=["piece"]) fun _ _ _ _ _ _ us hl=>by obtain⟨_,rfl⟩:=ln1 hl; rfl
 have m4:=Ar X G a4;have F5:=zD (st:=zbG) l5 c5 k5;have b5:=F5.binds (ps:=["some"]) fun _ _ _ _ _ _ us hl=>by obtain⟨_,rfl⟩:=ln1 hl; rfl
 have m5:=Ar X G a5;have F6:=zD (st:=sAll) l6 c6 k6;have b6:=F6.binds (ps:=["some"]) fun _ _ _ _ _ _ us hl=>by obtain⟨_,rfl⟩:=ln1 hl; rfl
 have m6:=Ar X G a6;have F7:=zD (st:=zd1) l7 c7 k7;have b7:=F7.binds (ps:=["every"]) fun _ _ _ _ _ _ us hl=>by obtain⟨_,rfl⟩:=ln1 hl; rfl
 have m7:=Ar X G a7;have F8:=zD (st:=zcq) l8 c8 k8;have b8:=F8.binds (ps:=["web"]) fun _ _ _ _ _ _ us hl=>by obtain⟨_,rfl⟩:=ln1 hl; rfl
 have m8:=Ar X G a8;have F9:=zD (st:=zeJ) l9 c9 k9;have b9:=F9.binds (ps:=["web"]) fun _ _ _ _ _ _ us hl=>by obtain⟨_,rfl⟩:=ln1 hl; rfl
 have m9:=Ar X G a9;have F10:=zD (st:=zbw) l10 c10 k10;have b10:=F10.binds (ps:=["web"]) fun _ _ _ _ _ _ us hl=>by obtain⟨_,rfl⟩:=ln1 hl; rfl
 have m10:=Ar X G a10;have F11:=zD (st:=zbt) l11 c11 k11;have b11:=F11.binds (ps:=["web","other","names"]) fun _ _ _ _ _ _ us hl=>by obtain⟨_,_,_,rfl⟩:=ln3 hl; rfl
 have m11:=Ar X G a11;have F12:=zD (st:=zbK) l12 c12 k12;have b12:=F12.binds (ps:=["web","other","names"]) fun _ _ _ _ _ _ us hl=>by obtain⟨_,_,_,rfl⟩:=ln3 hl; rfl
 have m12:=Ar X G a12;have F13:=zD (st:=zb8) l13 c13 k13;have b13:=F13.binds (ps:=["names","piece"]) fun _ _ _ _ _ _ us hl=>by obtain⟨_,_,rfl⟩:=ln2 hl; rfl
 have m13:=Ar X G a13;have F14:=zD (st:=zcb) l14 c14 k14;have b14:=F14.binds (ps:=["names","piece"]) fun _ _ _ _ _ _ us hl=>by obtain⟨_,_,rfl⟩:=ln2 hl; rfl
 have m14:=Ar X G a14;have F15:=zD (st:=sIm) l15 c15 k15;have b15:=F15.binds (ps:=["web","other","names"]) fun _ _ _ _ _ _ us hl=>by obtain⟨_,_,_,rfl⟩:=ln3 hl; rfl
 have m15:=Ar X G a15;have F16:=zD (st:=zeT) l16 c16 k16;have b16:=F16.binds (ps:=["script","k"]) fun _ _ _ _ _ _ us hl=>by obtain⟨_,_,rfl⟩:=ln2 hl; rfl
 have m16:=Ar X G a16;have F17:=zD (st:=sBox) l17 c17 k17;have b17:=F17.binds (ps:=["cell"]) fun _ _ _ _ _ _ us hl=>by obtain⟨_,rfl⟩:=ln1 hl; rfl
 have m17:=Ar X G a17;have F18:=zD (st:=zcR) l18 c18 k18;have b18:=F18.binds (ps:=["box","most"]) fun _ _ _ _ _ _ us hl=>by obtain⟨_,_,rfl⟩:=ln2 hl; rfl
 have m18:=Ar X G a18;have F19:=zD (st:=za5) l19 c19 k19;have b19:=F19.binds (ps:=["piece"]) fun _ _ _ _ _ _ us hl=>by obtain⟨_,rfl⟩:=ln1 hl; rfl
 have m19:=Ar X G a19;have F20:=zD (st:=zar) l20 c20 k20;have b20:=F20.binds (ps:=["web"]) fun _ _ _ _ _ _ us hl=>by obtain⟨_,rfl⟩:=ln1 hl; rfl
 have m20:=Ar X G a20;have F21:=zD (st:=zct) l21 c21 k21;have b21:=F21.binds (ps:=["number"]) fun _ _ _ _ _ _ us hl=>by obtain⟨_,rfl⟩:=ln1 hl; rfl
 have m21:=Ar X G a21;have F22:=zD (st:=zb5) l22 c22 k22;have b22:=F22.binds (ps:=["box","web"]) fun _ _ _ _ _ _ us hl=>by obtain⟨_,_,rfl⟩:=ln2 hl; rfl
 have m22:=Ar X G a22;have F23:=zD (st:=sWeb) l23 c23 k23;have b23:=F23.binds (ps:=["box"]) fun _ _ _ _ _ _ us hl=>by obtain⟨_,rfl⟩:=ln1 hl; rfl
 have m23:=Ar X G a23;have F24:=zD (st:=zan) l24 c24 k24;have b24:=F24.binds (ps:=["web"]) fun _ _ _ _ _ _ us hl=>by obtain⟨_,rfl⟩:=ln1 hl; rfl
 have m24:=Ar X G a24;have F25:=zD (st:=zcH) l25 c25 k25;have b25:=F25.binds (ps:=["x"]) fun _ _ _ _ _ _ us hl=>by obtain⟨_,rfl⟩:=ln1 hl; rfl
 have m25:=Ar X G a25;have F26:=zD (st:=ze2) l26 c26 k26;have b26:=F26.binds (ps:=["found","due"]) fun _ _ _ _ _ _ us hl=>by obtain⟨_,_,rfl⟩:=ln2 hl; rfl
 have m26:=Ar X G a26;have F27:=zD (st:=zaU) l27 c27 k27;have b27:=F27.binds (ps:=["piece","names"]) fun _ _ _ _ _ _ us hl=>by obtain⟨_,_,rfl⟩:=ln2 hl; rfl
 have m27:=Ar X G a27;have F28:=zD (st:=za9) l28 c28 k28;have b28:=F28.binds (ps:=["known","there","names"]) fun _ _ _ _ _ _ us hl=>by obtain⟨_,_,_,rfl⟩:=ln3 hl; rfl
 have m28:=Ar X G a28;have F29:=zD (st:=zbv) l29 c29 k29;have b29:=F29.binds (ps:=["box"]) fun _ _ _ _ _ _ us hl=>by obtain⟨_,rfl⟩:=ln1 hl; rfl
 have m29:=Ar X G a29;have F30:=zD (st:=za3) l30 c30 k30;have b30:=F30.binds (ps:=["e"]) fun _ _ _ _ _ _ us hl=>by obtain⟨_,rfl⟩:=ln1 hl; rfl
 have m30:=Ar X G a30;have F31:=zD (st:=zcJ) l31 c31 k31;have b31:=F31.binds (ps:=["web","other","names"]) fun _ _ _ _ _ _ us hl=>by obtain⟨_,_,_,rfl⟩:=ln3 hl; rfl
 have m31:=Ar X G a31;have F32:=zD (st:=sLaw) l32 c32 k32;have m32:=Ar X G a32;have np:=Ar X G gp;have nq:=Ar X G gq;have nr:=Ar X G gr;have ns:=Ar X G gs;refine⟨AE "law" "law" (zr sLaw) (zl sLaw) (za sLaw) .none kV32 dc32 pm32 an32 cd32 ct32,fun s v=>.of_eq rfl,fun base _ _=>?_⟩;have m_e0:=Ar X G ve0;have m_e1:=Ar X G ve1;have m_e2:=Ar X G ve2;have m_e3:=Ar X G ve3;have m_e4:=Ar X G ve4;have m_e5:=Ar X G ve5;have m_e6:=Ar X G ve6;have m_e7:=Ar X G ve7;have m_e8:=Ar X G ve8;have m_e9:=Ar X G ve9;have m_e10:=Ar X G ve10;have m_eS:=Ar X G veS;have yval:=AY X G z15;have Me7:Mk K e7 e0 e1 e2 e3 e4 e5 e6 e7 e8 e9 e10:=⟨⟨xae7,xbe7,zgt qe7,xce7,xd,xe,xfe7,xge7⟩,ye7e0,ye7e1,ye7e2,ye7e3,ye7e4,ye7e5,ye7e6,ye7e7,ye7e8,ye7e9,ye7e10,yve7⟩;have Se7:SubX K e7 eS:=zkW qe7 qeS ue7;have Gall:=zjC (P:=l.prog) (w:=w) (base:=base) F6 B F2 b2 m2 F5 b5 m5 F4 b4 m4;have Gweb:=zi6 (P:=l.prog) (w:=w) (base:=base) F8 B np nq nr ns F1 b1 m1 F6 b6 m6 F2 b2 m2 F5 b5 m5 F4 b4 m4;have Gm:=zkU F9 F8 b8 m8 Gweb;have Gp:=zhY F10 F9 b9 m9 Gm F6 b6 m6 Gall;have Gtop:=zko (P:=l.prog) (w:=w) (base:=base) F7 B F3 b3 m3 F5 b5 m5 F4 b4 m4;have Gio:=ziX (P:=l.prog) (w:=w) (base:=base) F13 B F14 b14 m14;have Gis:=ziy F11 B F10 b10 m10 Gp F13 b13 m13 Gio;have Gmm:=zi8 F12 F11 b11 m11 Gis;have Gim:=zm1 F15 F12 b12 m12 Gmm F13 b13 m13 Gio F6 b6 m6 Gall F7 b7 m7 Gtop;have Pmm:=zgI F12 m_e7 qe7 F11 b11 m11 Gis;have Pim:=zmr F15 F12 b12 m12 Pmm;have Glp:=zgd (P:=l.prog) (w:=w) (base:=base) F20 B F19 b19 m19;have Glg:=zet F24 B F20 b20 m20 Glp;have Gli:=zdZ (P:=l.prog) (w:=w) (base:=base) F27 B;have Glm:=zhs (P:=l.prog) (w:=w) (base:=base) F28 B F27 b27 m27;have Gpa:=zkw F29 B F18 b18 m18 F23 b23 m23 (zmq F23 B F18 b18 m18 F22 b22 m22 F21 b21 m21) F20 b20 m20 Glp;have Gwh:=ziu (P:=l.prog) (w:=w) (base:=base) F30 B.isinstance yval m_e0 m_e1 m_e2 m_e3 m_e4 m_e5 m_e6 m_e7 m_e8 m_e9 m_e10 Me7;have AG:=zg6 F31 m_eS F15 b15 m15 Gim;have AP:=zhB F31 m_eS F15 b15 m15 F30 b30 m30 Se7 Pim Gwh;have Gk:=zki (P:=l.prog) (w:=w) (base:=base) F26 B F25 b25 m25;exact zlS F32 B F16 b16 m16 F17 b17 m17 F18 b18 m18 F29 b29 m29 Gpa F20 b20 m20 Glp F28 b28 m28 Glm F11 b11 m11 Gis F31 b31 m31 (FnOk.or AG AP) F24 b24 m24 Glg F27 b27 m27 Gli F26 b26 m26 Gk
theorem walk {l:PySem.W.OpenLaw}{q:Program}{loose:List Str}{XP:(Str->Option Value)->Heap->Prop}{YP:World->Heap->Prop}{d:DefRec}{K:Params->Ae} (hn:l.most=some 63) (hdf:d.params.defaults=[])
  (hY:∀(w:World) (h:Heap),YP w h->(K w.params).In h)
  (F:∀(w:World) (mg:Str->Option Value) (fa:Addr) (h:Heap),(K w.params).In h->h.Ns mainGlobals mg->mg d.name=some (.ref fa)->
   ∃fd:FuncData,(∀(s:Shared) (u:Value),BindsTo s fd ⟨[u],[]⟩ [("script",u)])/\∀base:Heap,(K w.params).In base->base.Ns mainGlobals mg->FnOk l.prog w (K w.params) mg base CX0 13 fa fd ["script"] (ziR (K w.params))) :
  PySem.W.WalkO q loose XP YP l.row.toRowW d [] (fun f vs=>PySem.call f vs):=
 L2.zhH (n:=63) (k:=13) (x:="script") (CX:=fun _=>CX0) (sp:=fun w=>ziR (K w.params)) hn (by decide) hdf ⟨rfl,by decide,by decide⟩ hY F (fun _ _ a ns hl _ hS=>⟨a,ns,rfl,hS,hl,fun _=>rfl⟩) fun _ _ _ _ _ z=>z
end K52
open PySem PySem.W PyProof.Rows
namespace PySem.W.Fast
theorem tw1004019685116265760:True:=⟨⟩
theorem tw1005109680292733785:True:=⟨⟩
theorem tw10053760497936901733:True:=⟨⟩
theorem tw10072217944546141185:True:=⟨⟩
theorem tw10126127564674762834:True:=⟨⟩
theorem tw10160424490916453518:True:=⟨⟩
theorem tw10181215917235202202:True:=⟨⟩
theorem tw10268214190214882535:True:=⟨⟩
theorem tw10269961527835633662:True:=⟨⟩
theorem tw10366580144241040289:True:=⟨⟩
theorem tw10373428897669572043:True:=⟨⟩
theorem tw1042129226806844915:True:=⟨⟩
theorem tw10464795510282423551:True:=⟨⟩
theorem tw10496643538635394302:True:=⟨⟩
theorem tw10541633709781247482:True:=⟨⟩
theorem tw1056393443757565529:True:=⟨⟩
theorem tw10672722691838337729:True:=⟨⟩
theorem tw10715160053284303911:True:=⟨⟩
theorem tw10752171291142531990:True:=⟨⟩
theorem tw10845205788694000809:True:=⟨⟩
theorem tw10912322959365075710:True:=⟨⟩
theorem tw10923527194734284073:True:=⟨⟩
theorem tw11003555461704950257:True:=⟨⟩
theorem tw11009772983952949611:True:=⟨⟩
theorem tw11024283159705464157:True:=⟨⟩
theorem tw11026964869460201975:True:=⟨⟩
theorem tw11068368254008412683:True:=⟨⟩
theorem tw11096284219645120304:True:=⟨⟩
theorem tw11110389660198221642:True:=⟨⟩
theorem tw11414374287002504258:True:=⟨⟩
theorem tw11420920851800388857:True:=⟨⟩
theorem tw11444560944185716188:True:=⟨⟩
theorem tw11583708078789601024:True:=⟨⟩
theorem tw11629662080615223913:True:=⟨⟩
theorem tw11662544581588558381:True:=⟨⟩
theorem tw11667870092879399600:True:=⟨⟩
theorem tw11679011900682113023:True:=⟨⟩
theorem tw11764585015080364177:True:=⟨⟩
theorem tw11832504950709674343:True:=⟨⟩
theorem tw11839859269409014501:True:=⟨⟩
theorem tw11888481214433464510:True:=⟨⟩
theorem tw11929205823421298431:True:=⟨⟩
theorem tw11947355800170040650:True:=⟨⟩
theorem tw1196195849617145815:True:=⟨⟩
theorem tw12077325938318928756:True:=⟨⟩
theorem tw12149087048266122489:True:=⟨⟩
theorem tw12181937538665662030:True:=⟨⟩
theorem tw12286494619117583925:True:=⟨⟩
theorem tw12327615786900400529:True:=⟨⟩
theorem tw12360534620378157247:True:=⟨⟩
theorem tw12363351155208455547:True:=⟨⟩
theorem tw12372104287700995168:True:=⟨⟩
theorem tw12390260324040620303:True:=⟨⟩
theorem tw1247849330220583362:True:=⟨⟩
theorem tw12513920409024083070:True:=⟨⟩
theorem tw12653639677042471434:True:=⟨⟩
theorem tw12683925074450322798:True:=⟨⟩
theorem tw12788088499752029896:True:=⟨⟩
theorem tw12819089821051869987:True:=⟨⟩
theorem tw12918039537112243227:True:=⟨⟩
theorem tw13026783356281468680:True:=⟨⟩
theorem tw13071118373949256457:True:=⟨⟩
theorem tw1309746174353617889:True:=⟨⟩
theorem tw13130847123238575707:True:=⟨⟩
theorem tw13131882336259224755:True:=⟨⟩
theorem tw1321197833017906136:True:=⟨⟩
theorem tw13271807008130246949:True:=⟨⟩
theorem tw13292067052001811154:True:=⟨⟩
theorem tw13320560896262498632:True:=⟨⟩
theorem tw13397133911169101943:True:=⟨⟩
theorem tw13448090737975926180:True:=⟨⟩
theorem tw13543010868511417666:True:=⟨⟩
theorem tw13548707412118955580:True:=⟨⟩
theorem tw1357455011724514778:True:=⟨⟩
theorem tw13584905950827191488:True:=⟨⟩
theorem tw1361770871271048198:True:=⟨⟩
theorem tw13663531110313186733:True:=⟨⟩
theorem tw13698736379788980863:True:=⟨⟩
theorem tw1370784697676719244:True:=⟨⟩
theorem tw13791780652058728534:True:=⟨⟩
theorem tw13821447586740472627:True:=⟨⟩
theorem tw13899011531611630914:True:=⟨⟩
theorem tw14005696516466878079:True:=⟨⟩
theorem tw14172629506819855201:True:=⟨⟩
theorem tw14218634036910356179:True:=⟨⟩
theorem tw1430950851127238853:True:=⟨⟩
theorem tw14347464232859122353:True:=⟨⟩
theorem tw14419171597946670450:True:=⟨⟩
theorem tw14589659486712694181:True:=⟨⟩
theorem tw14736646758572492997:True:=⟨⟩
theorem tw14886191761157081796:True:=⟨⟩
theorem tw14891967730701587662:True:=⟨⟩
theorem tw14907397502827080286:True:=⟨⟩
theorem tw1492534224072320381:True:=⟨⟩
theorem tw14972229018174860325:True:=⟨⟩
theorem tw14978157181986666235:True:=⟨⟩
theorem tw1511152647269796096:True:=⟨⟩
theorem tw15128130883433337369:True:=⟨⟩
theorem tw15195932099967988638:True:=⟨⟩
theorem tw15211642113113926320:True:=⟨⟩
theorem tw15261614203519753995:True:=⟨⟩
theorem tw15428878521327024217:True:=⟨⟩
theorem tw15541900896836722239:True:=⟨⟩
theorem tw15666358544812025617:True:=⟨⟩
theorem tw15689324018963914460:True:=⟨⟩
theorem tw15735160480999973733:True:=⟨⟩
theorem tw15762647495413072417:True:=⟨⟩
theorem tw15904680918617744333:True:=⟨⟩
theorem tw15959297765101570514:True:=⟨⟩
theorem tw15967227124260230538:True:=⟨⟩
theorem tw1606437561403286833:True:=⟨⟩
theorem tw16065802666835365665:True:=⟨⟩
theorem tw16211398850299047699:True:=⟨⟩
theorem tw16245075783409834139:True:=⟨⟩
theorem tw16281440580127634464:True:=⟨⟩
theorem tw16306770944616429218:True:=⟨⟩
theorem tw16346610348084676525:True:=⟨⟩
theorem tw16382410301514675127:True:=⟨⟩
theorem tw16470259576012263791:True:=⟨⟩
theorem tw16485071696345773890:True:=⟨⟩
theorem tw16519056902332569108:True:=⟨⟩
theorem tw16597901672764223269:True:=⟨⟩
theorem tw16663547008228988420:True:=⟨⟩
theorem tw16722589670587012723:True:=⟨⟩
theorem tw1683349539926241582:True:=⟨⟩
theorem tw16880741795361578308:True:=⟨⟩
theorem tw17014535693640143346:True:=⟨⟩
theorem tw17020580684599104174:True:=⟨⟩
theorem tw17039077945950733462:True:=⟨⟩
theorem tw17082567853421182605:True:=⟨⟩
theorem tw17138019102811701909:True:=⟨⟩
theorem tw17153182236215165080:True:=⟨⟩
theorem tw17312712188888334134:True:=⟨⟩
theorem tw17332868679793551931:True:=⟨⟩
theorem tw17390439653866014970:True:=⟨⟩
theorem tw17438943485681814815:True:=⟨⟩
theorem tw17443716269007922776:True:=⟨⟩
theorem tw17449524638897109163:True:=⟨⟩
theorem tw17451918754004585573:True:=⟨⟩
theorem tw17453727621747336337:True:=⟨⟩
theorem tw17462445122968939837:True:=⟨⟩
theorem tw17490390896306507338:True:=⟨⟩
theorem tw17547069299917199328:True:=⟨⟩
theorem tw17604835339076442152:True:=⟨⟩
theorem tw17648807128405197730:True:=⟨⟩
theorem tw17664863777492073810:True:=⟨⟩
theorem tw17702968327335623418:True:=⟨⟩
theorem tw17740552040318568371:True:=⟨⟩
theorem tw17740826687811544617:True:=⟨⟩
theorem tw17776469104992358035:True:=⟨⟩
theorem tw17870579269710854290:True:=⟨⟩
theorem tw17873099432747370112:True:=⟨⟩
theorem tw1787935286373598602:True:=⟨⟩
theorem tw17895206670561908491:True:=⟨⟩
theorem tw17981722757586100904:True:=⟨⟩
theorem tw18026376013475289354:True:=⟨⟩
theorem tw18158865165428363993:True:=⟨⟩
theorem tw18181770404547295891:True:=⟨⟩
theorem tw18233572305622703635:True:=⟨⟩
theorem tw18280878232468925123:True:=⟨⟩
theorem tw18321215152175266576:True:=⟨⟩
theorem tw18327561611088129334:True:=⟨⟩
theorem tw18384141937926093038:True:=⟨⟩
theorem tw18413428934340716657:True:=⟨⟩
theorem tw191904944745158847:True:=⟨⟩
theorem tw1921712417824100517:True:=⟨⟩
theorem tw1926646661123413742:True:=⟨⟩
theorem tw1972333588743742363:True:=⟨⟩
theorem tw2125324911096688222:True:=⟨⟩
theorem tw2197353455006018301:True:=⟨⟩
theorem tw2266671618563129613:True:=⟨⟩
theorem tw2293361261333948947:True:=⟨⟩
theorem tw2308310522013507379:True:=⟨⟩
theorem tw2370427576485550011:True:=⟨⟩
theorem tw242617124181694584:True:=⟨⟩
theorem tw2427933880439242401:True:=⟨⟩
theorem tw2490646187364271338:True:=⟨⟩
theorem tw2532824498256335754:True:=⟨⟩
theorem tw2561353805369436517:True:=⟨⟩
theorem tw2627973177844734018:True:=⟨⟩
theorem tw2631567758915607523:True:=⟨⟩
theorem tw2632177613934529120:True:=⟨⟩
theorem tw2682438723893517600:True:=⟨⟩
theorem tw2698243120037506686:True:=⟨⟩
theorem tw2725763419733426612:True:=⟨⟩
theorem tw274414652701796100:True:=⟨⟩
theorem tw2781372068567462222:True:=⟨⟩
theorem tw2785629961969009811:True:=⟨⟩
theorem tw2796343857223857791:True:=⟨⟩
theorem tw2804654519413737640:True:=⟨⟩
theorem tw2838796558597985851:True:=⟨⟩
theorem tw2863061316329833171:True:=⟨⟩
theorem tw2906844582967150818:True:=⟨⟩
theorem tw3008788023814395765:True:=⟨⟩
theorem tw3085821763766865702:True:=⟨⟩
theorem tw3096006593816019013:True:=⟨⟩
theorem tw3104622199649788552:True:=⟨⟩
theorem tw3216956291184001967:True:=⟨⟩
theorem tw3334922952718256363:True:=⟨⟩
theorem tw3387398814524246554:True:=⟨⟩
theorem tw3392043819424215874:True:=⟨⟩
theorem tw3408736160741227851:True:=⟨⟩
theorem tw3472527449144876606:True:=⟨⟩
theorem tw3478332399745822160:True:=⟨⟩
theorem tw3494527611315844933:True:=⟨⟩
theorem tw3572837302108204192:True:=⟨⟩
theorem tw3587462716351443233:True:=⟨⟩
theorem tw362133374405601281:True:=⟨⟩
theorem tw3648341059433658219:True:=⟨⟩
theorem tw3661415120595340461:True:=⟨⟩
theorem tw3762378016087596518:True:=⟨⟩
theorem tw3771019743902028512:True:=⟨⟩
theorem tw3791397986590829420:True:=⟨⟩
theorem tw3803083025512946910:True:=⟨⟩
theorem tw3815248560295284127:True:=⟨⟩
theorem tw3860170729168403898:True:=⟨⟩
theorem tw3861170352459320766:True:=⟨⟩
theorem tw3895606175505452698:True:=⟨⟩
theorem tw390513914678222057:True:=⟨⟩
theorem tw3960386059240755904:True:=⟨⟩
theorem tw3971705295617214451:True:=⟨⟩
theorem tw4071755774000134446:True:=⟨⟩
theorem tw4088366771661314752:True:=⟨⟩
theorem tw4135705467159394819:True:=⟨⟩
theorem tw4206600760297189652:True:=⟨⟩
theorem tw4237813868355760269:True:=⟨⟩
theorem tw4277750052309129818:True:=⟨⟩
theorem tw432440798087981315:True:=⟨⟩
theorem tw434561577194031947:True:=⟨⟩
theorem tw4387844889149433025:True:=⟨⟩
theorem tw4440231676724279435:True:=⟨⟩
theorem tw4492201492350479997:True:=⟨⟩
theorem tw4501589916573321704:True:=⟨⟩
theorem tw450831267927486257:True:=⟨⟩
theorem tw4638739812988624414:True:=⟨⟩
theorem tw4693775180903050453:True:=⟨⟩
theorem tw469866995162333244:True:=⟨⟩
theorem tw4716531306776272677:True:=⟨⟩
theorem tw4846775842882591191:True:=⟨⟩
theorem tw4910591988363754508:True:=⟨⟩
theorem tw500666834405267114:True:=⟨⟩
theorem tw5036800482166729050:True:=⟨⟩
theorem tw5037078380564627847:True:=⟨⟩
theorem tw5060945498302388162:True:=⟨⟩
theorem tw5067959795513269164:True:=⟨⟩
theorem tw5089078808778867149:True:=⟨⟩
theorem tw5108622219815394540:True:=⟨⟩
theorem tw51132183399138880:True:=⟨⟩
theorem tw5268248371260312714:True:=⟨⟩
theorem tw5278892162413040212:True:=⟨⟩
theorem tw5318619301725083123:True:=⟨⟩
theorem tw5322014766294003250:True:=⟨⟩
theorem tw54709381084645614:True:=⟨⟩
theorem tw5487175159730649849:True:=⟨⟩
theorem tw5495853583037104092:True:=⟨⟩
theorem tw5496942066096308579:True:=⟨⟩
theorem tw5503725585088655631:True:=⟨⟩
theorem tw5544990297121281203:True:=⟨⟩
theorem tw5601105148758841145:True:=⟨⟩
theorem tw5630140956069166192:True:=⟨⟩
theorem tw564726478925769987:True:=⟨⟩
theorem tw5668996523125220629:True:=⟨⟩
theorem tw5738609967868653810:True:=⟨⟩
theorem tw5750448799180862322:True:=⟨⟩
theorem tw580248689350719502:True:=⟨⟩
theorem tw5813989856791814070:True:=⟨⟩
theorem tw5824868281991807927:True:=⟨⟩
theorem tw5903149841524250185:True:=⟨⟩
theorem tw5951773560874036898:True:=⟨⟩
theorem tw6041841318732848000:True:=⟨⟩
theorem tw6081344776791584779:True:=⟨⟩
theorem tw6134098723523510436:True:=⟨⟩
theorem tw6243859916397380500:True:=⟨⟩
theorem tw6351831842171267959:True:=⟨⟩
theorem tw6374103390373704934:True:=⟨⟩
theorem tw6411598457675469769:True:=⟨⟩
theorem tw6601213298907006918:True:=⟨⟩
theorem tw6673921922272874230:True:=⟨⟩
theorem tw6737433709235105936:True:=⟨⟩
theorem tw676427091654021381:True:=⟨⟩
theorem tw6880124226601907264:True:=⟨⟩
theorem tw6897599532160472722:True:=⟨⟩
theorem tw6915349160012282719:True:=⟨⟩
theorem tw6981014269915067150:True:=⟨⟩
theorem tw7054335967026030534:True:=⟨⟩
theorem tw7056893635553186815:True:=⟨⟩
theorem tw7059962734315625219:True:=⟨⟩
theorem tw708194374664258079:True:=⟨⟩
theorem tw7097844388591593823:True:=⟨⟩
theorem tw7209025191349557494:True:=⟨⟩
theorem tw7217839243028604262:True:=⟨⟩
theorem tw7237704190982921783:True:=⟨⟩
theorem tw7241565612552217252:True:=⟨⟩
theorem tw7310785637170636256:True:=⟨⟩
theorem tw7318202853325785087:True:=⟨⟩
theorem tw732598892828703987:True:=⟨⟩
theorem tw7354766990387723725:True:=⟨⟩
theorem tw7361290623097400259:True:=⟨⟩
theorem tw7513581557692369573:True:=⟨⟩
theorem tw7526971193447155270:True:=⟨⟩
theorem tw7561871804642777516:True:=⟨⟩
theorem tw7629322403483943773:True:=⟨⟩
theorem tw769324077017890957:True:=⟨⟩
theorem tw7724070486007585402:True:=⟨⟩
theorem tw7731283547071886715:True:=⟨⟩
theorem tw7737821821975845797:True:=⟨⟩
theorem tw787075294144320628:True:=⟨⟩
theorem tw7889873503840327088:True:=⟨⟩
theorem tw7903036169138737773:True:=⟨⟩
theorem tw7951512239564422885:True:=⟨⟩
theorem tw8044826285732811690:True:=⟨⟩
theorem tw8079625725875828708:True:=⟨⟩
theorem tw8255135035938287146:True:=⟨⟩
theorem tw8270351527166151745:True:=⟨⟩
theorem tw8282387169951873512:True:=⟨⟩
theorem tw834273709678024340:True:=⟨⟩
theorem tw8348240621548241395:True:=⟨⟩
theorem tw8368651829652857427:True:=⟨⟩
theorem tw8374250425325337829:True:=⟨⟩
theorem tw8489051520810286881:True:=⟨⟩
theorem tw8489679938887752186:True:=⟨⟩
theorem tw8509542021415903901:True:=⟨⟩
theorem tw8669635617229926200:True:=⟨⟩
theorem tw8675435139290779920:True:=⟨⟩
theorem tw8703543395892793382:True:=⟨⟩
theorem tw871837680144037885:True:=⟨⟩
theorem tw8736803026168345300:True:=⟨⟩
theorem tw8769583087609979578:True:=⟨⟩
theorem tw8771234557935014162:True:=⟨⟩
theorem tw8879469672195209250:True:=⟨⟩
theorem tw8897341332957047434:True:=⟨⟩
theorem tw8931225611543298323:True:=⟨⟩
theorem tw8938221282756485371:True:=⟨⟩
theorem tw8946395877426373963:True:=⟨⟩
theorem tw8980299448714614827:True:=⟨⟩
theorem tw899212039172913654:True:=⟨⟩
theorem tw9060747254836850753:True:=⟨⟩
theorem tw9061942020500570076:True:=⟨⟩
theorem tw9116747786894924501:True:=⟨⟩
theorem tw914318172187410668:True:=⟨⟩
theorem tw9172267950398161295:True:=⟨⟩
theorem tw9197722955256345188:True:=⟨⟩
theorem tw9212151592024881003:True:=⟨⟩
theorem tw9238590188184733621:True:=⟨⟩
theorem tw9309063091416719925:True:=⟨⟩
theorem tw932058702504716085:True:=⟨⟩
theorem tw9458380103149537433:True:=⟨⟩
theorem tw9498929895272301854:True:=⟨⟩
theorem tw9570886183716160629:True:=⟨⟩
theorem tw9629309312873612821:True:=⟨⟩
theorem tw9666382142463857436:True:=⟨⟩
theorem tw9669695530608241982:True:=⟨⟩
theorem tw9810201057237935119:True:=⟨⟩
theorem tw9841890299305129457:True:=⟨⟩
theorem tw9969011673566047274:True:=⟨⟩
theorem tw9972561172922477155:True:=⟨⟩
end PySem.W.Fast
set_option maxRecDepth 100000 in
set_option maxHeartbeats 0 in
theorem PySem.Challenge.cw_seamwright_k52_maps_looked_at_holds : PySem.Challenge.rw_seamwright_k52_maps_looked_at.Holds := by
 w_on; o_law; k_head; (case hw=>w_witness2)
 k_fill
 refine K52.walk (l:=PySem.Challenge.rw_seamwright_k52_maps_looked_at) rfl rfl (fun w h Y=>PySem.W.kIn_of Y) ?F
 case F=>
  intro w mg fa h KX G hmg;refine' K52.zmk KX G hmg ?a1 ?l1 ?c1 ?k1 ?a2 ?l2 ?c2 ?k2 ?a3 ?l3 ?c3 ?k3 ?a4 ?l4 ?c4 ?k4 ?a5 ?l5 ?c5 ?k5 ?a6 ?l6 ?c6 ?k6 ?a7 ?l7 ?c7 ?k7 ?a8 ?l8 ?c8 ?k8 ?a9 ?l9 ?c9 ?k9 ?a10 ?l10 ?c10 ?k10 ?a11 ?l11 ?c11 ?k11 ?a12 ?l12 ?c12 ?k12 ?a13 ?l13 ?c13 ?k13 ?a14 ?l14 ?c14 ?k14 ?a15 ?l15 ?c15 ?k15 ?a16 ?l16 ?c16 ?k16 ?a17 ?l17 ?c17 ?k17 ?a18 ?l18 ?c18 ?k18 ?a19 ?l19 ?c19 ?k19 ?a20 ?l20 ?c20 ?k20 ?a21 ?l21 ?c21 ?k21 ?a22 ?l22 ?c22 ?k22 ?a23 ?l23 ?c23 ?k23 ?a24 ?l24 ?c24 ?k24 ?a25 ?l25 ?c25 ?k25 ?a26 ?l26 ?c26 ?k26 ?a27 ?l27 ?c27 ?k27 ?a28 ?l28 ?c28 ?k28 ?a29 ?l29 ?c29 ?k29 ?a30 ?l30 ?c30 ?k30 ?a31 ?l31 ?c31 ?k31 ?a32 ?l32 ?c32 ?k32 ?gp ?gq ?gr ?gs ?ve0 ?ve1 ?ve2 ?ve3 ?ve4 ?ve5 ?ve6 ?ve7 ?ve8 ?ve9 ?ve10 ?veS ?qe7 ?qeS ?ue7 ?xae7 ?xbe7 ?xce7 ?xfe7 ?xge7 ?ye7e0 ?ye7e1 ?ye7e2 ?ye7e3 ?ye7e4 ?ye7e5 ?ye7e6 ?ye7e7 ?ye7e8 ?ye7e9 ?ye7e10 ?yve7 ?xd ?xe ?z1 ?z2 ?z3 ?z4 ?z5 ?z6 ?z7 ?z8 ?z9 ?z10 ?z11 ?z12 ?z13 ?z14 ?z15
  (case a1=>k_is); (case l1=>k_is); (case c1=>k_is); (case k1=>k_is); (case a2=>k_is); (case l2=>k_is)
  (case c2=>k_is); (case k2=>k_is); (case a3=>k_is); (case l3=>k_is); (case c3=>k_is); (case k3=>k_is)
  (case a4=>k_is); (case l4=>k_is); (case c4=>k_is); (case k4=>k_is); (case a5=>k_is); (case l5=>k_is)
  (case c5=>k_is); (case k5=>k_is); (case a6=>k_is); (case l6=>k_is); (case c6=>k_is); (case k6=>k_is)
  (case a7=>k_is); (case l7=>k_is); (case c7=>k_is); (case k7=>k_is); (case a8=>k_is); (case l8=>k_is)
  (case c8=>k_is); (case k8=>k_is); (case a9=>k_is); (case l9=>k_is); (case c9=>k_is); (case k9=>k_is)
  (case a10=>k_is); (case l10=>k_is); (case c10=>k_is); (case k10=>k_is); (case a11=>k_is); (case l11=>k_is)
  (case c11=>k_is); (case k11=>k_is); (case a12=>k_is); (case l12=>k_is); (case c12=>k_is); (case k12=>k_is)
  (case a13=>k_is); (case l13=>k_is); (case c13=>k_is); (case k13=>k_is); (case a14=>k_is); (case l14=>k_is)
  (case c14=>k_is); (case k14=>k_is); (case a15=>k_is); (case l15=>k_is); (case c15=>k_is); (case k15=>k_is)
  (case a16=>k_is); (case l16=>k_is); (case c16=>k_is); (case k16=>k_is); (case a17=>k_is); (case l17=>k_is)
  (case c17=>k_is); (case k17=>k_is); (case a18=>k_is); (case l18=>k_is); (case c18=>k_is); (case k18=>k_is)
  (case a19=>k_is); (case l19=>k_is); (case c19=>k_is); (case k19=>k_is); (case a20=>k_is); (case l20=>k_is)
  (case c20=>k_is); (case k20=>k_is); (case a21=>k_is); (case l21=>k_is); (case c21=>k_is); (case k21=>k_is)
  (case a22=>k_is); (case l22=>k_is); (case c22=>k_is); (case k22=>k_is); (case a23=>k_is); (case l23=>k_is)
  (case c23=>k_is); (case k23=>k_is); (case a24=>k_is); (case l24=>k_is); (case c24=>k_is); (case k24=>k_is)
  (case a25=>k_is); (case l25=>k_is); (case c25=>k_is); (case k25=>k_is); (case a26=>k_is); (case l26=>k_is)
  (case c26=>k_is); (case k26=>k_is); (case a27=>k_is); (case l27=>k_is); (case c27=>k_is); (case k27=>k_is)
  (case a28=>k_is); (case l28=>k_is); (case c28=>k_is); (case k28=>k_is); (case a29=>k_is); (case l29=>k_is)
  (case c29=>k_is); (case k29=>k_is); (case a30=>k_is); (case l30=>k_is); (case c30=>k_is); (case k30=>k_is)
  (case a31=>k_is); (case l31=>k_is); (case c31=>k_is); (case k31=>k_is); (case a32=>k_is); (case l32=>k_is)
  (case c32=>k_is); (case k32=>k_is); (case gp=>k_is); (case gq=>k_is); (case gr=>k_is); (case gs=>k_is)
  (case ve0=>k_is); (case ve1=>k_is); (case ve2=>k_is); (case ve3=>k_is); (case ve4=>k_is); (case ve5=>k_is)
  (case ve6=>k_is); (case ve7=>k_is); (case ve8=>k_is); (case ve9=>k_is); (case ve10=>k_is); (case veS=>k_is)
  (case qe7=>k_exc); (case qeS=>k_exc); (case ue7=>k_is); (case xae7=>k_is); (case xbe7=>k_is); (case xce7=>k_is)
  (case xfe7=>k_is); (case xge7=>k_is); (case ye7e0=>kit_is); (case ye7e1=>kit_is); (case ye7e2=>kit_is); (case ye7e3=>kit_is)
  (case ye7e4=>kit_is); (case ye7e5=>kit_is); (case ye7e6=>kit_is); (case ye7e7=>kit_is); (case ye7e8=>kit_is); (case ye7e9=>kit_is)
  (case ye7e10=>kit_is); (case yve7=>kit_is); (case xd=>k_is); (case xe=>k_is); (case z1=>k_is); (case z2=>k_is)
  (case z3=>k_is); (case z4=>k_is); (case z5=>k_is); (case z6=>k_is); (case z7=>k_is); (case z8=>k_is)
  (case z9=>k_is); (case z10=>k_is); (case z11=>k_is); (case z12=>k_is); (case z13=>k_is); (case z14=>k_is)
  (case z15=>k_is)
#print axioms PySem.Challenge.cw_seamwright_k52_maps_looked_at_holds
end
