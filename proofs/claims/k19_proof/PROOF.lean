import PyProof.Rows.All
import Wide.All
import OpenK.AllK
import Wide.FinOn
import Lean
import PyProof.EqAt
import PyProof.EqKinds
import PyProof.TupleCall
import PyProof.Rows.SortRuns
import KE.KSortKey
import KE.KListMore
import KE.KIntText
import KE.KEqDat
import PyProof.Rows.CallKwBuiltin
import PySem.SetTable
import PyProof.Rows.SetFrom
import PyProof.TupleKey
import PyProof.IsRules
import KE.KRevIter
import PyProof.ListRange
import PyProof.TupleOfGen
import PyProof.CollectIter
import PySem.Challenge.RW_seamwright_k19_chains_refused_ahead
import KE.KDictLaws
import PyProof.DictWalks
import PyProof.SetNew
import PyProof.DictCopy
import PyProof.FactsAll.dict_1
import PyProof.FactsAll.set_2
import PyProof.FactsAll.subtypes_5
import PyProof.DictFindH
import PyProof.MinMaxWalk
import PyProof.SumAny
import PyProof.AttrMissHeap
import PyProof.DictItems
import PyProof.DictTable
import PyProof.MeetsDictList
import PyProof.DictTruth
import PyProof.JoinWalk
import PyProof.Rows.RegReprOcc
import PyProof.Rows.CatFin
import PyProof.MeetsStr
import PyProof.StationsW
import PyProof.ExcClass3
import OpenK.KOwn
import PyProof.ExcArgsOwn
open PySem renaming wpAny_bind->Aa,wpAny_pure->Ac,tupleKeyHash->An,IsTupleKey->AB,wpAny_newObj_type->AI,wpAny_holding->AM,wpAny_field->AN,wpAny_callSpecial?_slot->AO,wpAny_dictEntries->AR,wpAny_call_entry->AV,bootBuiltins->AW,wpAny_setField_rec->A2,wpAny_setState_of->A5
open List renaming length_map->Ab,size_toArray->Ag,getElem?_eq_getElem->Ah,getElem?_map->Am,length_cons->Ap,length_append->Aq,map_append->Ar,mem_of_getElem?->At,mem_cons_self->Au,take_of_length_le->Av,mem_cons_of_mem->Aw,map_map->Az,map_cons->AH,length_take->AJ,getD_eq_getElem?_getD->AL,mem_append_right->AT,lookup_cons->A4,range->A6
open PySem.W renaming Frag->Ad,kitOne->AD
open PySem.Heap renaming get?_push_of_some->Ae,lt_size->Aj,get?_push_size->Ak,SameBut->AC,get?_update_other->AE,get?_update_self->AU,size_update->A0
open Nat renaming le_refl->Af,ne_of_lt->As,lt_of_lt_of_le->Ay,le_trans->AA,zero_le->AQ,ne_of_gt->A1
open Bool renaming false_eq_true->Ai,false_ne_true->Ao,and_eq_true->AF
open Option.some renaming inj->Al
open PySem.Obj renaming mapSeq->Ax
open PySem.Heap.SameBut renaming update->AG
open Array renaming getElem?_toList->AK,length_toList->AS
open PySem.Paired renaming length->AX
open PyProof.Rows renaming take_snoc->AY
open PySem.PassesOwn renaming never->AZ
open PySem.Str renaming ofString->A3
set_option linter.all false
set_option Elab.async false
set_option maxRecDepth 100000
set_option maxHeartbeats 4000000
section
namespace L2
open PySem PySem.Spec PyProof.Rows
abbrev Key:=Sum Int Str
def zf2:Key->Value->Bool
 | .inl k,v=>Value.isInt k v
 | .inr x,v=>Value.isStrOf x v
def keyH (w:World):Key->Int
 | .inl k=>hashInt k
 | .inr x=>hashStr w x
def keyIs_shape:∀{k:Key}{v:Value},zf2 k v=true->(∃i t,k=Sum.inl i/\v=Value.int i t) \/ (∃x t,k=Sum.inr x/\v=Value.str x t)
 | .inl i,v,h=>by
  obtain⟨t,e⟩:=Value.isInt_shape (k:=i) (v:=v) h;exact .inl ⟨i,t,rfl,e⟩
 | .inr x,v,h=>by
  obtain⟨t,e⟩:=Value.isStrOf_shape (x:=x) (v:=v) h;exact .inr ⟨x,t,rfl,e⟩
def zgR (i:Int) (t:Tok):zf2 (.inl i) (.int i t)=true:=by simp[zf2,Value.isInt]
def zgX (x:Str) (t:Tok):zf2 (.inr x) (.str x t)=true:=by simp[zf2,Value.isStrOf]
def znj (a b:Int):decide ((Sum.inl a:Key)=Sum.inl b)=(a == b):=by
 by_cases e:a=b
 ·subst e; simp
 ·have h:¬ (Sum.inl a:Key)=Sum.inl b:=fun q=>e (Sum.inl.inj q)
  rw[decide_eq_false h];exact (beq_eq_false_iff_ne.mpr e).symm
def zny (a b:Str):decide ((Sum.inr a:Key)=Sum.inr b)=decide (a=b):=by
 by_cases e:a=b
 ·subst e; simp
 ·have h:¬ (Sum.inr a:Key)=Sum.inr b:=fun q=>e (Sum.inr.inj q)
  rw[decide_eq_false h,decide_eq_false e]
def zm2 (a:Int) (b:Str):decide ((Sum.inl a:Key)=Sum.inr b)=false:=decide_eq_false (fun q=>nomatch q)
def zmK (a:Str) (b:Int):decide ((Sum.inr a:Key)=Sum.inl b)=false:=decide_eq_false (fun q=>nomatch q)
def zu (prog:Program) (w:World):PySem.KeyKind prog w Key where
 is:=zf2
 hash:=keyH w
 inj:=fun v a b ha hb=>by
  rcases keyIs_shape ha with ⟨i,t,rfl,rfl⟩ | ⟨x,t,rfl,rfl⟩
  ·rcases keyIs_shape hb with ⟨j,u,rfl,e⟩ | ⟨y,u,rfl,e⟩
   ·injection e with e1 _; rw[e1]
   ·exact nomatch e
  ·rcases keyIs_shape hb with ⟨j,u,rfl,e⟩ | ⟨y,u,rfl,e⟩
   ·exact nomatch e
   ·injection e with e1 _; rw[e1]
 byValue:=fun k v h=>by
  rcases keyIs_shape h with ⟨i,t,rfl,rfl⟩ | ⟨x,t,rfl,rfl⟩ <;> rfl
 pyHash:=fun hv h=>by
  rcases keyIs_shape hv with ⟨i,t,rfl,rfl⟩ | ⟨x,t,rfl,rfl⟩
  ·exact wpAny_pyHash_int h
  ·exact wpAny_pyHash_str h
 eqBool:=fun hu hv h=>by
  rcases keyIs_shape hu with ⟨i,t,rfl,rfl⟩ | ⟨x,t,rfl,rfl⟩
  ·rcases keyIs_shape hv with ⟨j,u,rfl,rfl⟩ | ⟨y,u,rfl,rfl⟩
   ·rw[znj] at h; exact wpAny_eqBool_int h
   ·rw[zm2] at h; exact SeqAt.EqAt.int_str i t y u _ _ _ _ h
  ·rcases keyIs_shape hv with ⟨j,u,rfl,rfl⟩ | ⟨y,u,rfl,rfl⟩
   ·rw[zmK] at h; exact SeqAt.EqAt.str_int x t j u _ _ _ _ h
   ·rw[zny] at h; exact wpAny_eqBool_str h
 «strs»:=fun k x t v h=>by
  rcases keyIs_shape h with ⟨i,u,rfl,e⟩ | ⟨y,u,rfl,e⟩
  ·exact nomatch e
  ·injection e with e1 _
   subst e1;cases v <;> rfl
def za6 (prog:Program) (w:World) (i:Int) (t:Tok):(zu prog w).is (.inl i) (.int i t)=true:=zgR i t
def zey (prog:Program) (w:World) (x:Str) (t:Tok):(zu prog w).is (.inr x) (.str x t)=true:=zgX x t
end L2
namespace L2
open PySem PySem.Spec PyProof.Rows
inductive V where
 | non | bl (b:Bool) | int (i:Int) | str (x:Str) | byt (b:Array UInt8) | flt (b:UInt64) | ref (a:Addr) | ty (n:String)
 deriving DecidableEq
def RelV:V->Value->Prop
 | .non,u=>u=Value.none
 | .bl b,u=>u=Value.bool b
 | .int i,u=>∃t,u=Value.int i t
 | .str x,u=>∃t,u=Value.str x t
 | .byt b,u=>∃t,u=Value.bytes b t
 | .flt b,u=>∃t,u=Value.float b t
 | .ref a,u=>u=Value.ref a
 | .ty n,u=>u=Value.type n
abbrev Vals:List V->List Value->Prop:=Paired RelV
def Vals.length {xs:List V}{us:List Value} (r:Vals xs us):xs.length=us.length:=AX r
def Vals.get:∀{xs:List V}{us:List Value}{i:Nat}{x:V},Vals xs us->xs[i]?=some x->∃u,us[i]?=some u/\RelV x u
 | _,_,_,_,.nil,e=>by simp at e
 | _,_,0,_,.cons r _,e=>by simp at e; subst e; exact⟨_,rfl,r⟩
 | _,_,i+1,x,.cons _ t,e=>by
  obtain⟨u,h1,h2⟩:=Vals.get (i:=i) (x:=x) t (by simpa using e);exact⟨u,by simpa using h1,h2⟩
def Vals.set {x:V}{u:Value} (r:RelV x u):∀{xs:List V}{us:List Value} (i:Nat),Vals xs us->Vals (xs.set i x) (us.set i u)
 | _,_,_,.nil=>.nil
 | _,_,0,.cons _ t=>.cons r t
 | _,_,i+1,.cons q t=>.cons q (Vals.set r i t)
def Vals.append {xs ys:List V}{us ws:List Value} (h:Vals xs us) (g:Vals ys ws):Vals (xs++ys) (us++ws):=by
 induction h with
 | nil=>exact g
 | cons r _ ih=>exact .cons r ih
def Vals.take:∀{xs:List V}{us:List Value} (n:Nat),Vals xs us->Vals (xs.take n) (us.take n)
 | _,_,0,_=>.nil
 | _,_,_+1,.nil=>.nil
 | _,_,n+1,.cons r t=>.cons r (Vals.take n t)
def Vals.drop:∀{xs:List V}{us:List Value} (n:Nat),Vals xs us->Vals (xs.drop n) (us.drop n)
 | _,_,0,r=>r
 | _,_,_+1,.nil=>.nil
 | _,_,n+1,.cons _ t=>Vals.drop n t
def RelO:Option V->Option Value->Prop
 | some v,some u=>RelV v u
 | none,none=>True
 | _,_=>False
def KV {κ:Type}:List (κ×V)->List (κ×Value)->Prop:=Paired fun (p:κ×V) (q:κ×Value)=>p.1=q.1/\RelV p.2 q.2
def kV:Key->V
 | .inl i=>.int i
 | .inr x=>.str x
inductive HO where
 | lst (xs:List V)
 | tup (xs:List V)
 | dK (kvs:List (Key×V)) | dT (kvs:List (List Key×V))
 | set (S:Int->Bool) (n:Nat)
 | ins (C dx:Addr) (fs:List (Str×V))
 | own (x:Addr)
 | xd (fs:List (Str×V))
 | met (f x:Addr)
 | rng (lo hi:Int)
 | frz (o:Obj) (u:HO)
 | tbl (ps:Array Value)
 | ext (φ:Heap->Prop)
abbrev Hp:=Addr->Option HO
def upd (H:Hp) (a:Addr) (o:HO):Hp:=fun b=>if b=a then some o else H b
def upd_same {H:Hp}{a:Addr}{o:HO}:upd H a o a=some o:=by unfold upd; rw[if_pos rfl]
def zh {H:Hp}{a b:Addr}{o:HO} (h:b≠a):upd H a o b=H b:=by unfold upd; rw[if_neg h]
def zaX {H:Hp}{a b:Addr}{o u:HO} (h:H a=some o) (h':H b=some u) (d:o≠u):a≠b:=by
 intro e; subst e; rw[h] at h'; exact d (Al h')
def zg {H:Hp}{a b:Addr}{o:HO} (h:H a=some o) (h':H b=none):a≠b:=by
 intro e; subst e; rw[h] at h'; cases h'
section
variable (P:Program) (w:World)
def zx (H:Hp) (h:Heap) (a:Addr):HO->Prop
 | .lst xs=>xs.length<=sizeLine/\∃(ah:List Value) (n:Nat),Vals xs ah/\h.get? a=some { cls:=.type "list",data:=.seq ah.toArray n }
 | .tup xs=>xs.length<=sizeLine/\∃ah:List Value,Vals xs ah/\IsTup h a ah.toArray
 | .dK kvs=>kvs.length<=sizeLine/\(a == sysModules)=false/\∃vs,KV kvs vs/\h.DictOf (zu P w) a vs
 | .dT kvs=>kvs.length<=sizeLine/\(a == sysModules)=false/\∃xs:List (List Key×Addr×Value),
   Paired (fun (p:List Key×V) (q:List Key×Addr×Value)=>p.1=q.1/\H q.2.1=some (.tup (p.1.map kV))/\RelV p.2 q.2.2) kvs xs/\
   ∃o es ep,h.get? a=some o/\o.ExactDict/\o.data=.dict es ep/\es.toList=xs.map (entryOfKey (tupleKind (zu P w)))/\(xs.map (·.1)).Nodup
 | .set S n=>h.SetOf (intKind P w) a S n
 | .ins C dx fs=>H dx=some (.own a)/\fs.length<=1000/\dx≠a/\h.get? a=some (PySem.W.instObj C dx)/\
   ∃mA,h.Ns1 dx mA/\(∀f,RelO (fs.lookup f) (mA f))/\PySem.Within mA (fs.map (·.1))
 | .own _=>∃o,h.get? a=some o
 | .xd fs=>∃mA,h.Ns1 a mA/\∀f,RelO (fs.lookup f) (mA f)
 | .rng lo hi=>∃t u v,h.get? a=some { cls:=.type "range",data:=.fields #[.int lo t,.int hi u,.int 1 v] }
 | .frz o u=>h.get? a=some o/\zx H h a u
 | .tbl ps=>h.get? a=some { cls:=.none,data:=.fields ps }
 | .met f x=>h.get? a=some (PySem.W.methodObj (.ref f) (.ref x))
 | .ext φ=>φ h/\(∃o,h.get? a=some o)/\∀h1 h2:Heap,φ h1->(∀o,h1.get? a=some o->h2.get? a=some o)->φ h2
def HOk (H:Hp) (h:Heap):Prop:=∀a o,H a=some o->zx P w H h a o
end
section
variable {P:Program}{w:World}{H H':Hp}{h h':Heap}{a:Addr}{o:HO}
def zx.lt (x:zx P w H h a o):a<h.objs.size:=by
 cases o with
 | lst xs=>obtain⟨_,_,_,_,e⟩:=x; exact Aj e
 | tup xs=>obtain⟨_,_,_,p⟩:=x; exact p.lt
 | dK kvs=>obtain⟨_,_,_,_,o,_,_,e,_⟩:=x; exact Aj e
 | dT kvs=>obtain⟨_,_,_,_,o,_,_,e,_⟩:=x; exact Aj e
 | set S n=>obtain⟨o,_,_,_,e,_⟩:=x; exact Aj e
 | ins C dx fs=>obtain⟨_,_,_,e,_⟩:=x; exact Aj e
 | own y=>obtain⟨_,e⟩:=x; exact Aj e
 | xd fs=>obtain⟨_,⟨_,_,_,e,_⟩,_⟩:=x; exact Aj e
 | rng lo hi=>obtain⟨_,_,_,e⟩:=x; exact Aj e
 | frz ob u=>obtain⟨e,_⟩:=x; exact Aj e
 | tbl ps=>exact Aj (show h.get? a=some _ from x)
 | met f y=>exact Aj (show h.get? a=some _ from x)
 | ext φ=>obtain⟨_,⟨_,e⟩,_⟩:=x; exact Aj e
def Paired.mapP {α β:Type}{F G:α->β->Prop}{l₁:List α}{l₂:List β} (h:Paired F l₁ l₂) (f:∀a b,F a b->G a b):Paired G l₁ l₂:=by
 induction h with
 | nil=>exact .nil
 | cons r _ ih=>exact .cons (f _ _ r) ih
def zx.stay (x:zx P w H h a o) (k:∀b u,(b=a \/ H b=some (.own a))->h.get? b=some u->h'.get? b=some u)
  (ho:∀b,H b=some (.own a)->H' b=some (.own a)) (ht:∀b xs,H b=some (.tup xs)->H' b=some (.tup xs)):zx P w H' h' a o:=by
 induction o with
 | lst xs=>obtain⟨z,ah,n,r,e⟩:=x; exact⟨z,ah,n,r,k _ _ (.inl rfl) e⟩
 | tup xs=>obtain⟨z,ah,r,ob,e,c⟩:=x; exact⟨z,ah,r,ob,k _ _ (.inl rfl) e,c⟩
 | dK kvs=>obtain⟨z,y,vs,r,ob,es,ep,e,c⟩:=x; exact⟨z,y,vs,r,ob,es,ep,k _ _ (.inl rfl) e,c⟩
 | dT kvs=>
  obtain⟨z,y,xs,r,ob,es,ep,e,c⟩:=x;exact⟨z,y,xs,Paired.mapP r fun p q z=>⟨z.1,ht _ _ z.2.1,z.2.2⟩,ob,es,ep,k _ _ (.inl rfl) e,c⟩
 | set S n=>obtain⟨ob,es,ep,t,e,c⟩:=x; exact⟨ob,es,ep,t,k _ _ (.inl rfl) e,c⟩
 | ins C dx fs=>
  obtain⟨d,z,ne,e,mA,⟨od,es,ep,e2,c⟩,r⟩:=x;exact⟨ho _ d,z,ne,k _ _ (.inl rfl) e,mA,⟨od,es,ep,k _ _ (.inr d) e2,c⟩,r⟩
 | own y=>obtain⟨ob,e⟩:=x; exact⟨ob,k _ _ (.inl rfl) e⟩
 | xd fs=>obtain⟨mA,⟨od,es,ep,e,c⟩,r⟩:=x; exact⟨mA,⟨od,es,ep,k _ _ (.inl rfl) e,c⟩,r⟩
 | rng lo hi=>obtain⟨t,u,v,e⟩:=x; exact⟨t,u,v,k _ _ (.inl rfl) e⟩
 | frz ob u ih=>obtain⟨e,q⟩:=x; exact⟨k _ _ (.inl rfl) e,ih q⟩
 | tbl ps=>
  have e:h.get? a=some { cls:=.none,data:=.fields ps }:=x;show h'.get? a=some { cls:=.none,data:=.fields ps };exact k a _ (.inl rfl) e
 | met f y=>
  have e:h.get? a=some (PySem.W.methodObj (.ref f) (.ref y)):=x;show h'.get? a=some (PySem.W.methodObj (.ref f) (.ref y));exact k a _ (.inl rfl) e
 | ext φ=>obtain⟨p,⟨o,e⟩,st⟩:=x; exact⟨st _ _ p fun o q=>k _ _ (.inl rfl) q,⟨o,k _ _ (.inl rfl) e⟩,st⟩
def HOk.lt (x:HOk P w H h) (e:H a=some o):a<h.objs.size:=(x a o e).lt
def HOk.fresh (x:HOk P w H h) (e:h.objs.size<=a):H a=none:=by
 cases q:H a with
 | none=>rfl
 | some u=>exact absurd (Ay (x.lt q) e) (Nat.lt_irrefl _)
def HOk.kept (x:HOk P w H h) (k:∀b u,h.get? b=some u->h'.get? b=some u):HOk P w H h':=fun a o e=>
 (x a o e).stay (fun b u _ q=>k b u q) (fun _ q=>q) fun _ _ q=>q
def HOk.laid (x:HOk P w H h) (k:∀b u,h.get? b=some u->h'.get? b=some u) (hp:h.objs.size<=a) (new:zx P w (upd H a o) h' a o):HOk P w (upd H a o) h':=fun b u e=>by
 have hn:=x.fresh hp
 by_cases hb:b=a
 ·subst hb; rw[upd_same] at e; cases e; exact new
 ·rw[zh hb] at e
  exact (x b u e).stay (fun c v _ q=>k c v q) (fun c q=>by rw[zh (zg q hn)]; exact q) fun c xs q=>by rw[zh (zg q hn)]; exact q
end
def Rd (H:Hp) (a:Addr) (u:HO):Prop:=H a=some u \/ ∃o,H a=some (.frz o u)
def Rd.of {H:Hp}{a:Addr}{u:HO} (h:H a=some u):Rd H a u:=.inl h
def Rd.ok {P:Program}{w:World}{H:Hp}{h:Heap}{a:Addr}{u:HO} (r:Rd H a u) (x:HOk P w H h):zx P w H h a u:=by
 rcases r with r | ⟨o,r⟩
 ·exact x a u r
 ·obtain⟨_,q⟩:=x a _ r
  exact q
def Mut:Option HO->Prop
 | some (.lst _)=>True
 | some (.dK _)=>True
 | some (.dT _)=>True
 | some (.set _ _)=>True
 | some (.ins _ _ _)=>True
 | some (.ext _)=>True
 | _=>False
section
variable {P:Program}{w:World}{H:Hp}{h h':Heap}{x e:Addr}{o':HO}
def HOk.write (ok:HOk P w H h) (mu:Mut (H x)) (he:e=x \/ H e=some (.own x)) (k:∀b u,b≠e->h.get? b=some u->h'.get? b=some u) (ir:∃u,h'.get? e=some u)
  (new:zx P w (upd H x o') h' x o'):HOk P w (upd H x o') h':=fun b u q=>by
 have nown:∀c y,H c=some (.own y)->c≠x:=fun c y r z=>by subst z; rw[r] at mu; exact mu
 have ntup:∀c xs,H c=some (.tup xs)->c≠x:=fun c xs r z=>by subst z; rw[r] at mu; exact mu
 by_cases hb:b=x
 ·subst hb; rw[upd_same] at q; cases q; exact new
 ·rw[zh hb] at q
  by_cases hbe:b=e
  ·have q':H b=some (.own x):=by
    rcases he with z | z
    ·exact absurd (hbe.trans z) hb
    ·rw[hbe]; exact z
   rw[q] at q'; cases q';obtain⟨v,hv⟩:=ir;exact⟨v,by rw[hbe]; exact hv⟩
  ·refine (ok b u q).stay (fun c v hc r=>k c v ?_ r) (fun c r=>by rw[zh (nown c b r)]; exact r) fun c xs r=>by rw[zh (ntup c xs r)]; exact r
   rcases hc with rfl | hc
   ·exact hbe
   ·rintro rfl
    rcases he with z | z
    ·exact nown c b hc z
    ·rw[hc] at z; cases z; exact hb rfl
end
structure Un (fs ex:List Addr) (H H':Hp) (h h':Heap):Prop where
 keep:∀b o,h.get? b=some o->H b=none->b∉fs->b∉ex->h'.get? b=some o
 slot:∀b o,h.get? b=some o->H b=none->b∈fs->b∉ex->∃sl,h'.get? b=some { o with slots:=sl }
 free:∀b o,h.get? b=some o->H b=none->b∉ex->H' b=none
 there:∀b o,h.get? b=some o->b∉ex->∃o',h'.get? b=some o'
 tups:∀b xs,H b=some (.tup xs)->H' b=some (.tup xs)
 frzs:∀b o u,H b=some (.frz o u)->H' b=some (.frz o u)
 tbls:∀b ps,H b=some (.tbl ps)->∃more,H' b=some (.tbl (ps++more))
section
variable {fs sf ex yD:List Addr}{H H1 H2:Hp}{h h1 h2 h':Heap}{a x e:Addr}{o:HO}
def Un.any (u:Un fs ex H H1 h h1) {b:Addr}{ob:Obj} (q:h.get? b=some ob) (n:H b=none) (hx:b∉ex):∃sl,h1.get? b=some { ob with slots:=sl }:=by
 by_cases hb:b∈fs
 ·exact u.slot b ob q n hb hx
 ·exact⟨ob.slots,u.keep b ob q n hb hx⟩
def Un.kept (k:∀b u,h.get? b=some u->h'.get? b=some u):Un fs ex H H h h':=
 ⟨fun b ob q _ _ _=>k b ob q,fun b ob q _ _ _=>⟨ob.slots,k b ob q⟩,fun _ _ _ n _=>n,fun b ob q _=>⟨ob,k b ob q⟩,fun _ _ q=>q,fun _ _ _ q=>q,fun _ ps q=>⟨#[],by rw[q]; simp⟩⟩
def Un.refl:Un fs ex H H h h:=Un.kept fun _ _ q=>q
def Un.laid (k:∀b u,h.get? b=some u->h'.get? b=some u) (hp:h.objs.size<=a) (hn:H a=none):Un fs ex H (upd H a o) h h' where
 keep:=fun b u q _ _ _=>k b u q
 slot:=fun b u q _ _ _=>⟨u.slots,k b u q⟩
 free:=fun b u q n _=>by rw[zh (As (Ay (Aj q) hp))]; exact n
 there:=fun b u q _=>⟨u,k b u q⟩
 tups:=fun b xs q=>by rw[zh (zg q hn)]; exact q
 frzs:=fun b u xs q=>by rw[zh (zg q hn)]; exact q
 tbls:=fun b ps q=>⟨#[],by rw[zh (zg q hn),q]; simp⟩
def Un.write (mu:Mut (H x)) (he:e=x \/ H e=some (.own x)) (k:∀b u,b≠e->h.get? b=some u->h'.get? b=some u) (ir:∃u,h'.get? e=some u):Un fs ex H (upd H x o) h h':=by
 have hx:∀b,H b=none->b≠x:=fun b n z=>by subst z; rw[n] at mu; exact mu
 have hb:∀b,H b=none->b≠e:=fun b n z=>by
  subst z;rcases he with r | r
  ·exact hx b n r
  ·rw[n] at r; cases r
 have hm:∀b u,H b=some u->¬ Mut (some u)->b≠x:=fun b u q nm z=>by subst z; rw[q] at mu; exact nm mu
 refine⟨fun b u q n _ _=>k b u (hb b n) q,fun b u q n _ _=>⟨u.slots,k b u (hb b n) q⟩,fun b u q n _=>by rw[zh (hx b n)]; exact n,fun b u q _=>?_,
  fun b xs q=>by rw[zh (hm b _ q fun z=>z)]; exact q,fun b u xs q=>by rw[zh (hm b _ q fun z=>z)]; exact q,fun b ps q=>⟨#[],by rw[zh (hm b _ q fun z=>z),q]; simp⟩⟩
 by_cases hbe:b=e
 ·subst hbe; exact ir
 ·exact⟨u,k b u hbe q⟩
end
def trk (h:Heap) (H:Hp):List Addr:=(A6 h.objs.size).filter fun a=>(H a).isSome
def hidT (h:Heap) (H:Hp):Heap:=PySem.W.hideAll h (trk h H)
def zhF (h:Heap) (H:Hp):(hidT h H).objs.size=h.objs.size:=PySem.W.hideAll_size _ _
def zjK {h:Heap}{H:Hp}{b:Addr}{o:Obj} (e:h.get? b=some o) (n:H b=none):(hidT h H).get? b=some o:=
 PySem.W.hideAll_get _ e fun hm=>by
  have q:(H b).isSome=true:=(List.mem_filter.mp hm).2;rw[n] at q; simp at q
def zlK {h:Heap}{H:Hp}{b:Addr}{o:Obj} (e:(hidT h H).get? b=some o):h.get? b=some o/\H b=none:=by
 have e':h.get? b=some o:=PySem.W.of_hideAll (trk h H) e;refine⟨e',?_⟩;cases q:H b with
 | none=>rfl
 | some x=>
  have hm:b∈trk h H:=List.mem_filter.mpr ⟨List.mem_range.mpr (Aj e'),by simp[q]⟩;have z:(hidT h H).get? b=none:=PySem.W.hideAll_none (trk h H) hm;rw[z] at e; cases e
def zlL (g h:Heap) (L:Addr):List (Addr×Obj):=(A6 h.objs.size).filterMap fun a=>if a=L \/ (g.get? a).isSome=true then none else (h.get? a).map fun o=>(a,o)
def rest (g h:Heap) (L d:Addr):List (Addr×Obj):=(zlL g h L).filter fun p=>decide (p.1≠d)
end L2
namespace L2
open PySem PySem.Spec PyProof.Rows
structure Mod (K:Ad) (mg:Str->Option Value) (base:Heap):Prop where
 kin:K.In base
 glob:base.Ns mainGlobals mg
 blt:∃mb,base.Ns builtinsNs mb/\∀x:Str,x≠"__name__"->mb x=AW x
 nolimit:base.NoLimit
structure Cx where
 prog:Program
 w:World
 K:Ad
 mg:Str->Option Value
 base:Heap
 A:Around
 N:List Str
 s₀:Shared
 H₀:Hp
 env:Env
 outer:List Env
 stack:List Env
 ex:List Addr
 fn:Str->Bool
 calm:Bool
 pn:List (Addr×Obj)
 xe:Value->Shared->Prop
def frs (l:List Env):List Addr:=l.filterMap (·.frame)
abbrev Cx.fs (X:Cx):List Addr:=frs X.outer
def Vis (sc:Scope) (x:Str):Prop:=sc.names.lookup x=some .local \/ sc.names.lookup x=some .cell \/ sc.names.lookup x=some .free
def Loc (sc:Scope) (x:Str):Prop:=sc.names.lookup x=some .local \/ sc.names.lookup x=some .cell
def Look (env:Env) (h:Heap) (m:Str->Option Value) (x:Str) (u:Value):Prop:=
 (env.kindOf x=some .local/\m x=some u) \/ ((env.kindOf x=some .cell \/ env.kindOf x=some .free)/\∃c,env.cells.lookup x=some c/\h.IsCell c (some u))
structure Cx.Ok (X:Cx):Prop where
 mod:Mod X.K X.mg X.base
 kind:X.env.scope.kind=.function
 glob:X.env.globals=mainGlobals
 blt:X.env.builtins=builtinsNs
 above:X.s₀.heap.objs.size<=X.env.locals
 inj:∀x y c,X.env.cells.lookup x=some c->X.env.cells.lookup y=some c->x=y
 has:∀x,(X.env.kindOf x=some .cell \/ X.env.kindOf x=some .free)->∃c,X.env.cells.lookup x=some c
 cab:∀x c,X.fn x=true->X.env.cells.lookup x=some c->X.s₀.heap.objs.size<=c
 hd:X.calm=true->X.A.handled=none
 frames:X.A.frames=some X.stack
 stk:X.stack=X.outer \/ (X.stack=X.env::X.outer/\X.env.frame=some X.env.locals)
 exf:∀b∈X.ex,b≠X.env.locals/\∀x c,X.env.cells.lookup x=some c->c≠b
 bs:∀b o,X.base.get? b=some o->X.s₀.heap.get? b=some o/\X.H₀ b=none
 bsz:X.base.objs.size<=X.s₀.heap.objs.size
 noex:∀b o,X.base.get? b=some o->b∉X.ex
 exfs:∀b∈X.ex,b∉X.fs
 funs:X.s₀.heap.FunFrames X.base X.outer
 frf:∀b∈X.fs,X.H₀ b=none
structure Inv (X:Cx) (aa:List (Addr×Obj)) (σ:List (Option V)) (H:Hp) (s:Shared):Prop where
 ok:X.Ok
 os:s.os=X.s₀.os
 bare:AllBare s.gens
 base:Un X.fs X.ex X.H₀ H X.s₀.heap s.heap
 loc:∃m,s.heap.Ns X.env.locals m/\∀(i:Nat) (x:Str) (v:V),X.N[i]?=some x->σ[i]?=some (some v)->Vis X.env.scope x->∃u,RelV v u/\Look X.env s.heap m x u
 cell:∀x c,X.env.cells.lookup x=some c->∃v,s.heap.IsCell c v
 free:H X.env.locals=none
 freeC:∀x c,X.env.cells.lookup x=some c->H c=none
 pin:∀p∈X.pn++aa,s.heap.get? p.1=some p.2/\H p.1=none/\p.1≠X.env.locals/\p.1∉X.fs/\∀v,p.2.data≠.cell v
 hok:HOk X.prog X.w H s.heap
 len:σ.length=X.N.length
section
variable {X:Cx}{aa:List (Addr×Obj)}{σ:List (Option V)}{H H':Hp}{s:Shared}{h':Heap}
def Cx.Ok.nofr (ok:X.Ok) {b:Addr}{o:Obj} (e:X.base.get? b=some o):b∉X.fs:=fun hb=>by
 have:=(ok.funs.mem hb).1;rw[e] at this; cases this
def Inv.bs (I:Inv X aa σ H s):∀b o,X.base.get? b=some o->s.heap.get? b=some o/\H b=none:=fun b o e=>
 ⟨I.base.keep b o (I.ok.bs b o e).1 (I.ok.bs b o e).2 (I.ok.nofr e) (I.ok.noex b o e),I.base.free b o (I.ok.bs b o e).1 (I.ok.bs b o e).2 (I.ok.noex b o e)⟩
def Inv.bk (I:Inv X aa σ H s):∀b o,X.base.get? b=some o->s.heap.get? b=some o:=fun b o e=>(I.bs b o e).1
def Inv.mod (I:Inv X aa σ H s):Mod X.K X.mg X.base:=I.ok.mod
def Inv.kIn (I:Inv X aa σ H s):X.K.In s.heap:=I.ok.mod.kin.keeps I.bk
def Inv.nolimit (I:Inv X aa σ H s):s.heap.NoLimit:=I.ok.mod.nolimit.keeps I.bk
def Inv.fr (I:Inv X aa σ H s):∃m,Fr X.base X.env.locals s.heap m:=
 let ⟨m,hn,_⟩:=I.loc
 ⟨m,hn,I.bk,AA I.ok.bsz I.ok.above⟩
def Inv.lt (I:Inv X aa σ H s):X.env.locals<s.heap.objs.size:=let ⟨_,hn,_⟩:=I.loc; hn.lt
def Inv.sz (I:Inv X aa σ H s):X.s₀.heap.objs.size<=s.heap.objs.size:=AA I.ok.above (Nat.le_of_lt I.lt)
def Inv.nofs (I:Inv X aa σ H s) {a:Addr} (h:s.heap.objs.size<=a):a∉X.fs:=fun hb=>by
 obtain⟨_,o,ho,_⟩:=I.ok.funs.mem hb;exact absurd (Ay (Aj ho) (AA I.sz h)) (Nat.lt_irrefl _)
def Inv.cne (I:Inv X aa σ H s):∀x c,X.env.cells.lookup x=some c->c≠X.env.locals:=fun x c e z=>by
 obtain⟨v,o,ho,hd⟩:=I.cell x c e;obtain⟨m,⟨o',es,ep,ho',hd',_⟩,_⟩:=I.loc;rw[z,ho'] at ho; cases ho; rw[hd'] at hd; cases hd
def Inv.funs (I:Inv X aa σ H s):s.heap.FunFrames X.base X.outer:=by
 have all:∀(l:List Env),(∀b∈frs l,b∈X.fs)->X.s₀.heap.FunFrames X.base l->s.heap.FunFrames X.base l:=by
  intro l
  induction l with
  | nil=>intro _ _; trivial
  | cons env r ih=>
   intro hs hl;obtain⟨hk,⟨L,o,hf,hn,ho,hd⟩,hr⟩:=hl;have hL:L∈X.fs:=hs L (by unfold frs; rw[List.filterMap_cons,hf]; exact Au);obtain⟨sl,e⟩:=I.base.slot L o ho (I.ok.frf L hL) hL fun z=>I.ok.exfs L z hL;exact⟨hk,⟨L,_,hf,hn,e,hd⟩,ih (fun b hb=>hs b (by unfold frs; rw[List.filterMap_cons,hf]; exact Aw _ hb)) hr⟩
 exact all X.outer (fun _ hb=>hb) I.ok.funs
def Inv.stack (I:Inv X aa σ H s):s.heap.FunFrames X.base X.stack:=by
 rcases I.ok.stk with e | ⟨e,hf⟩
 ·rw[e]; exact I.funs
 ·rw[e]
  obtain⟨m,hn,_⟩:=I.loc;refine .cons (by rw[I.ok.kind]; decide) hf hn ?_ I.funs;exact Heap.get?_none_of_le (AA I.ok.bsz I.ok.above)
def Inv.stkSub (I:Inv X aa σ H s):∀b∈frs X.stack,b∈X.env.locals::X.fs:=fun b hb=>by
 rcases I.ok.stk with e | ⟨e,hf⟩
 ·rw[e] at hb; exact Aw _ hb
 ·rw[e] at hb
  unfold frs at hb;rw[List.filterMap_cons,hf] at hb;exact hb
def Inv.stkFree (I:Inv X aa σ H s):∀b∈frs X.stack,H b=none:=fun b hb=>by
 rcases List.mem_cons.mp (I.stkSub b hb) with e | hb
 ·rw[e]; exact I.free
 ·obtain⟨_,o,ho,_⟩:=I.ok.funs.mem hb
  exact I.base.free b o ho (I.ok.frf b hb) fun z=>I.ok.exfs b z hb
def Inv.step {g':Array GenState}{t':Nat}{d':Drawn}{ch:List Addr} (I:Inv X aa σ H s)
  (cf:∀b∈ch,(b∈X.ex \/ X.s₀.heap.objs.size<=b)/\b≠X.env.locals/\(∀x c,X.env.cells.lookup x=some c->c≠b)/\∀p∈X.pn++aa,p.1≠b)
  (keep:∀b o,b≠X.env.locals->b∉X.fs->b∉ch->s.heap.get? b=some o->H b=none->h'.get? b=some o)
  (slot:∀b o,b≠X.env.locals->b∈X.fs->b∉ch->s.heap.get? b=some o->H b=none->∃sl,h'.get? b=some { o with slots:=sl }) (free:∀b o,b∉ch->s.heap.get? b=some o->H b=none->H' b=none)
  (there:∀b o,b∉ch->s.heap.get? b=some o->∃o',h'.get? b=some o')
  (tups:∀b xs,H b=some (.tup xs)->H' b=some (.tup xs)) (frzs:∀b o u,H b=some (.frz o u)->H' b=some (.frz o u)) (tbls:∀b ps,H b=some (.tbl ps)->∃more,H' b=some (.tbl (ps++more)))
  (ns:∀m,s.heap.Ns X.env.locals m->h'.Ns X.env.locals m) (hok:HOk X.prog X.w H' h') (hg:AllBare g') :
  Inv X aa σ H' { s with heap:=h',gens:=g',drawn:=d',toks:=t' }:=by
 have neL:∀b o,X.s₀.heap.get? b=some o->b≠X.env.locals:=fun b o e=>As (Ay (Aj e) I.ok.above);have fH:∀b o,X.s₀.heap.get? b=some o->b∉X.ex->b∉ch:=fun b o e hx hb=>by
  rcases (cf b hb).1 with z | z
  ·exact hx z
  ·exact absurd (Ay (Aj e) z) (Nat.lt_irrefl _)
 have cellK:∀x c,X.env.cells.lookup x=some c->∀v,s.heap.IsCell c v->h'.IsCell c v:=fun x c e v ⟨o,ho,hd⟩=>by
  have nch:c∉ch:=fun z=>(cf c z).2.2.1 x c e rfl
  by_cases hc:c∈X.fs
  ·obtain⟨sl,q⟩:=slot c o (I.cne x c e) hc nch ho (I.freeC x c e)
   exact⟨_,q,hd⟩
  ·exact⟨o,keep c o (I.cne x c e) hc nch ho (I.freeC x c e),hd⟩
 refine⟨I.ok,I.os,hg,⟨fun b o e n hb hx=>?_,fun b o e n hb hx=>?_,fun b o e n hx=>?_,fun b o e hx=>?_,fun b xs e=>tups b xs (I.base.tups b xs e),fun b o xs e=>frzs b o xs (I.base.frzs b o xs e),fun b ps e=>?_⟩,?_,fun x c e=>?_,?_,fun x c e=>?_,fun p hp=>?_,hok,I.len⟩
 ·exact keep b o (neL b o e) hb (fH b o e hx) (I.base.keep b o e n hb hx) (I.base.free b o e n hx)
 ·obtain⟨sl,e1⟩:=I.base.slot b o e n hb hx
  obtain⟨fT,e2⟩:=slot b _ (neL b o e) hb (fH b o e hx) e1 (I.base.free b o e n hx);exact⟨fT,e2⟩
 ·obtain⟨o',e1⟩:=I.base.there b o e hx
  exact free b o' (fH b o e hx) e1 (I.base.free b o e n hx)
 ·obtain⟨o',e1⟩:=I.base.there b o e hx
  exact there b o' (fH b o e hx) e1
 ·obtain⟨m1,e1⟩:=I.base.tbls b ps e
  obtain⟨m2,e2⟩:=tbls b _ e1;exact⟨m1++m2,by rw[e2,Array.append_assoc]⟩
 ·obtain⟨m,hn,hl⟩:=I.loc
  refine⟨m,ns m hn,fun i x v e1 e2 e3=>?_⟩;obtain⟨u,r,l⟩:=hl i x v e1 e2 e3;refine⟨u,r,?_⟩;rcases l with l | ⟨k,c,e,z⟩
  ·exact .inl l
  ·exact .inr ⟨k,c,e,cellK x c e _ z⟩
 ·obtain⟨v,z⟩:=I.cell x c e
  exact⟨v,cellK x c e v z⟩
 ·obtain⟨m,⟨o,_,_,ho,_⟩,_⟩:=I.loc
  exact free _ o (fun z=>(cf _ z).2.1 rfl) ho I.free
 ·obtain⟨v,o,ho,hd⟩:=I.cell x c e
  exact free c o (fun z=>(cf c z).2.2.1 x c e rfl) ho (I.freeC x c e)
 ·obtain⟨e,n,ne,nf,d⟩:=I.pin p hp
  have nch:p.1∉ch:=fun z=>(cf p.1 z).2.2.2 p hp rfl;exact⟨keep p.1 p.2 ne nf nch e n,free p.1 p.2 nch e n,ne,nf,d⟩
def Inv.un {t':Nat} (I:Inv X aa σ H s) (u:Un X.fs [] H H' s.heap h') (hok:HOk X.prog X.w H' h'):Inv X aa σ H' { s with heap:=h',toks:=t' }:=by
 obtain⟨m,⟨o,es,ep,ho,r⟩,_⟩:=id I.loc;obtain⟨sl,hL⟩:=u.any ho I.free (by simp);exact I.step (g':=s.gens) (d':=s.drawn) (ch:=[]) (fun _ z=>nomatch z) (fun b o _ hb _ e n=>u.keep b o e n hb (by simp)) (fun b o _ hb _ e n=>u.slot b o e n hb (by simp)) (fun b o _ e n=>u.free b o e n (by simp)) (fun b o _ e=>u.there b o e (by simp)) u.tups u.frzs u.tbls (fun m' hm=>by
  obtain⟨o',bg,aX,ho',r'⟩:=hm;rw[ho] at ho'; cases ho';exact⟨_,bg,aX,hL,r'⟩) hok I.bare
def Inv.call {g':Array GenState}{t':Nat}{d':Drawn}{ch:List Addr} (I:Inv X aa σ H s) (u:Un (frs X.stack) ch H H' s.heap h') (hok:HOk X.prog X.w H' h') (hg:AllBare g')
  (cf:∀b∈ch,(b∈X.ex \/ X.s₀.heap.objs.size<=b)/\b≠X.env.locals/\(∀x c,X.env.cells.lookup x=some c->c≠b)/\∀p∈X.pn++aa,p.1≠b) :
  Inv X aa σ H' { s with heap:=h',gens:=g',drawn:=d',toks:=t' }:=by
 obtain⟨m,⟨o,es,ep,ho,r⟩,_⟩:=id I.loc;obtain⟨sl,hL⟩:=u.any ho I.free fun z=>(cf _ z).2.1 rfl;exact I.step (ch:=ch) cf (fun b o hL hb hc e n=>u.keep b o e n (fun z=>(List.mem_cons.mp (I.stkSub b z)).elim hL hb) hc) (fun b o _ _ hc e n=>u.any e n hc) (fun b o hc e n=>u.free b o e n hc) (fun b o hc e=>u.there b o e hc) u.tups u.frzs u.tbls (fun m' hm=>by
  obtain⟨o',bg,aX,ho',r'⟩:=hm;rw[ho] at ho'; cases ho';exact⟨_,bg,aX,hL,r'⟩) hok hg
def Inv.turned {t':Nat}{it:Addr} (I:Inv X aa σ H s) (k:∀b o,b≠it->s.heap.get? b=some o->h'.get? b=some o) (hn:H it=none) (hL:it≠X.env.locals)
  (h1:it∈X.ex \/ X.s₀.heap.objs.size<=it) (h2:∀x c,X.env.cells.lookup x=some c->c≠it) (h3:∀p∈X.pn++aa,p.1≠it):Inv X aa σ H { s with heap:=h',toks:=t' }:=by
 have nit:∀b u,H b=some u->b≠it:=fun b u e z=>by rw[z,hn] at e; cases e
 refine I.step (g':=s.gens) (d':=s.drawn) (ch:=[it]) (fun b hb=>?_) (fun b o _ _ hc e _=>k b o (fun z=>hc (by simp[z])) e) (fun b o _ _ hc e _=>⟨o.slots,k b o (fun z=>hc (by simp[z])) e⟩) (fun _ _ _ _ n=>n)
  (fun b o hc e=>⟨o,k b o (fun z=>hc (by simp[z])) e⟩) (fun _ _ e=>e) (fun _ _ _ e=>e) (fun b ps e=>⟨#[],by rw[e]; simp⟩) (fun m hm=>?_) (fun b u e=>?_) I.bare
 ·have e:b=it:=by simpa using hb
  subst e;exact⟨h1,hL,h2,h3⟩
 ·obtain⟨o,es,ep,ho,r⟩:=hm
  exact⟨o,es,ep,k _ o (Ne.symm hL) ho,r⟩
 ·refine (I.hok b u e).stay (fun c v hc q=>k c v ?_ q) (fun _ q=>q) fun _ _ q=>q
  rcases hc with z | z
  ·rw[z]; exact nit b u e
  ·exact nit c _ z
def Inv.tok (I:Inv X aa σ H s) (t:Nat):Inv X aa σ H { s with toks:=t }:=I.un (h':=s.heap) (t':=t) Un.refl I.hok
def Inv.kept {t':Nat} (I:Inv X aa σ H s) (k:∀b u,s.heap.get? b=some u->h'.get? b=some u):Inv X aa σ H { s with heap:=h',toks:=t' }:=I.un (Un.kept k) (I.hok.kept k)
def Inv.laid {a:Addr}{o:HO}{t':Nat} (I:Inv X aa σ H s) (k:∀b u,s.heap.get? b=some u->h'.get? b=some u) (hp:s.heap.objs.size<=a) (new:zx X.prog X.w (upd H a o) h' a o) :
  Inv X aa σ (upd H a o) { s with heap:=h',toks:=t' }:=I.un (Un.laid k hp (I.hok.fresh hp)) (I.hok.laid k hp new)
def Inv.write {x e:Addr}{o:HO}{t':Nat} (I:Inv X aa σ H s) (mu:Mut (H x)) (he:e=x \/ H e=some (.own x)) (k:∀b u,b≠e->s.heap.get? b=some u->h'.get? b=some u) (ir:∃u,h'.get? e=some u)
  (new:zx X.prog X.w (upd H x o) h' x o):Inv X aa σ (upd H x o) { s with heap:=h',toks:=t' }:=I.un (Un.write mu he k ir) (I.hok.write mu he k ir new)
def Inv.pins_of {bF:List (Addr×Obj)} (I:Inv X aa σ H s) (h:∀p∈bF,s.heap.get? p.1=some p.2/\H p.1=none/\p.1≠X.env.locals/\p.1∉X.fs/\∀v,p.2.data≠.cell v):Inv X bF σ H s:=
 ⟨I.ok,I.os,I.bare,I.base,I.loc,I.cell,I.free,I.freeC,fun p hp=>(List.mem_append.mp hp).elim (fun z=>I.pin p (List.mem_append_left _ z)) (h p),I.hok,I.len⟩
def zcJ {N:List Str} (hN:N.Nodup) {i j:Nat}{x:Str} (a:N[i]?=some x) (b:N[j]?=some x):i=j:=by
 obtain⟨h1,e1⟩:=List.getElem?_eq_some_iff.mp a;obtain⟨h2,e2⟩:=List.getElem?_eq_some_iff.mp b;exact (List.getElem_inj hN).mp (e1.trans e2.symm)
def zdF {M:Model}{A:Around}{E:Value->Shared->Prop}{i:Nat}{x:Str}{v:V}{u:Value}{Q:Unit->Shared->Prop} (I:Inv X aa σ H s) (hN:X.N.Nodup) (hi:X.N[i]?=some x) (hx:Loc X.env.scope x) (r:RelV v u)
  (h:∀s',Inv X aa (σ.set i (some v)) H s'->(∃a,AC a s.heap s'.heap/\(a=X.env.locals \/ X.env.cells.lookup x=some a))->Q () s') (hf:X.fn x=true \/ X.env.scope.names.lookup x=some .local:=by first | exact .inl rfl | exact .inr rfl | assumption):wpAny M A (storeName X.env x u) Q E s:=by
 obtain⟨m,hn,hl⟩:=id I.loc;have h_:(X.env.scope.kind == .class || (X.env.scope.kind == .module && X.env.locals != X.env.globals))=false:=by rw[I.ok.kind]; rfl
 have hiσ:i<σ.length:=by rw[I.len]; exact (List.getElem?_eq_some_iff.mp hi).1
 have cne:=I.cne;have c9:∀{a:Addr} {h':Heap},(∃o,s.heap.get? a=some o/\H a=none)->AC a s.heap h'->HOk X.prog X.w H h':=fun {a h'} ha hs b ob e=>by
  obtain⟨_,_,db⟩:=ha;refine (I.hok b ob e).stay (fun c w' hc q=>(hs.2 c ?_).trans q) (fun _ q=>q) fun _ _ q=>q;rintro rfl;rcases hc with rfl | hc
  ·rw[db] at e; cases e
  ·rw[db] at hc; cases hc
 rcases hx with hk | hk
 ·refine wpAny_storeName_local hk hn (fun h' fU hs=>?_) h_
  obtain⟨oL,_,_,hoL,_⟩:=id hn;refine h _ ⟨I.ok,I.os,I.bare,⟨fun b o e n hb hx=>?_,fun b o e n hb hx=>?_,I.base.free,fun b o e hx=>?_,I.base.tups,I.base.frzs,I.base.tbls⟩,⟨_,fU,fun j y v' e1 e2 e3=>?_⟩,fun y c e=>?_,I.free,I.freeC,fun p hp=>?_,c9 ⟨oL,hoL,I.free⟩ hs,by simpa using I.len⟩ ⟨_,hs,.inl rfl⟩
  ·exact (hs.2 b (As (Ay (Aj e) I.ok.above))).trans (I.base.keep b o e n hb hx)
  ·obtain⟨sl,e1⟩:=I.base.slot b o e n hb hx
   exact⟨sl,(hs.2 b (As (Ay (Aj e) I.ok.above))).trans e1⟩
  ·obtain⟨o',e1⟩:=I.base.there b o e hx
   exact⟨o',(hs.2 b (As (Ay (Aj e) I.ok.above))).trans e1⟩
  ·by_cases hj:j=i
   ·subst hj
    rw[hi] at e1; cases e1;rw[List.getElem?_set_self hiσ] at e2;cases e2;exact⟨u,r,.inl ⟨hk,by simp⟩⟩
   ·rw[List.getElem?_set_ne (Ne.symm hj)] at e2
    obtain⟨u',r',q⟩:=hl j y v' e1 e2 e3;refine⟨u',r',?_⟩;rcases q with ⟨k,e⟩ | ⟨k,c,e,z⟩
    ·refine .inl ⟨k,?_⟩
     have:y≠x:=fun e=>hj (zcJ hN e1 (e ▸ hi));simp[this,e]
    ·exact .inr ⟨k,c,e,z.sameBut hs (cne y c e)⟩
  ·obtain⟨w',z⟩:=I.cell y c e
   exact⟨w',z.sameBut hs (cne y c e)⟩
  ·obtain⟨e,n,ne,nf,d⟩:=I.pin p hp
   exact⟨(hs.2 p.1 ne).trans e,n,ne,nf,d⟩
 ·have mM:X.fn x=true:=by
   rcases hf with z | z
   ·exact z
   ·rw[z] at hk; cases hk
  obtain⟨c,hc⟩:=I.ok.has x (.inl hk);obtain⟨w',z⟩:=I.cell x c hc;refine wpAny_storeName_cell I.ok.kind hk hc z (fun h' fB hs=>?_);obtain⟨oc,qv,nM⟩:=id z;refine h { s with heap:=h' } ⟨I.ok,I.os,I.bare,⟨fun b o e n hb hx=>?_,fun b o e n hb hx=>?_,I.base.free,fun b o e hx=>?_,I.base.tups,I.base.frzs,I.base.tbls⟩,⟨m,hn.sameBut hs (Ne.symm (cne x c hc)),fun j y v' e1 e2 e3=>?_⟩,fun y c' e=>?_,I.free,I.freeC,fun p hp=>?_,c9 ⟨oc,qv,I.freeC x c hc⟩ hs,by simpa using I.len⟩ ⟨c,hs,.inr hc⟩
  ·exact (hs.2 b (As (Ay (Aj e) (I.ok.cab x c mM hc)))).trans (I.base.keep b o e n hb hx)
  ·obtain⟨sl,e1⟩:=I.base.slot b o e n hb hx
   exact⟨sl,(hs.2 b (As (Ay (Aj e) (I.ok.cab x c mM hc)))).trans e1⟩
  ·obtain⟨o',e1⟩:=I.base.there b o e hx
   exact⟨o',(hs.2 b (As (Ay (Aj e) (I.ok.cab x c mM hc)))).trans e1⟩
  ·by_cases hj:j=i
   ·subst hj
    rw[hi] at e1; cases e1;rw[List.getElem?_set_self hiσ] at e2;cases e2;exact⟨u,r,.inr ⟨.inl hk,c,hc,fB⟩⟩
   ·rw[List.getElem?_set_ne (Ne.symm hj)] at e2
    obtain⟨u',r',q⟩:=hl j y v' e1 e2 e3;refine⟨u',r',?_⟩;rcases q with q | ⟨k,c',e,z'⟩
    ·exact .inl q
    ·refine .inr ⟨k,c',e,z'.sameBut hs ?_⟩
     rintro rfl;exact hj (zcJ hN e1 (I.ok.inj _ _ _ e hc ▸ hi))
  ·by_cases hcc:c'=c
   ·subst hcc; exact⟨_,fB⟩
   ·obtain⟨w2,z2⟩:=I.cell y c' e
    exact⟨w2,z2.sameBut hs hcc⟩
  ·obtain⟨e,n,ne,nf,d⟩:=I.pin p hp
   refine⟨(hs.2 p.1 ?_).trans e,n,ne,nf,d⟩;intro q;rw[q,qv] at e;have q':oc=p.2:=Al e;exact d w' (by rw[<- q']; exact nM)
def zbI {M:Model}{A:Around}{E:Value->Shared->Prop}{i:Nat}{x:Str}{v:V}{u:Value}{Q:Unit->Shared->Prop} (I:Inv X aa σ H s) (hN:X.N.Nodup) (hi:X.N[i]?=some x) (hx:Loc X.env.scope x) (r:RelV v u)
  (h:∀s',Inv X aa (σ.set i (some v)) H s'->Q () s') (hf:X.fn x=true \/ X.env.scope.names.lookup x=some .local:=by first | exact .inl rfl | exact .inr rfl | assumption):wpAny M A (storeName X.env x u) Q E s:=
 zdF I hN hi hx r (fun s' I' _=>h s' I') hf
def Inv.call' {s':Shared}{ch:List Addr} (I:Inv X aa σ H s) (ho:s'.os=s.os) (u:Un (frs X.stack) ch H H' s.heap s'.heap) (hok:HOk X.prog X.w H' s'.heap) (hg:AllBare s'.gens)
  (cf:∀b∈ch,(b∈X.ex \/ X.s₀.heap.objs.size<=b)/\b≠X.env.locals/\(∀x c,X.env.cells.lookup x=some c->c≠b)/\∀p∈X.pn++aa,p.1≠b):Inv X aa σ H' s':=by
 obtain⟨h',g',d',t',o'⟩:=s';have e:o'=s.os:=ho;subst e;exact I.call (g':=g') (t':=t') (d':=d') u hok hg cf
end
abbrev XK:=Value->Option Addr->Hp->Prop
abbrev St:=List (Option V)
abbrev VK:=V->Hp->Prop
abbrev TE:=St->Hp->VK->Prop
abbrev TT:=St->Hp->(Bool->Hp->Prop)->Prop
abbrev TA:=St->Hp->(List V->Hp->Prop)->Prop
structure Ends where
 nx:St->Hp->Prop
 rt:VK
 bk:St->Hp->Prop:=fun _ _=>False
 ct:St->Hp->Prop:=fun _ _=>False
abbrev TS:=Ends->St->Hp->Prop
def EP (X:Cx) (aa:List (Addr×Obj)) (σ:St) (Q:VK) (u:Value) (s':Shared):Prop:=∃v H',Inv X aa σ H' s'/\RelV v u/\Q v H'
def TP (X:Cx) (aa:List (Addr×Obj)) (σ:St) (Q:Bool->Hp->Prop) (b:Bool) (s':Shared):Prop:=∃H',Inv X aa σ H' s'/\Q b H'
def AP (X:Cx) (aa:List (Addr×Obj)) (σ:St) (Q:List V->Hp->Prop) (us:List Value) (s':Shared):Prop:=∃vs H',Inv X aa σ H' s'/\Vals vs us/\Q vs H'
def SP (X:Cx) (aa:List (Addr×Obj)) (D:Ends) (f:Flow) (s':Shared):Prop:=
 match f with
 | .next=>∃ao H',Inv X aa ao H' s'/\D.nx ao H'
 | .brk=>∃ao H',Inv X aa ao H' s'/\D.bk ao H'
 | .cont=>∃ao H',Inv X aa ao H' s'/\D.ct ao H'
 | .ret u=>∃v ao H',Inv X aa ao H' s'/\RelV v u/\D.rt v H'
def PE (X:Cx) (e:Expr) (t:TE):Prop:=
 ∀(aa:List (Addr×Obj)) (s:Shared) (σ:St) (H:Hp) (Q:VK),Inv X aa σ H s->t σ H Q->wpAny (model X.prog X.w) X.A (eval e X.env) (EP X aa σ Q) X.xe s
def PT (X:Cx) (e:Expr) (t:TT):Prop:=
 ∀(aa:List (Addr×Obj)) (s:Shared) (σ:St) (H:Hp) (Q:Bool->Hp->Prop),Inv X aa σ H s->t σ H Q->wpAny (model X.prog X.w) X.A (isTrue e X.env (eval e X.env)) (TP X aa σ Q) X.xe s
def PW (X:Cx) (e:Expr) (t:TT):Prop:=
 ∀(dk:Sem Value) (aa:List (Addr×Obj)) (s:Shared) (σ:St) (H:Hp) (Q:Bool->Hp->Prop),Inv X aa σ H s->t σ H Q->wpAny (model X.prog X.w) X.A (isTrue e X.env dk) (TP X aa σ Q) X.xe s
def PW.pt {X:Cx}{e:Expr}{t:TT} (h:PW X e t):PT X e t:=h _
def PA (X:Cx) (es:List Expr) (t:TA):Prop:=
 ∀(pos:Pos) (aa:List (Addr×Obj)) (s:Shared) (σ:St) (H:Hp) (Q:List V->Hp->Prop),Inv X aa σ H s->t σ H Q->wpAny (model X.prog X.w) X.A (spliced (backTo pos (starEach es X.env))) (AP X aa σ Q) X.xe s
def PS (X:Cx) (st:Stmt) (t:TS):Prop:=
 ∀(aa:List (Addr×Obj)) (s:Shared) (σ:St) (H:Hp) (D:Ends),Inv X aa σ H s->t D σ H->wpAny (model X.prog X.w) X.A (exec st X.env) (SP X aa D) X.xe s
def PSs (X:Cx) (st:List Stmt) (t:TS):Prop:=
 ∀(aa:List (Addr×Obj)) (s:Shared) (σ:St) (H:Hp) (D:Ends),Inv X aa σ H s->t D σ H->wpAny (model X.prog X.w) X.A (execs st X.env) (SP X aa D) X.xe s
def thn {α:Type}{t:Sem α}{Q Q':α->Shared->Prop}{M:Model}{A:Around}{E:Value->Shared->Prop}{s:Shared} (h:wpAny M A t Q E s) (hQ:∀a s,Q a s->Q' a s):wpAny M A t Q' E s:=wpAny_mono h hQ fun _ _ x=>x
end L2
namespace L2
open PySem PySem.Spec PyProof.Rows
section
variable {X:Cx}
def tVar (i:Nat):TE:=fun σ H Q=>∃v,σ[i]?=some (some v)/\Q v H
def tC (v:V):TE:=fun _ H Q=>Q v H
def zmR {i:Nat}{x:Str}{pos:Pos} (hN:X.N[i]?=some x) (hv:Vis X.env.scope x) (hd:(x == ("__debug__":Str))=false:=by decide) (bJ:(x == ("__classdict__":Str))=false:=by decide):PE X (.Name x pos) (tVar i):=by
 intro aa s σ H Q I h;obtain⟨v,e,h⟩:=h;obtain⟨m,hn,hl⟩:=I.loc;obtain⟨u,r,l⟩:=hl i x v hN e hv;have fin:EP X aa σ Q u s:=⟨v,H,I,r,h⟩;rcases l with ⟨hk,hm⟩ | ⟨hk,c,hc,aD⟩
 ·exact wpAny_Name (wpAny_loadName_local I.ok.kind hk hn hm fin) hd
 ·rcases hk with hk | hk
  ·exact wpAny_Name (wpAny_loadName_cell I.ok.kind hk hc aD fin) hd
  ·exact wpAny_Name (wpAny_loadName_free I.ok.kind hk hc aD fin bJ) hd
def ze {i j pos}:PE X (.Constant (.int i) j pos) (tC (.int i)):=fun _ _ _ H _ I h=>wpAny_Constant_int ⟨.int i,H,I.tok _,⟨_,rfl⟩,h⟩
def za8 {b j pos}:PE X (.Constant (.bool b) j pos) (tC (.bl b)):=fun _ _ _ H _ I h=>Constant_bool ⟨.bl b,H,I,rfl,h⟩
def pe_str {x j pos}:PE X (.Constant (.str x) j pos) (tC (.str x)):=fun _ _ _ H _ I h=>Calls.Constant_str ⟨.str x,H,I.tok _,⟨_,rfl⟩,h⟩
def Gl (X:Cx) (x:Str):Prop:=X.env.kindOf x=some .globalImplicit
def zbY {E:Value->Shared->Prop}{aa:List (Addr×Obj)}{s:Shared}{σ:St}{H:Hp}{x:Str}{u:Value}{pos:Pos}{Q:Value->Shared->Prop} (I:Inv X aa σ H s) (hg:Gl X x) (hm:X.mg x=some u) (h:Q u s)
  (hd:(x == ("__debug__":Str))=false:=by decide):wpAny (model X.prog X.w) X.A (eval (.Name x pos) X.env) Q E s:=
 Calls.Name_function_global I.ok.kind hg (Calls.loadGlobal_global (by rw[I.ok.glob]; exact I.mod.glob.keeps I.bk) hm h) hd
def zcb {E:Value->Shared->Prop}{aa:List (Addr×Obj)}{s:Shared}{σ:St}{H:Hp}{x:Str}{u:Value}{pos:Pos}{Q:Value->Shared->Prop} (I:Inv X aa σ H s) (hg:Gl X x) (hm:X.mg x=none) (hv:AW x=some u) (h:Q u s)
  (hn:x≠"__name__":=by decide) (hd:(x == ("__debug__":Str))=false:=by decide):wpAny (model X.prog X.w) X.A (eval (.Name x pos) X.env) Q E s:=by
 obtain⟨mb,h1,h2⟩:=I.mod.blt;exact Calls.Name_function_global I.ok.kind hg (Calls.loadGlobal_builtin (by rw[I.ok.glob]; exact I.mod.glob.keeps I.bk) hm (by rw[I.ok.blt]; exact h1.keeps I.bk) ((h2 x hn).trans hv) h) hd
def zaQ {x:Str}{v:V}{u:Value}{pos:Pos} (hg:Gl X x) (hm:X.mg x=some u) (r:RelV v u) (hd:(x == ("__debug__":Str))=false:=by decide):PE X (.Name x pos) (tC v):=
 fun _ _ _ H _ I h=>zbY I hg hm ⟨v,H,I,r,h⟩ hd
def zlW {x:Str}{v:V}{u:Value}{pos:Pos} (hg:Gl X x) (hm:X.mg x=none) (hv:AW x=some u) (r:RelV v u) (hn:x≠"__name__":=by decide) (hd:(x == ("__debug__":Str))=false:=by decide):PE X (.Name x pos) (tC v):=
 fun _ _ _ H _ I h=>zcb I hg hm hv ⟨v,H,I,r,h⟩ hn hd
variable {a b:Expr}{ta tb:TE}{pos:Pos}
def PC (X:Cx) (op:CmpOp) (a b:Expr) (t:TE):Prop:=
 ∀(aa:List (Addr×Obj)) (s:Shared) (σ:St) (H:Hp) (Q:VK),Inv X aa σ H s->t σ H Q->
  wpAny (model X.prog X.w) X.A (eval a X.env) (fun v am=>wpAny (model X.prog X.w) X.A (eval b X.env) (fun u az=>wpAny (model X.prog X.w) X.A (compareOp op v u) (EP X aa σ Q) X.xe az) X.xe am) X.xe s
def tB (t:TE):TT:=fun σ H Q=>t σ H fun x H1=>∃c,x=.bl c/\Q c H1
def zaY {e:Expr}{t:TE} (h:PE X e t) (he:∀dk,isTrue e X.env dk=(do let v <- dk; standAt e.pos; holding [v] (truthy v)):=by intro _; rfl):PT X e (tB t):=by
 intro aa s σ H Q I hw;refine isTrue_plain (thn (h aa s σ H _ I hw) fun v s1 ⟨x,H1,I1,r1,q1⟩=>?_) (he _);obtain⟨d,rfl,q⟩:=q1;cases r1;exact wpAny_truthy_bool ⟨H1,I1,q⟩
variable {tA j0:TT}{rest:List Expr}
def tAnd (t u:TT):TT:=fun σ H Q=>t σ H fun c H1=>if c=true then u σ H1 Q else Q false H1
def tOr (t u:TT):TT:=fun σ H Q=>t σ H fun c H1=>if c=true then Q true H1 else u σ H1 Q
def tNot (t:TT):TT:=fun σ H Q=>t σ H fun c H1=>Q (!c) H1
def zlf (ha:PT X a tA):PW X (.BoolOp .And [a] pos) tA:=by
 intro wh aa s σ H Q I h;refine isTrue_and (thn (ha aa s σ H Q I h) fun c s1 e=>?_);cases c with
 | true=>exact isTrue_and_nil e
 | false=>exact e
def zkn (ha:PT X a tA):PW X (.BoolOp .Or [a] pos) tA:=by
 intro wh aa s σ H Q I h;refine isTrue_or (thn (ha aa s σ H Q I h) fun c s1 e=>?_);cases c with
 | false=>exact isTrue_or_nil e
 | true=>exact e
def znd (ha:PT X a tA) (hb:PW X (.BoolOp .And (b::rest) pos) j0):PW X (.BoolOp .And (a::b::rest) pos) (tAnd tA j0):=by
 intro wh aa s σ H Q I h;refine isTrue_and (thn (ha aa s σ H _ I h) fun c s1 ⟨H1,I1,q1⟩=>?_);cases c with
 | true=>exact hb wh aa s1 σ H1 Q I1 q1
 | false=>exact⟨H1,I1,q1⟩
def znx (ha:PT X a tA) (hb:PW X (.BoolOp .Or (b::rest) pos) j0):PW X (.BoolOp .Or (a::b::rest) pos) (tOr tA j0):=by
 intro wh aa s σ H Q I h;refine isTrue_or (thn (ha aa s σ H _ I h) fun c s1 ⟨H1,I1,q1⟩=>?_);cases c with
 | true=>exact⟨H1,I1,q1⟩
 | false=>exact hb wh aa s1 σ H1 Q I1 q1
def zaB (ha:PT X a tA):PT X (.UnaryOp .Not a pos) (tNot tA):=by
 intro aa s σ H Q I h;exact isTrue_not (ha aa s σ H (fun c H1=>Q (!c) H1) I h)
def tIf (t:TT) (ta tb:TE):TE:=fun σ H Q=>t σ H fun c H1=>if c=true then ta σ H1 Q else tb σ H1 Q
def zdh {c:Expr} (hc:PT X c tA) (ha:PE X a ta) (hb:PE X b tb):PE X (.IfExp c a b pos) (tIf tA ta tb):=by
 intro aa s σ H Q I h;refine wpAny_IfExp (thn (hc aa s σ H _ I h) fun d s1 ⟨H1,I1,q1⟩=>?_);cases d with
 | true=>exact ha aa s1 σ H1 Q I1 q1
 | false=>exact hb aa s1 σ H1 Q I1 q1
end
end L2
namespace L2
open PySem PySem.Spec PyProof.Rows
def SqL (K:Ad) (H:Hp) (a:Addr) (xs:List V):Prop:=
 Rd H a (.lst xs) \/
  ∃(o:Obj) (ah:Array Value) (n:Nat),K.lookup a=some o/\o.cls=.type "list"/\o.dict=none/\o.data=.seq ah n/\ah.size<=sizeLine/\Vals xs ah.toList
def SqT (K:Ad) (H:Hp) (a:Addr) (xs:List V):Prop:=
 Rd H a (.tup xs) \/
  ∃(o:Obj) (ah:Array Value) (n:Nat),K.lookup a=some o/\o.cls=.type "tuple"/\o.data=.seq ah n/\ah.size<=sizeLine/\Vals xs ah.toList
def absV:Value->Option V
 | .none=>some .non
 | .bool b=>some (.bl b)
 | .int i _=>some (.int i)
 | .str x _=>some (.str x)
 | .bytes b _=>some (.byt b)
 | .float b _=>some (.flt b)
 | .ref a=>some (.ref a)
 | .type n=>some (.ty n)
 | _=>none
def RelV.abs {x:V}{u:Value} (r:RelV x u):absV u=some x:=by
 cases x with
 | non=>cases r; rfl
 | bl _=>cases r; rfl
 | int _=>obtain⟨t,rfl⟩:=r; rfl
 | str _=>obtain⟨t,rfl⟩:=r; rfl
 | byt _=>obtain⟨t,rfl⟩:=r; rfl
 | flt _=>obtain⟨t,rfl⟩:=r; rfl
 | ref _=>cases r; rfl
 | ty _=>cases r; rfl
def RelV.inj {x y:V}{u:Value} (r:RelV x u) (q:RelV y u):x=y:=Al (r.abs.symm.trans q.abs)
def Vals.inj {xs ys:List V}{us:List Value} (h:Vals xs us) (g:Vals ys us):xs=ys:=by
 induction h generalizing ys with
 | nil=>cases g; rfl
 | cons r t ih=>cases g with | cons r' t'=>rw[r.inj r',ih t']
section
variable {X:Cx}{aa:List (Addr×Obj)}{σ:St}{H:Hp}{s:Shared}{a:Addr}{xs ys:List V}
def SqL.of {K:Ad} (h:H a=some (.lst xs)):SqL K H a xs:=.inl (.inl h)
def SqT.of {K:Ad} (h:H a=some (.tup xs)):SqT K H a xs:=.inl (.inl h)
def Inv.list (I:Inv X aa σ H s) (h:SqL X.K H a xs):∃ah:List Value,Vals xs ah/\PlainL s.heap a ah.toArray/\xs.length<=sizeLine:=by
 rcases h with h | ⟨o,ah,n,hk,hc,hd,hs,hz,r⟩
 ·obtain⟨z,ah,n,r,e⟩:=h.ok I.hok
  exact⟨ah,r,⟨_,n,e,rfl,rfl,rfl⟩,z⟩
 ·refine⟨ah.toList,r,⟨o,n,I.kIn a o hk,hc,hd,by simpa using hs⟩,?_⟩
  have e:=r.length;simp only[AS] at e;omega
def Inv.tuple (I:Inv X aa σ H s) (h:SqT X.K H a xs):∃ah:List Value,Vals xs ah/\IsTup s.heap a ah.toArray/\xs.length<=sizeLine:=by
 rcases h with h | ⟨o,ah,n,hk,hc,hs,hz,r⟩
 ·obtain⟨z,ah,r,p⟩:=h.ok I.hok
  exact⟨ah,r,p,z⟩
 ·refine⟨ah.toList,r,⟨o,I.kIn a o hk,hc,n,by simpa using hs⟩,?_⟩
  have e:=r.length;simp only[AS] at e;omega
def Inv.list_inj (I:Inv X aa σ H s) (h:SqL X.K H a xs) (h':SqL X.K H a ys):xs=ys:=by
 obtain⟨ah,r,⟨o,n,e,_,_,d⟩,_⟩:=I.list h;obtain⟨its',r',⟨o',n',e',_,_,d'⟩,_⟩:=I.list h';rw[e] at e'; cases e';rw[d] at d';injection d' with d1 _
 have:ah=its':=by simpa using congrArg Array.toList d1
 subst this;exact r.inj r'
def Inv.tuple_inj (I:Inv X aa σ H s) (h:SqT X.K H a xs) (h':SqT X.K H a ys):xs=ys:=by
 obtain⟨ah,r,⟨o,e,_,n,d⟩,_⟩:=I.tuple h;obtain⟨its',r',⟨o',e',_,n',d'⟩,_⟩:=I.tuple h';rw[e] at e'; cases e';rw[d] at d';injection d' with d1 _
 have:ah=its':=by simpa using congrArg Array.toList d1
 subst this;exact r.inj r'
end
abbrev Cx.wish (X:Cx) (E:Value->Shared->Prop):Cx:={ X with xe:=E }
abbrev Cx.nox (X:Cx):Cx:=X.wish fun _ _=>False
def Cx.Ok.wish {X:Cx} (ok:X.Ok) (E:Value->Shared->Prop):(X.wish E).Ok:=
 ⟨ok.mod,ok.kind,ok.glob,ok.blt,ok.above,ok.inj,ok.has,ok.cab,ok.hd,ok.frames,ok.stk,ok.exf,ok.bs,ok.bsz,ok.noex,ok.exfs,ok.funs,ok.frf⟩
def Cx.Ok.unwish {X:Cx}{E:Value->Shared->Prop} (ok:(X.wish E).Ok):X.Ok:=
 ⟨ok.mod,ok.kind,ok.glob,ok.blt,ok.above,ok.inj,ok.has,ok.cab,ok.hd,ok.frames,ok.stk,ok.exf,ok.bs,ok.bsz,ok.noex,ok.exfs,ok.funs,ok.frf⟩
section
variable {X:Cx}{aa:List (Addr×Obj)}{σ:St}{H:Hp}{s:Shared}{E:Value->Shared->Prop}
def Inv.wish (I:Inv X aa σ H s) (E:Value->Shared->Prop):Inv (X.wish E) aa σ H s:=⟨I.ok.wish E,I.os,I.bare,I.base,I.loc,I.cell,I.free,I.freeC,I.pin,I.hok,I.len⟩
def Inv.unwish (I:Inv (X.wish E) aa σ H s):Inv X aa σ H s:=⟨I.ok.unwish,I.os,I.bare,I.base,I.loc,I.cell,I.free,I.freeC,I.pin,I.hok,I.len⟩
def SP.unwish {D:Ends}{f:Flow}{s':Shared} (h:SP (X.wish E) aa D f s'):SP X aa D f s':=by
 cases f with
 | next=>obtain⟨ao,H',I,q⟩:=h; exact⟨ao,H',I.unwish,q⟩
 | brk=>obtain⟨ao,H',I,q⟩:=h; exact⟨ao,H',I.unwish,q⟩
 | cont=>obtain⟨ao,H',I,q⟩:=h; exact⟨ao,H',I.unwish,q⟩
 | ret u=>obtain⟨v,ao,H',I,r,q⟩:=h; exact⟨v,ao,H',I.unwish,r,q⟩
def PSs.nox {st:List Stmt}{t:TS} (h:PSs X.nox st t):PSs X st t:=fun aa s σ H D I hw=>
 wpAny_mono (h aa s σ H D (I.wish _) hw) (fun _ _ q=>q.unwish) fun _ _ z=>False.elim z
end
section
variable {X:Cx}{st:Stmt}{rest:List Stmt}{t u:TS}{e:Expr}{te:TE}{pos:Pos}
def znH:TS:=fun D σ H=>D.nx σ H
def tSeq (t u:TS):TS:=fun D σ H=>t { D with nx:=u D } σ H
def zn:PSs X [] znH:=fun _ _ σ H _ I h=>wpAny_execs_nil ⟨σ,H,I,h⟩
def za (h1:PS X st t) (h2:PSs X rest u):PSs X (st::rest) (tSeq t u):=by
 intro aa s σ H D I h;refine wpAny_execs_cons (thn (h1 aa s σ H { D with nx:=u D } I h) fun f s1 q=>?_);cases f with
 | next=>
  obtain⟨ao,H',I',q⟩:=q;exact h2 aa s1 ao H' D I' q
 | ret v=>exact q
 | brk=>exact q
 | cont=>exact q
def zd (h1:PS X st t):PSs X [st] t:=by
 intro aa s σ H D I h;refine wpAny_execs_cons (thn (h1 aa s σ H D I h) fun f s1 q=>?_);cases f with
 | next=>exact wpAny_execs_nil q
 | ret v=>exact q
 | brk=>exact q
 | cont=>exact q
def Inv.quiet {aa:List (Addr×Obj)}{σ:St}{H:Hp}{s:Shared} (I:Inv X aa σ H s):interactive X.env=false:=by simp[interactive,I.ok.kind]
def znI (te:TE):TS:=fun D σ H=>te σ H fun _ H1=>D.nx σ H1
def zv (he:PE X e te) (hs:swapsWith e none pos.line X.env=pure false:=by rfl):PS X (.Expr e pos) (znI te):=by
 intro aa s σ H D I h;exact wpAny_Expr_any (thn (he aa s σ H _ I h) fun v s1 ⟨x,H1,I1,r1,q1⟩=>⟨σ,H1,I1,q1⟩) I.quiet hs
def tRet (te:TE):TS:=fun D σ H=>te σ H D.rt
def zl (he:PE X e te):PS X (.Return (some e) pos) (tRet te):=by
 intro aa s σ H D I h;exact wpAny_Return_some (thn (he aa s σ H _ I h) fun v s1 ⟨x,H1,I1,r1,q1⟩=>⟨x,σ,H1,I1,r1,q1⟩)
def tIfS (c:TT) (t u:TS):TS:=fun D σ H=>c σ H fun b H1=>if b=true then t D σ H1 else u D σ H1
def zD {c:Expr}{a b:List Stmt}{tc:TT} (hc:PT X c tc) (ha:PSs X a t) (hb:PSs X b u):PS X (.If c a b pos) (tIfS tc t u):=by
 intro aa s σ H D I h;refine wpAny_If (thn (hc aa s σ H _ I h) fun d s1 ⟨H1,I1,q1⟩=>?_);cases d with
 | true=>exact ha aa s1 σ H1 D I1 q1
 | false=>exact hb aa s1 σ H1 D I1 q1
def zmx:TS:=fun _ _ _=>False
def zA {rg:List Stmt}:PSs X rg zmx:=fun _ _ _ _ _ _ h=>h.elim
end
abbrev TG:=V->St->Hp->(St->Hp->Prop)->Prop
abbrev TGs:=List V->St->Hp->(St->Hp->Prop)->Prop
def PG (X:Cx) (gY:Expr) (t:TG):Prop:=
 ∀(aa:List (Addr×Obj)) (s:Shared) (σ:St) (H:Hp) (v:V) (u:Value) (Q:St->Hp->Prop),Inv X aa σ H s->RelV v u->t v σ H Q->
  wpAny (model X.prog X.w) X.A (assign gY X.env u) (fun _ s'=>∃ao H',Inv X aa ao H' s'/\Q ao H') X.xe s
def PGs (X:Cx) (ts:List Expr) (t:TGs):Prop:=
 ∀(aa:List (Addr×Obj)) (s:Shared) (σ:St) (H:Hp) (vs:List V) (us:List Value) (Q:St->Hp->Prop),Inv X aa σ H s->Vals vs us->t vs σ H Q->
  wpAny (model X.prog X.w) X.A (assignInOrder ((assignEach ts X.env).map (·.2)) us) (fun _ s'=>∃ao H',Inv X aa ao H' s'/\Q ao H') X.xe s
abbrev TSet:=V->V->V->Hp->(Hp->Prop)->Prop
def PSet (X:Cx) (t:TSet):Prop:=
 ∀(aa:List (Addr×Obj)) (s:Shared) (σ:St) (H:Hp) (o i v:V) (ov iv u:Value) (Q:Hp->Prop),Inv X aa σ H s->RelV o ov->RelV i iv->RelV v u->t o i v H Q->
  wpAny (model X.prog X.w) X.A (setItem ov iv u) (fun _ s'=>∃H',Inv X aa σ H' s'/\Q H') X.xe s
section
variable {X:Cx}{pos:Pos}
def zZ (i:Nat):TG:=fun v σ H Q=>Q (σ.set i (some v)) H
def zm {i:Nat}{x:Str} (hN:X.N.Nodup) (hi:X.N[i]?=some x) (hx:Loc X.env.scope x) (hf:X.fn x=true \/ X.env.scope.names.lookup x=some .local:=by first | exact .inl rfl | exact .inr rfl | assumption):PG X (.Name x pos) (zZ i):=by
 intro aa s σ H v u Q I r h;exact wpAny_assign_Name (zbI I hN hi hx r (fun s' I'=>⟨_,H,I',h⟩) hf)
def gNil:TGs:=fun vs σ H Q=>vs=[]/\Q σ H
def zeo (t:TG) (u:TGs):TGs:=fun vs σ H Q=>∃v r,vs=v::r/\t v σ H fun ao H'=>u r ao H' Q
def zeJ:PGs X [] gNil:=by
 intro aa s σ H vs us Q I r h;obtain⟨e,h⟩:=h;subst e;cases r;exact assignInOrder_nil ⟨σ,H,I,h⟩
def zaT {e:Expr}{es:List Expr}{t:TG}{u:TGs} (h1:PG X e t) (h2:PGs X es u)
  (hs:(assignEach (e::es) X.env).map (·.2)=assign e X.env::(assignEach es X.env).map (·.2):=by rfl):PGs X (e::es) (zeo t u):=by
 intro aa s σ H vs us Q I r h;obtain⟨v,vr,e1,h⟩:=h;subst e1;cases r with
 | cons r rr=>
  rw[hs];refine assignInOrder_cons (thn (h1 aa s σ H _ _ _ I r h) fun _ s1 ⟨eF,H1,I1,q1⟩=>?_);exact h2 aa s1 eF H1 _ _ Q I1 rr q1
def gTup (K:Ad) (n:Nat) (t:TGs):TG:=fun v σ H Q=>∃a xs,v=.ref a/\SqT K H a xs/\xs.length=n/\t xs σ H Q
def zhq {es:List Expr}{k:Nat}{t:TGs}{n:Nat} (hc:X.calm=true) (h:PGs X es t)
  (hn:(assignEach es X.env).length=n:=by rfl) (hst:(assignEach es X.env).findIdx? (·.1)=none:=by rfl):PG X (.Tuple es k pos) (gTup X.K n t):=by
 intro aa s σ H v u Q I r hw;obtain⟨a,xs,e1,hq,hl,hw⟩:=hw;subst e1;cases r;obtain⟨ah,rv,ht,hz⟩:=I.tuple hq;refine assign_Tuple_tuple (I.ok.hd hc) ht (by simp[hn,<- hl,rv.length]) hst fun h' hx=>?_;have I1:Inv X aa σ H { s with heap:=h' }:=I.kept (t':=s.toks) fun b o e=>hx b o (As (Aj e)) e;exact h aa _ σ H xs _ Q I1 (by simpa using rv) hw
def gSub (to ti:TE) (t:TSet):TG:=fun v σ H Q=>to σ H fun o H1=>ti σ H1 fun i H2=>t o i v H2 fun H3=>Q σ H3
def zkx {o i:Expr}{to ti:TE}{t:TSet} (ho:PE X o to) (hi:PE X i ti) (hs:PSet X t)
  (ha:∀v,assign (.Subscript o i pos) X.env v=(do
   let ov <- holding [v] (eval o X.env)
   let iv <- holding [v,ov] (eval i X.env)
   standAt pos
   holding [v,ov,iv] (setItem ov iv v)
   release [v,ov,iv] []):=by intro _; rfl):PG X (.Subscript o i pos) (gSub to ti t):=by
 intro aa s σ H v u Q I r h;rw[ha];refine Aa (AM (thn (ho aa s σ H _ I h) fun ov s1 ⟨x,H1,I1,r1,q1⟩=>?_));refine Aa (AM (thn (hi aa s1 σ H1 _ I1 q1) fun iv s2 ⟨y,H2,I2,r2,q2⟩=>?_));refine Aa (wpAny_standAt (Aa (AM (thn (hs aa s2 σ H2 x y v ov iv u _ I2 r1 r2 r q2) fun _ s3 ⟨H3,I3,q3⟩=>?_))));exact wpAny_release ⟨σ,H3,I3,q3⟩
def tAsg (te:TE) (g:TG):TS:=fun D σ H=>te σ H fun x H1=>g x σ H1 D.nx
def zkk {tg e:Expr}{te:TE}{g:TG} (he:PE X e te) (hg:PG X tg g) (hs:swapsWithSole [tg] e pos.line X.env=pure false:=by rfl) (hw:swappedStores [tg] e X.env=pure none:=by rfl)
  (h1:(assignEach [tg] X.env).map (·.2)=[assign tg X.env]:=by rfl):PS X (.Assign [tg] e pos) (tAsg te g):=by
 intro aa s σ H D I h;refine wpAny_Assign_stores (thn (he aa s σ H _ I h) fun v s1 ⟨x,H1,I1,r1,q1⟩=>?_) hs hw;rw[h1];exact thn (hg aa s1 σ H1 x v _ I1 r1 q1) fun _ s2 q=>q
def zo {i:Nat}{x:Str}{e:Expr}{te:TE}{aV:Pos} (hN:X.N.Nodup) (hi:X.N[i]?=some x) (hx:Loc X.env.scope x) (he:PE X e te) (hs:swapsWith e (some (.Name x aV)) pos.line X.env=pure false:=by rfl) (hf:X.fn x=true \/ X.env.scope.names.lookup x=some .local:=by first | exact .inl rfl | exact .inr rfl | assumption) :
  PS X (.Assign [.Name x aV] e pos) (tAsg te (zZ i)):=by
 intro aa s σ H D I h;refine wpAny_Assign_Name (thn (he aa s σ H _ I h) fun v s1 ⟨y,H1,I1,r1,q1⟩=>?_) hs;exact zbI I1 hN hi hx r1 (fun s2 I2=>⟨_,H1,I2,q1⟩) hf
def zmb (c:TT) (tb:TS):TS:=fun D σ H=>∃W:Nat->St->Hp->Prop,(∃m,W m σ H)/\∀m σ H,W m σ H->
 c σ H fun b H1=>if b=true then ∃N:St->Hp->Prop,(∀ao H',N ao H'->∃m',m'<m/\W m' ao H')/\tb { D with nx:=N,ct:=N,bk:=D.nx } σ H1 else D.nx σ H1
def zja {c:Expr}{body:List Stmt}{tc:TT}{tb:TS} (hp:PassesOwn (model X.prog X.w) X.A X.env X.xe) (hc:PT X c tc) (hb:PSs X body tb):PS X (.While c body [] pos) (zmb tc tb):=by
 intro aa s σ H D I h;obtain⟨W,⟨m0,w0⟩,turn⟩:=h;refine wpAny_While (codeAny_whileLoop (fun n s'=>∃ao H',Inv X aa ao H' s'/\W n ao H') ?_ m0 ⟨σ,H,I,w0⟩);rintro n s1 ⟨eF,H1,I1,w1⟩;refine wpAny_passesOwn hp (thn (hc aa s1 eF H1 _ I1 (turn n eF H1 w1)) fun b s2 ⟨H2,I2,q2⟩=>?_);cases b with
 | true=>
  obtain⟨N,hN,q2⟩:=q2;rw[if_pos rfl];refine wpAny_passesOwn hp (thn (hb aa s2 eF H2 _ I2 q2) fun f s3 q3=>?_);cases f with
  | next=>
   obtain⟨av,H3,I3,n3⟩:=q3;obtain⟨m',hm,w3⟩:=hN av H3 n3;exact⟨m',hm,av,H3,I3,w3⟩
  | cont=>
   obtain⟨av,H3,I3,n3⟩:=q3;obtain⟨m',hm,w3⟩:=hN av H3 n3;exact⟨m',hm,av,H3,I3,w3⟩
  | brk=>exact q3
  | ret v=>exact q3
 | false=>
  rw[if_neg Ao];exact wpAny_execs_nil ⟨eF,H2,I2,q2⟩
end
structure It where
 go:Nat->Hp->Prop
 yld:Nat->Hp->V->Hp->Prop
 stop:Nat->Hp->Prop
def FpOk (X:Cx) (aa:List (Addr×Obj)) (H:Hp) (b:Addr):Prop:=
 H b=none/\b≠X.env.locals/\b∉X.fs/\(b∈X.ex \/ X.s₀.heap.objs.size<=b)/\(∀x c,X.env.cells.lookup x=some c->c≠b)/\∀p∈X.pn++aa,p.1≠b
def Inv.fpOk {X:Cx}{aa:List (Addr×Obj)}{σ:St}{H H':Hp}{s:Shared}{b:Addr} (I:Inv X aa σ H s) (hb:s.heap.objs.size<=b) (hn:H' b=none):FpOk X aa H' b:=by
 refine⟨hn,A1 (Ay I.lt hb),I.nofs hb,.inr (AA I.sz hb),fun x c e z=>?_,fun p hp z=>?_⟩
 ·obtain⟨v,q⟩:=I.cell x c e
  exact absurd (Ay q.lt (by rw[z]; exact hb)) (Nat.lt_irrefl _)
 ·exact absurd (Ay (Aj (I.pin p hp).1) (by rw[z]; exact hb)) (Nat.lt_irrefl _)
structure Turn (P:Program) (w:World) (K:Ad) (tg:Expr) (J:It) (fp:List Addr) (it:Addr) (tn:Nat->Heap->Prop):Prop where
 mem:it∈fp
 obj:∀i h,tn i h->∀b∈fp,∃o,h.get? b=some o/\∀v,o.data≠.cell v
 keep:∀i h h',tn i h->(∀b∈fp,∀o,h.get? b=some o->h'.get? b=some o)->tn i h'
 item:∀(X:Cx),X.prog=P->X.w=w->X.K=K->X.calm=true->∀(i:Nat) (aa:List (Addr×Obj)) (s:Shared) (σ:St) (H:Hp) (E:Value->Shared->Prop),Inv X aa σ H s->(∀b∈fp,FpOk X aa H b)->tn i s.heap->J.go i H->
  wpAny (model P w) X.A (pyNext (.ref it)) (fun r s1=>∃u,r=some u/\
   wpAny (model P w) X.A (letOwnedTupleGo tg (.ref it) u) (fun _ s2=>∃x H',Inv X aa σ H' s2/\RelV x u/\J.yld i H x H'/\tn (i+1) s2.heap/\∀b∈fp,H' b=none) E s1) E s
 done:∀(X:Cx),X.prog=P->X.w=w->X.K=K->X.calm=true->∀(i:Nat) (aa:List (Addr×Obj)) (s:Shared) (σ:St) (H:Hp) (E:Value->Shared->Prop),Inv X aa σ H s->(∀b∈fp,FpOk X aa H b)->tn i s.heap->J.stop i H->
  wpAny (model P w) X.A (pyNext (.ref it)) (fun r s1=>r=none/\Inv X aa σ H s1) E s
 self:∀(A:Around) (i:Nat) (s:Shared) (Q:Value->Shared->Prop) (E:Value->Shared->Prop),tn i s.heap->Q (.ref it) s->wpAny (model P w) A (pyIter (.ref it)) Q E s
abbrev TI:=St->Hp->(It->Hp->Prop)->Prop
def PIE (X:Cx) (aa:List (Addr×Obj)) (σ:St) (tg:Expr) (R:It->Hp->Prop) (nh:Value) (s2:Shared):Prop:=
 ∃(it:Addr) (fp:List Addr) (tn:Nat->Heap->Prop) (J:It) (H':Hp),nh=.ref it/\Inv X aa σ H' s2/\Turn X.prog X.w X.K tg J fp it tn/\tn 0 s2.heap/\(∀b∈fp,FpOk X aa H' b)/\R J H'
def PI (X:Cx) (tg iter:Expr) (wi:TI):Prop:=
 ∀(aa:List (Addr×Obj)) (s:Shared) (σ:St) (H:Hp) (R:It->Hp->Prop),Inv X aa σ H s->wi σ H R->
  wpAny (model X.prog X.w) X.A (eval iter X.env) (fun v s1=>wpAny (model X.prog X.w) X.A (pyIter v) (PIE X aa σ tg R) X.xe s1) X.xe s
def zgn {M:Model}{A:Around}{E:Value->Shared->Prop}{s:Shared}{tg:Expr}{it:Addr}{u:Value}{o:Obj}{n:String}{vs:Array Value}{Q:Unit->Shared->Prop} (ho:s.heap.get? it=some o) (hc:o.cls=.type n) (hd:o.data=.fields vs)
  (hn:["enumerate","zip","dict_itemiterator","dict_reverseitemiterator","odict_iterator","itertools.zip_longest","itertools.pairwise"].contains n=false) (hQ:Q () s):wpAny M A (letOwnedTupleGo tg (.ref it) u) Q E s:=by
 unfold letOwnedTupleGo;cases tg <;> first
  | exact Ac hQ
  | (cases u <;> first
    | exact Ac hQ
    | (refine Aa (wpAny_load ho ?_); rw[hc,hd]; show wpAny M A (if (["enumerate","zip","dict_itemiterator","dict_reverseitemiterator","odict_iterator","itertools.zip_longest","itertools.pairwise"].contains n && vs[0]? == some (rawInt _))=true then _ else _) Q E s; rw[if_neg (by intro h; rw[hn,Bool.false_and] at h; cases h)]; exact Ac hQ))
def Itl (K:Ad) (a:Addr):It:=
 ⟨fun i H=>∃xs x,SqL K H a xs/\xs[i]?=some x,fun i H x H'=>H'=H/\∀xs,SqL K H a xs->xs[i]?=some x,fun i H=>∃xs,SqL K H a xs/\xs.length<=i⟩
def Itt (K:Ad) (a:Addr):It:=
 ⟨fun i H=>∃xs x,SqT K H a xs/\xs[i]?=some x,fun i H x H'=>H'=H/\∀xs,SqT K H a xs->xs[i]?=some x,fun i H=>∃xs,SqT K H a xs/\xs.length<=i⟩
def Itr (lo:Int) (n:Nat):It:=⟨fun i _=>i<n,fun i H x H'=>H'=H/\x=.int (lo+i),fun i _=>n<=i⟩
def zia {P:Program}{w:World}{K:Ad}{tg:Expr} (a it:Addr):Turn P w K tg (Itl K a) [it] it (fun i h=>h.IsListIter it a i) where
 mem:=by simp
 obj:=fun i h st b hb=>by
  have e:b=it:=by simpa using hb
  subst e;obtain⟨o,e,c,d⟩:=st;exact⟨o,e,fun v z=>by rw[d] at z; cases z⟩
 keep:=fun i h h' st k=>st.at fun o e=>k it (by simp) o e
 item:=by
  intro X hP hw hK hc i aa s σ H E I hf st hg;subst hP hw hK;obtain⟨xs,x,hq,hx⟩:=hg;obtain⟨ah,rv,p,hz⟩:=I.list hq;obtain⟨u,hu,ru⟩:=rv.get hx;obtain⟨f0,f1,f2,f3,f4,f5⟩:=hf it (by simp);refine wpAny_pyNext_list_item st p.isList (x:=u) (by simpa using hu) fun h' ak sb=>?_;have I1:Inv X aa σ H { s with heap:=h' }:=I.turned (t':=s.toks) (fun b o hb e=>(sb.2 b hb).trans e) f0 f1 f3 f4 f5;obtain⟨o,e,c,d⟩:=id ak;exact⟨u,rfl,zgn (s:={ s with heap:=h' }) e c d (by decide) ⟨x,H,I1,ru,⟨rfl,fun ys hy=>by rw[I.list_inj hy hq]; exact hx⟩,ak,fun b hb=>(hf b hb).1⟩⟩
 done:=by
  intro X hP hw hK hc i aa s σ H E I hf st hg;subst hP hw hK;obtain⟨xs,hq,hx⟩:=hg;obtain⟨ah,rv,p,hz⟩:=I.list hq;obtain⟨f0,f1,f2,f3,f4,f5⟩:=hf it (by simp);have hl:=rv.length;exact wpAny_pyNext_list_end (I.ok.hd hc) st p.isList (by simp; omega) fun h' eb=>⟨rfl,I.turned (t':=s.toks) (fun b o hb e=>eb b o hb e) f0 f1 f3 f4 f5⟩
 self:=fun _ _ _ _ _ st h=>wpAny_pyIter_listiter st h
def zf5 {P:Program}{w:World}{K:Ad}{tg:Expr} (a it:Addr):Turn P w K tg (Itt K a) [it] it (fun i h=>h.IsTupleIter it a i) where
 mem:=by simp
 obj:=fun i h st b hb=>by
  have e:b=it:=by simpa using hb
  subst e;obtain⟨o,e,c,d⟩:=st;exact⟨o,e,fun v z=>by rw[d] at z; cases z⟩
 keep:=fun i h h' st k=>st.at fun o e=>k it (by simp) o e
 item:=by
  intro X hP hw hK hc i aa s σ H E I hf st hg;subst hP hw hK;obtain⟨xs,x,hq,hx⟩:=hg;obtain⟨ah,rv,p,hz⟩:=I.tuple hq;obtain⟨u,hu,ru⟩:=rv.get hx;obtain⟨f0,f1,f2,f3,f4,f5⟩:=hf it (by simp);refine wpAny_pyNext_tuple_item st (show s.heap.IsTuple a ah.toArray from p) (x:=u) (by simpa using hu) fun h' ak sb=>?_;have I1:Inv X aa σ H { s with heap:=h' }:=I.turned (t':=s.toks) (fun b o hb e=>(sb.2 b hb).trans e) f0 f1 f3 f4 f5;obtain⟨o,e,c,d⟩:=id ak;exact⟨u,rfl,zgn (s:={ s with heap:=h' }) e c d (by decide) ⟨x,H,I1,ru,⟨rfl,fun ys hy=>by rw[I.tuple_inj hy hq]; exact hx⟩,ak,fun b hb=>(hf b hb).1⟩⟩
 done:=by
  intro X hP hw hK hc i aa s σ H E I hf st hg;subst hP hw hK;obtain⟨xs,hq,hx⟩:=hg;obtain⟨ah,rv,p,hz⟩:=I.tuple hq;obtain⟨f0,f1,f2,f3,f4,f5⟩:=hf it (by simp);have hl:=rv.length;exact wpAny_pyNext_tuple_end (I.ok.hd hc) st (show s.heap.IsTuple a ah.toArray from p) (by simp; omega) fun h' eb=>⟨rfl,I.turned (t':=s.toks) (fun b o hb e=>eb b o hb e) f0 f1 f3 f4 f5⟩
 self:=fun _ _ _ _ _ st h=>wpAny_pyIter_tupleiter st h
def zgc {P:Program}{w:World}{K:Ad}{tg:Expr} (it:Addr) (lo:Int) (n:Nat):Turn P w K tg (Itr lo n) [it] it (fun i h=>IsRangeIter h it (lo+(i:Nat)*1) ((n:Int) - (i:Nat)) 1) where
 mem:=by simp
 obj:=fun i h st b hb=>by
  have e:b=it:=by simpa using hb
  subst e;exact⟨_,st,fun v z=>by
   have z':Data.fields _=Data.cell v:=z;cases z'⟩
 keep:=fun i h h' st k=>k it (by simp) _ st
 item:=by
  intro X hP hw hK hc i aa s σ H E I hf st hg;subst hP hw hK;obtain⟨f0,f1,f2,f3,f4,f5⟩:=hf it (by simp);have W:=Walks.range (prog:=X.prog) (w:=X.w) (I.ok.hd hc) it lo 1 n;refine W.item i s _ _ hg st fun v h' tk hv ak kk=>?_;obtain⟨t,rfl⟩:=hv;have I1:Inv X aa σ H { s with heap:=h',toks:=tk }:=I.turned (fun b o hb e=>kk b o (by simpa using hb) e) f0 f1 f3 f4 f5;refine⟨_,rfl,zgn (s:={ s with heap:=h',toks:=tk }) (n:="range_iterator") ak rfl rfl (by decide) ⟨.int (lo+i),H,I1,⟨t,?_⟩,⟨rfl,rfl⟩,ak,fun b hb=>(hf b hb).1⟩⟩;rw[Int.mul_one]
 done:=by
  intro X hP hw hK hc i aa s σ H E I hf st hg;subst hP hw hK;obtain⟨f0,f1,f2,f3,f4,f5⟩:=hf it (by simp);exact wpAny_pyNext_range_end (I.ok.hd hc) st (by have:n<=i:=hg; omega) fun h' eb=>⟨rfl,I.turned (t':=s.toks) (fun b o hb e=>eb b o hb e) f0 f1 f3 f4 f5⟩
 self:=fun _ _ _ _ _ st h=>wpAny_pyIter_rangeiter st h
end L2
namespace L2
open PySem PySem.Spec PyProof.Rows
section
variable {X:Cx}{tg:Expr}
def znS (K:Ad) (tl:TE):TI:=fun σ H R=>tl σ H fun x H1=>∃a,x=.ref a/\(∃xs,SqL K H1 a xs)/\R (Itl K a) H1
def iTup (K:Ad) (tl:TE):TI:=fun σ H R=>tl σ H fun x H1=>∃a,x=.ref a/\(∃xs,SqT K H1 a xs)/\R (Itt K a) H1
def zL {l:Expr}{tl:TE} (hl:PE X l tl):PI X tg l (znS X.K tl):=by
 intro aa s σ H R I h;refine thn (hl aa s σ H _ I h) fun v s1 ⟨x,H1,I1,r1,q1⟩=>?_;obtain⟨a,e,⟨xs,hq⟩,q⟩:=q1;subst e;cases r1;obtain⟨ah,rv,p,hz⟩:=I1.list hq;refine wpAny_pyIter_list p.isList ?_;refine⟨s1.heap.objs.size,[s1.heap.objs.size],_,_,H1,rfl,I1.kept (t':=s1.toks) fun b o e=>Ae _ e,zia a _,⟨_,Ak _ rfl,rfl,rfl⟩,fun b hb=>?_,q⟩;have e:b=s1.heap.objs.size:=by simpa using hb
 subst e;exact I1.fpOk (Af _) (I1.hok.fresh (Af _))
def zeZ {l:Expr}{tl:TE} (hl:PE X l tl):PI X tg l (iTup X.K tl):=by
 intro aa s σ H R I h;refine thn (hl aa s σ H _ I h) fun v s1 ⟨x,H1,I1,r1,q1⟩=>?_;obtain⟨a,e,⟨xs,hq⟩,q⟩:=q1;subst e;cases r1;obtain⟨ah,rv,p,hz⟩:=I1.tuple hq;refine wpAny_pyIter_tuple (show s1.heap.IsTuple a ah.toArray from p) ?_;refine⟨s1.heap.objs.size,[s1.heap.objs.size],_,_,H1,rfl,I1.kept (t':=s1.toks) fun b o e=>Ae _ e,zf5 a _,⟨_,Ak _ rfl,rfl,rfl⟩,fun b hb=>?_,q⟩;have e:b=s1.heap.objs.size:=by simpa using hb
 subst e;exact I1.fpOk (Af _) (I1.hok.fresh (Af _))
def zj4 {aa:List (Addr×Obj)}{σ:St}{H:Hp}{s:Shared}{R:It->Hp->Prop}{E:Value->Shared->Prop}{lo hi:Int}{t u v:Tok}{tk:Nat} (I:Inv X aa σ H s) (h1:-(2 ^ 62)<=lo) (h2:lo<2 ^ 62) (h3:-(2 ^ 62)<=hi) (h4:hi<2 ^ 62)
  (q:R (Itr lo (hi - lo).toNat) H):wpAny (model X.prog X.w) X.A (pyIter (.ref s.heap.objs.size)) (PIE X aa σ tg R) E { s with heap:=s.heap.push { cls:=.type "range",data:=.fields #[.int lo t,.int hi u,.int 1 v] },toks:=tk }:=by
 refine wpAny_pyIter_range (IsRange.new ..) (small_one h1 h2 h3 h4) ?_;have I1:Inv X aa σ H { s with heap:=s.heap.push { cls:=.type "range",data:=.fields #[.int lo t,.int hi u,.int 1 v] },toks:=tk }:=I.kept fun b o e=>Ae _ e;refine⟨(s.heap.push { cls:=.type "range",data:=.fields #[.int lo t,.int hi u,.int 1 v] }).objs.size,[(s.heap.push { cls:=.type "range",data:=.fields #[.int lo t,.int hi u,.int 1 v] }).objs.size],_,_,H,rfl,
  I1.kept (t':=tk) fun b o e=>Ae _ e,zgc _ lo (hi - lo).toNat,?_,fun b hb=>?_,q⟩
 ·have e1:lo+((0:Nat):Int)*1=lo:=by simp
  have e2:(((hi - lo).toNat:Nat):Int) - ((0:Nat):Int)=Builtin.Range.rangeSize lo hi 1:=by rw[rangeSize_one]; split <;> omega
  show IsRangeIter _ _ (lo+((0:Nat):Int)*1) ((((hi - lo).toNat:Nat):Int) - ((0:Nat):Int)) 1;rw[e1,e2];exact Ak _ rfl
 ·have e:b=(s.heap.push { cls:=.type "range",data:=.fields #[.int lo t,.int hi u,.int 1 v] }).objs.size:=by simpa using hb
  subst e;exact I1.fpOk (Af _) (I1.hok.fresh (Af _))
def znK (ta:TA):TI:=fun σ H R=>ta σ H fun vs H1=>∃j:Int,vs=[.int j]/\-(2 ^ 62)<=j/\j<2 ^ 62/\R (Itr 0 j.toNat) H1
def zaH {a:Expr}{ta:TA}{p pos:Pos} (hg:Gl X "range") (hm:X.mg "range"=none) (ha:PA X [a] ta) (hs:starEach [a] X.env=[(false,eval a X.env)]:=by rfl):PI X tg (.Call (.Name "range" p) [a] [] pos) (znK ta):=by
 intro aa s σ H R I h;refine Call_ (zcb I hg hm boot_range (PyProof.Rows.callWith_type1 (thn (ha pos aa s σ H _ I h) fun us s1 ⟨vs,H1,I1,r1,q1⟩=>?_) hs rfl));obtain⟨j,e,q1,q2,q⟩:=q1;subst e;cases r1 with
 | cons r rr=>
  cases rr;obtain⟨t,rfl⟩:=r;exact call_range_1 (zj4 I1 (by omega) (by omega) q1 q2 (by simpa using q))
def tFor (wi:TI) (g:TG) (tb:TS):TS:=fun D σ H=>wi σ H fun J H1=>∃W:Nat->Nat->St->Hp->Prop,(∃m,W 0 m σ H1)/\∀i m σ H,W i m σ H->
 (J.stop i H/\D.nx σ H) \/ (J.go i H/\∃N:St->Hp->Prop,(∀ao H',N ao H'->∃m',m'<m/\W (i+1) m' ao H')/\∀x H',J.yld i H x H'->g x σ H' fun bf H2=>tb { D with nx:=N,ct:=N,bk:=D.nx } bf H2)
def zdz (fp:List Addr) (h:Heap):List (Addr×Obj):=fp.filterMap fun b=>(h.get? b).map fun o=>(b,o)
def zaS {fp:List Addr}{h:Heap}{b:Addr}{o:Obj} (hb:b∈fp) (e:h.get? b=some o):(b,o)∈zdz fp h:=List.mem_filterMap.mpr ⟨b,hb,by rw[e]; rfl⟩
def ziv {fp:List Addr}{h:Heap}{p:Addr×Obj} (hp:p∈zdz fp h):p.1∈fp/\h.get? p.1=some p.2:=by
 obtain⟨b,hb,e⟩:=List.mem_filterMap.mp hp;cases q:h.get? b with
 | none=>rw[q] at e; cases e
 | some o=>
  rw[q] at e;have e':(b,o)=p:=Al e;subst e';exact⟨hb,q⟩
def Inv.pinned {aa:List (Addr×Obj)}{σ:St}{H:Hp}{s:Shared}{fp:List Addr} (I:Inv X aa σ H s) (hf:∀b∈fp,FpOk X aa H b) (ho:∀b∈fp,∃o,s.heap.get? b=some o/\∀v,o.data≠.cell v):Inv X (aa++zdz fp s.heap) σ H s:=
 I.pins_of fun p hp=>(List.mem_append.mp hp).elim (fun z=>I.pin p (AT _ z)) fun z=>by
  obtain⟨hb,e⟩:=ziv z;obtain⟨f0,f1,f2,_⟩:=hf p.1 hb;obtain⟨o,e',d⟩:=ho p.1 hb;rw[e] at e'; cases e';exact⟨e,f0,f1,f2,d⟩
def Inv.unpinned {aa pl:List (Addr×Obj)}{σ:St}{H:Hp}{s:Shared} (I:Inv X (aa++pl) σ H s):Inv X aa σ H s:=I.pins_of fun p hp=>I.pin p (AT _ (List.mem_append_left _ hp))
def zaa {iter:Expr}{body:List Stmt}{wi:TI}{g:TG}{tb:TS}{pos:Pos} (hp:PassesOwn (model X.prog X.w) X.A X.env X.xe) (hc:X.calm=true) (hi:PI X tg iter wi) (hg:PG X tg g) (hb:PSs X body tb)
  (hs:∀x,foldedSetIterable iter X.env x=pure x:=by intro _; rfl):PS X (.For tg iter body [] pos) (tFor wi g tb):=by
 intro aa s σ H D I h;refine wpAny_For (thn (hi aa s σ H _ I h) fun v s1 h1=>thn h1 fun nh s2 h2=>?_) hs;obtain⟨it,fp,tn,J,H2,e,I2,T,d_,f2,W,⟨m0,w0⟩,turn⟩:=h2;subst e;have stat:∀{H':Hp},(∀b∈fp,H' b=none)->∀b∈fp,FpOk X aa H' b:=fun hn b hb=>⟨hn b hb,(f2 b hb).2⟩;refine codeAny_forLoop_any (fun n s'=>∃i ao H',Inv X aa ao H' s'/\tn i s'.heap/\(∀b∈fp,H' b=none)/\W i n ao H') ?_ m0 ⟨0,σ,H2,I2,d_,fun b hb=>(f2 b hb).1,w0⟩;rintro n s3 ⟨i,av,H3,I3,cg,ou,w3⟩;rcases turn i n av H3 w3 with ⟨stop,qn⟩ | ⟨go,N,hN,step⟩
 ·refine wpAny_passesOwn hp (thn (T.done X rfl rfl rfl hc i aa s3 av H3 X.xe I3 (stat ou) cg stop) fun r s4 ⟨hr,I4⟩=>?_)
  subst hr;exact wpAny_execs_nil ⟨av,H3,I4,qn⟩
 ·refine wpAny_passesOwn hp (thn (T.item X rfl rfl rfl hc i aa s3 av H3 X.xe I3 (stat ou) cg go) fun r s4 ⟨u,hr,h4⟩=>?_)
  subst hr;refine wpAny_passesOwn hp (thn h4 fun _ s5 ⟨x,H5,I5,r5,y5,st5,fr5⟩=>?_);have me:=I5.pinned (stat fr5) (T.obj _ _ st5);refine wpAny_passesOwn hp (thn (hg _ s5 av H5 x u _ me r5 (step x H5 y5)) fun _ s6 ⟨jQ,H6,I6,q6⟩=>?_);refine wpAny_passesOwn hp (thn (hb _ s6 jQ H6 _ I6 q6) fun f s7 q7=>?_);have again:∀{c8:St} {H7:Hp},Inv X (aa++zdz fp s5.heap) c8 H7 s7->N c8 H7->∃m,m<n/\∃i ao H',Inv X aa ao H' s7/\tn i s7.heap/\(∀b∈fp,H' b=none)/\W i m ao H':=fun {c8 H7} I7 n7=>by
   obtain⟨m',hm,w7⟩:=hN c8 H7 n7;refine⟨m',hm,i+1,c8,H7,I7.unpinned,T.keep _ _ _ st5 fun b hb o e=>(I7.pin (b,o) (AT _ (AT _ (zaS hb e)))).1,fun b hb=>?_,w7⟩;obtain⟨o,e,d⟩:=T.obj _ _ st5 b hb;exact (I7.pin (b,o) (AT _ (AT _ (zaS hb e)))).2.1
  cases f with
  | next=>obtain⟨c8,H7,I7,n7⟩:=q7; exact again I7 n7
  | cont=>obtain⟨c8,H7,I7,n7⟩:=q7; exact again I7 n7
  | brk=>obtain⟨c8,H7,I7,q7⟩:=q7; exact⟨c8,H7,I7.unpinned,q7⟩
  | ret v=>obtain⟨x7,c8,H7,I7,r7,q7⟩:=q7; exact⟨x7,c8,H7,I7.unpinned,r7,q7⟩
end
def zae {K:Ad}{a:Addr}{xs:List V}{g:TG}{tb:TS}{D:Ends}{σ:St}{H:Hp} (Pv:Nat->St->Hp->Prop) (h0:Pv 0 σ H) (hl:∀i σ H,i<=xs.length->Pv i σ H->SqL K H a xs)
  (hs:∀i x σ H,xs[i]?=some x->Pv i σ H->g x σ H fun bf H2=>tb { D with nx:=Pv (i+1),ct:=Pv (i+1),bk:=D.nx } bf H2) (hd:∀σ H,Pv xs.length σ H->D.nx σ H) :
  ∃W:Nat->Nat->St->Hp->Prop,(∃m,W 0 m σ H)/\∀i m σ H,W i m σ H->
   ((Itl K a).stop i H/\D.nx σ H) \/ ((Itl K a).go i H/\∃N:St->Hp->Prop,(∀ao H',N ao H'->∃m',m'<m/\W (i+1) m' ao H')/\∀x H',(Itl K a).yld i H x H'->g x σ H' fun bf H2=>tb { D with nx:=N,ct:=N,bk:=D.nx } bf H2):=by
 refine⟨fun i m σ H=>m=xs.length - i/\i<=xs.length/\Pv i σ H,⟨xs.length,by simp,AQ _,h0⟩,?_⟩;rintro i m σ H ⟨rfl,hi,p⟩;have q:=hl i σ H hi p
 by_cases hlt:i<xs.length
 ·refine .inr ⟨⟨xs,xs[i],q,by simp[hlt]⟩,Pv (i+1),fun ao H' p'=>⟨xs.length - (i+1),by omega,rfl,hlt,p'⟩,fun x H' y=>?_⟩
  obtain⟨e,y⟩:=y;subst e;exact hs i x σ _ (y xs q) p
 ·have e:i=xs.length:=by omega
  subst e;exact .inl ⟨⟨xs,q,Af _⟩,hd σ H p⟩
def ziL {K:Ad}{a:Addr}{xs:List V}{g:TG}{tb:TS}{D:Ends}{σ:St}{H:Hp} (Pv:Nat->St->Hp->Prop) (h0:Pv 0 σ H) (hl:∀i σ H,i<=xs.length->Pv i σ H->SqT K H a xs)
  (hs:∀i x σ H,xs[i]?=some x->Pv i σ H->g x σ H fun bf H2=>tb { D with nx:=Pv (i+1),ct:=Pv (i+1),bk:=D.nx } bf H2) (hd:∀σ H,Pv xs.length σ H->D.nx σ H) :
  ∃W:Nat->Nat->St->Hp->Prop,(∃m,W 0 m σ H)/\∀i m σ H,W i m σ H->
   ((Itt K a).stop i H/\D.nx σ H) \/ ((Itt K a).go i H/\∃N:St->Hp->Prop,(∀ao H',N ao H'->∃m',m'<m/\W (i+1) m' ao H')/\∀x H',(Itt K a).yld i H x H'->g x σ H' fun bf H2=>tb { D with nx:=N,ct:=N,bk:=D.nx } bf H2):=by
 refine⟨fun i m σ H=>m=xs.length - i/\i<=xs.length/\Pv i σ H,⟨xs.length,by simp,AQ _,h0⟩,?_⟩;rintro i m σ H ⟨rfl,hi,p⟩;have q:=hl i σ H hi p
 by_cases hlt:i<xs.length
 ·refine .inr ⟨⟨xs,xs[i],q,by simp[hlt]⟩,Pv (i+1),fun ao H' p'=>⟨xs.length - (i+1),by omega,rfl,hlt,p'⟩,fun x H' y=>?_⟩
  obtain⟨e,y⟩:=y;subst e;exact hs i x σ _ (y xs q) p
 ·have e:i=xs.length:=by omega
  subst e;exact .inl ⟨⟨xs,q,Af _⟩,hd σ H p⟩
def zbh {lo:Int}{n:Nat}{g:TG}{tb:TS}{D:Ends}{σ:St}{H:Hp} (Pv:Nat->St->Hp->Prop) (h0:Pv 0 σ H)
  (hs:∀i σ H,i<n->Pv i σ H->g (.int (lo+i)) σ H fun bf H2=>tb { D with nx:=Pv (i+1),ct:=Pv (i+1),bk:=D.nx } bf H2) (hd:∀σ H,Pv n σ H->D.nx σ H) :
  ∃W:Nat->Nat->St->Hp->Prop,(∃m,W 0 m σ H)/\∀i m σ H,W i m σ H->
   ((Itr lo n).stop i H/\D.nx σ H) \/ ((Itr lo n).go i H/\∃N:St->Hp->Prop,(∀ao H',N ao H'->∃m',m'<m/\W (i+1) m' ao H')/\∀x H',(Itr lo n).yld i H x H'->g x σ H' fun bf H2=>tb { D with nx:=N,ct:=N,bk:=D.nx } bf H2):=by
 refine⟨fun i m σ H=>m=n - i/\i<=n/\Pv i σ H,⟨n,by simp,AQ _,h0⟩,?_⟩;rintro i m σ H ⟨rfl,hi,p⟩
 by_cases hlt:i<n
 ·refine .inr ⟨hlt,Pv (i+1),fun ao H' p'=>⟨n - (i+1),by omega,rfl,hlt,p'⟩,fun x H' y=>?_⟩
  obtain⟨e,y⟩:=y;subst e y;exact hs i σ _ hlt p
 ·have e:i=n:=by omega
  subst e;exact .inl ⟨Af _,hd σ H p⟩
end L2
namespace L2
open PySem PySem.Spec PyProof.Rows
abbrev R2:=V->V->Hp->VK->Prop
def OpR (X:Cx) (f:Value->Value->Sem Value) (r:R2):Prop:=
 ∀(aa:List (Addr×Obj)) (s:Shared) (σ:St) (H:Hp) (x y:V) (v u:Value) (Q:VK),Inv X aa σ H s->RelV x v->RelV y u->r x y H Q->
  wpAny (model X.prog X.w) X.A (f v u) (EP X aa σ Q) X.xe s
def UnR (X:Cx) (f:Value->Sem Value) (r:V->Hp->VK->Prop):Prop:=
 ∀(aa:List (Addr×Obj)) (s:Shared) (σ:St) (H:Hp) (x:V) (v:Value) (Q:VK),Inv X aa σ H s->RelV x v->r x H Q->
  wpAny (model X.prog X.w) X.A (f v) (EP X aa σ Q) X.xe s
def zX (X:Cx) (f:Value) (r:List V->Hp->VK->Prop):Prop:=
 ∀(aa:List (Addr×Obj)) (s:Shared) (σ:St) (H:Hp) (xs:List V) (us:List Value) (Q:VK),Inv X aa σ H s->Vals xs us->r xs H Q->
  wpAny (model X.prog X.w) X.A (call f us) (EP X aa σ Q) X.xe s
def tOp (r:R2) (ta tb:TE):TE:=fun σ H Q=>ta σ H fun x H1=>tb σ H1 fun y H2=>r x y H2 Q
def tUn (r:V->Hp->VK->Prop) (ta:TE):TE:=fun σ H Q=>ta σ H fun x H1=>r x H1 Q
def rI (C:Int->Int->Prop) (g:Int->Int->V):R2:=fun x y H Q=>∃i j,x=.int i/\y=.int j/\C i j/\Q (g i j) H
def rI0 (g:Int->Int->V):R2:=fun x y H Q=>∃i j,x=.int i/\y=.int j/\Q (g i j) H
def rU (g:Int->V):V->Hp->VK->Prop:=fun x H Q=>∃i,x=.int i/\Q (g i) H
section
variable {X:Cx}{a b c:Expr}{ta tb tc:TE}{pos:Pos}
def binT (ha:PE X a ta) (hb:PE X b tb) {aa:List (Addr×Obj)}{s:Shared}{σ:St}{H:Hp}{R:V->V->Hp->Prop} (I:Inv X aa σ H s)
  (h:ta σ H fun x H1=>tb σ H1 fun y H2=>R x y H2) {Q:Value->Shared->Prop} {f:Value->Value->Sem Value}
  (hf:∀v u s2 x y H2,Inv X aa σ H2 s2->RelV x v->RelV y u->R x y H2->wpAny (model X.prog X.w) X.A (f v u) Q X.xe s2) :
  wpAny (model X.prog X.w) X.A (eval a X.env) (fun v am=>wpAny (model X.prog X.w) X.A (eval b X.env) (fun u az=>wpAny (model X.prog X.w) X.A (f v u) Q X.xe az) X.xe am) X.xe s:=by
 refine thn (ha aa s σ H _ I h) fun v s1 ⟨x,H1,I1,r1,q1⟩=>?_;refine thn (hb aa s1 σ H1 _ I1 q1) fun u s2 ⟨y,H2,I2,r2,q2⟩=>?_;exact hf v u s2 x y H2 I2 r1 r2 q2
def zw {op:Operator}{r:R2} (ho:OpR X (binaryOp op) r) (ha:PE X a ta) (hb:PE X b tb):PE X (.BinOp a op b pos) (tOp r ta tb):=by
 intro aa s σ H Q I h;exact wpAny_BinOp (binT ha hb I h fun v u s2 x y H2 I2 rx ry q=>ho aa s2 σ H2 x y v u Q I2 rx ry q)
def zlc {op:UnaryOp}{r:V->Hp->VK->Prop} (ho:UnR X (unaryOp op) r) (ha:PE X a ta):PE X (.UnaryOp op a pos) (tUn r ta):=by
 intro aa s σ H Q I h;exact UnaryOp_ (thn (ha aa s σ H _ I h) fun v s1 ⟨x,H1,I1,r1,q1⟩=>ho aa s1 σ H1 x v Q I1 r1 q1)
def opI {f:Value->Value->Sem Value}{C:Int->Int->Prop}{g:Int->Int->Int}
  (rule:∀(i j:Int) (t u:Tok) (s:Shared) (Q:Value->Shared->Prop) (E:Value->Shared->Prop),C i j->Q (.int (g i j) s.toks) { s with toks:=s.toks+1 }->wpAny (model X.prog X.w) X.A (f (.int i t) (.int j u)) Q E s) :
  OpR X f (rI C fun i j=>.int (g i j)):=by
 intro aa s σ H x y v u Q I rx ry h;obtain⟨i,j,rfl,rfl,hc,q⟩:=h;obtain⟨t,rfl⟩:=rx;obtain⟨t',rfl⟩:=ry;exact rule i j t t' s _ _ hc ⟨.int (g i j),H,I.tok _,⟨_,rfl⟩,q⟩
def opI0 {f:Value->Value->Sem Value}{g:Int->Int->Int}
  (rule:∀(i j:Int) (t u:Tok) (s:Shared) (Q:Value->Shared->Prop) (E:Value->Shared->Prop),Q (.int (g i j) s.toks) { s with toks:=s.toks+1 }->wpAny (model X.prog X.w) X.A (f (.int i t) (.int j u)) Q E s) :
  OpR X f (rI0 fun i j=>.int (g i j)):=by
 intro aa s σ H x y v u Q I rx ry h;obtain⟨i,j,rfl,rfl,q⟩:=h;obtain⟨t,rfl⟩:=rx;obtain⟨t',rfl⟩:=ry;exact rule i j t t' s _ _ ⟨.int (g i j),H,I.tok _,⟨_,rfl⟩,q⟩
def opB0 {f:Value->Value->Sem Value}{g:Int->Int->Bool}
  (rule:∀(i j:Int) (t u:Tok) (s:Shared) (Q:Value->Shared->Prop) (E:Value->Shared->Prop),Q (.bool (g i j)) s->wpAny (model X.prog X.w) X.A (f (.int i t) (.int j u)) Q E s) :
  OpR X f (rI0 fun i j=>.bl (g i j)):=by
 intro aa s σ H x y v u Q I rx ry h;obtain⟨i,j,rfl,rfl,q⟩:=h;obtain⟨t,rfl⟩:=rx;obtain⟨t',rfl⟩:=ry;exact rule i j t t' s _ _ ⟨.bl (g i j),H,I,rfl,q⟩
def CPow (i j:Int):Prop:=0<=j/\j<=1000000/\i.natAbs<2 ^ 64
def CMul (i j:Int):Prop:=(-(2 ^ 64)<i/\i<2 ^ 64) \/ (-(2 ^ 64)<j/\j<2 ^ 64)
def CMul.ok {i j:Int} (h:CMul i j):IntMulOk i j:=by
 rcases h with ⟨h1,h2⟩ | ⟨h1,h2⟩
 ·exact .of_left (intBits_le_64 h1 h2)
 ·exact .of_right (intBits_le_64 h1 h2)
def zaq:OpR X (binaryOp .Add) (rI0 fun i j=>.int (i+j)):=opI0 fun _ _ _ _ _ _ _ q=>add_int q
def zkq:OpR X (binaryOp .Sub) (rI0 fun i j=>.int (i - j)):=opI0 fun _ _ _ _ _ _ _ q=>sub_int q
def zbk:OpR X (binaryOp .Mult) (rI CMul fun i j=>.int (i*j)):=opI fun _ _ _ _ _ _ _ hc q=>mul_int q hc.ok
def zbA:OpR X (binaryOp .Mod) (rI (fun _ j=>0<j) fun i j=>.int (i % j)):=opI fun i j _ _ _ _ _ hc q=>by
 have h1:(0:Int)<j:=hc;exact mod_int' (by omega) (by rw[Int.fmod_eq_emod_of_nonneg i (by omega)]; exact q)
def zef:OpR X (binaryOp .Pow) (rI CPow fun i j=>.int (i ^ j.toNat)):=opI fun _ _ _ _ _ _ _ hc q=>pow_int_small hc.1 hc.2.1 hc.2.2 q
def unI {f:Value->Sem Value}{g:Int->Int}
  (rule:∀(i:Int) (t:Tok) (s:Shared) (Q:Value->Shared->Prop) (E:Value->Shared->Prop),Q (.int (g i) s.toks) { s with toks:=s.toks+1 }->wpAny (model X.prog X.w) X.A (f (.int i t)) Q E s) :
  UnR X f (rU fun i=>.int (g i)):=by
 intro aa s σ H x v Q I rx h;obtain⟨i,rfl,q⟩:=h;obtain⟨t,rfl⟩:=rx;exact rule i t s _ _ ⟨.int (g i),H,I.tok _,⟨_,rfl⟩,q⟩
def zif:UnR X (unaryOp .USub) (rU fun i=>.int (-i)):=unI fun _ _ _ _ _ q=>neg_int q
end
def scal:V->V->Bool
 | .non,.non=>true | .non,.int _=>true | .int _,.non=>true | .non,.bl _=>true | .bl _,.non=>true | .non,.str _=>true | .str _,.non=>true
 | .int _,.int _=>true | .bl _,.bl _=>true | .str _,.str _=>true | .byt _,.byt _=>true
 | .int _,.str _=>true | .str _,.int _=>true | .bl _,.str _=>true | .str _,.bl _=>true
 | _,_=>false
def rEq:R2:=fun x y H Q=>scal x y=true/\Q (.bl (decide (x=y))) H
def rNe:R2:=fun x y H Q=>scal x y=true/\Q (.bl (!decide (x=y))) H
def zht {i j:Int}:decide (V.int i=V.int j)=(i == j):=by
 rw[Bool.eq_iff_iff];simp
def dec_bl {i j:Bool}:decide (V.bl i=V.bl j)=(i == j):=by
 rw[Bool.eq_iff_iff];simp
def zhX {i j:Str}:decide (V.str i=V.str j)=(i == j):=by
 rw[Bool.eq_iff_iff];simp
def ziJ {i j:Array UInt8}:decide (V.byt i=V.byt j)=(i.toList == j.toList):=by
 rw[Bool.eq_iff_iff];cases i;cases j;simp
section
variable {X:Cx}{a b c:Expr}{ta tb tc:TE}{pos:Pos}
def fin_bl {aa:List (Addr×Obj)}{σ:St}{H:Hp}{s:Shared}{Q:VK}{k k':Bool} (I:Inv X aa σ H s) (q:Q (.bl k) H) (e:k=k'):EP X aa σ Q (.bool k') s:=by
 subst e;exact⟨.bl k,H,I,rfl,q⟩
def zaK:OpR X (compareOp .Eq) rEq:=by
 intro aa s σ H x y v u Q I rx ry h;obtain⟨hs,q⟩:=h;cases x with
 | non=>
  cases rx;cases y with
  | non=>cases ry; exact PySem.EqNone.eq_none_none (fin_bl I q (by simp))
  | bl j=>cases ry; exact PySem.EqNone.eq_none_bool (fin_bl I q (by simp))
  | int j=>obtain⟨t',rfl⟩:=ry; exact PySem.EqNone.eq_none_int (fin_bl I q (by simp))
  | str j=>obtain⟨t',rfl⟩:=ry; exact PySem.EqNone.eq_none_str (fin_bl I q (by simp))
  | _=>exact absurd (show false=true from hs) Ao
 | bl i=>
  cases rx;cases y with
  | non=>cases ry; exact PySem.EqNone.eq_bool_none (fin_bl I q (by simp))
  | bl j=>cases ry; exact eq_bool (fin_bl I q dec_bl)
  | str j=>obtain⟨t',rfl⟩:=ry; exact PySem.EqMixed.eq_bool_str (fin_bl I q (by simp))
  | _=>exact absurd (show false=true from hs) Ao
 | int i=>
  obtain⟨t,rfl⟩:=rx;cases y with
  | non=>cases ry; exact PySem.EqNone.eq_int_none (fin_bl I q (by simp))
  | int j=>obtain⟨t',rfl⟩:=ry; exact eq_int (fin_bl I q zht)
  | str j=>obtain⟨t',rfl⟩:=ry; exact PySem.EqMixed.eq_int_str (fin_bl I q (by simp))
  | _=>exact absurd (show false=true from hs) Ao
 | str i=>
  obtain⟨t,rfl⟩:=rx;cases y with
  | non=>cases ry; exact PySem.EqNone.eq_str_none (fin_bl I q (by simp))
  | bl j=>cases ry; exact PySem.EqMixed.eq_str_bool (fin_bl I q (by simp))
  | int j=>obtain⟨t',rfl⟩:=ry; exact PySem.EqMixed.eq_str_int (fin_bl I q (by simp))
  | str j=>obtain⟨t',rfl⟩:=ry; exact eq_str (fin_bl I q zhX)
  | _=>exact absurd (show false=true from hs) Ao
 | byt i=>
  obtain⟨t,rfl⟩:=rx;cases y with
  | byt j=>obtain⟨t',rfl⟩:=ry; exact PySem.W.eq_bytes (fin_bl I q ziJ)
  | _=>exact absurd (show false=true from hs) Ao
 | _=>cases y <;> exact absurd (show false=true from hs) Ao
def zdO:OpR X (compareOp .NotEq) rNe:=by
 intro aa s σ H x y v u Q I rx ry h;obtain⟨hs,q⟩:=h;cases x with
 | non=>
  cases rx;cases y with
  | non=>cases ry; exact PySem.EqNone.ne_none_none (fin_bl I q (by simp))
  | bl j=>cases ry; exact PySem.EqNone.ne_none_bool (fin_bl I q (by simp))
  | int j=>obtain⟨t',rfl⟩:=ry; exact PySem.EqNone.ne_none_int (fin_bl I q (by simp))
  | str j=>obtain⟨t',rfl⟩:=ry; exact PySem.EqNone.ne_none_str (fin_bl I q (by simp))
  | _=>exact absurd (show false=true from hs) Ao
 | bl i=>
  cases rx;cases y with
  | non=>cases ry; exact PySem.EqNone.ne_bool_none (fin_bl I q (by simp))
  | bl j=>cases ry; exact ne_bool (fin_bl I q (congrArg not dec_bl))
  | str j=>obtain⟨t',rfl⟩:=ry; exact PySem.EqMixed.ne_bool_str (fin_bl I q (by simp))
  | _=>exact absurd (show false=true from hs) Ao
 | int i=>
  obtain⟨t,rfl⟩:=rx;cases y with
  | non=>cases ry; exact PySem.EqNone.ne_int_none (fin_bl I q (by simp))
  | int j=>obtain⟨t',rfl⟩:=ry; exact ne_int (fin_bl I q (congrArg not zht))
  | str j=>obtain⟨t',rfl⟩:=ry; exact PySem.EqMixed.ne_int_str (fin_bl I q (by simp))
  | _=>exact absurd (show false=true from hs) Ao
 | str i=>
  obtain⟨t,rfl⟩:=rx;cases y with
  | non=>cases ry; exact PySem.EqNone.ne_str_none (fin_bl I q (by simp))
  | bl j=>cases ry; exact PySem.EqMixed.ne_str_bool (fin_bl I q (by simp))
  | int j=>obtain⟨t',rfl⟩:=ry; exact PySem.EqMixed.ne_str_int (fin_bl I q (by simp))
  | str j=>obtain⟨t',rfl⟩:=ry; exact ne_str (fin_bl I q (congrArg not zhX))
  | _=>exact absurd (show false=true from hs) Ao
 | byt i=>
  obtain⟨t,rfl⟩:=rx;cases y with
  | byt j=>obtain⟨t',rfl⟩:=ry; exact PySem.W.ne_bytes (fin_bl I q (congrArg not ziJ))
  | _=>exact absurd (show false=true from hs) Ao
 | _=>cases y <;> exact absurd (show false=true from hs) Ao
def zgd:OpR X (compareOp .Lt) (rI0 fun i j=>.bl (decide (i<j))):=opB0 fun _ _ _ _ _ _ _ q=>lt_int q
def zgp:OpR X (compareOp .LtE) (rI0 fun i j=>.bl (decide (i<=j))):=opB0 fun _ _ _ _ _ _ _ q=>le_int q
def zgW:OpR X (compareOp .Gt) (rI0 fun i j=>.bl (decide (j<i))):=opB0 fun _ _ _ _ _ _ _ q=>gt_int q
def zni:OpR X (compareOp .GtE) (rI0 fun i j=>.bl (decide (j<=i))):=opB0 fun _ _ _ _ _ _ _ q=>ge_int q
def zhz:OpR X (compareOp .In) (fun x y H Q=>∃i j,x=.str i/\y=.str j/\Q (.bl (!(Builtin.Str.occurrences j i 0 j.length 1).isEmpty)) H):=by
 intro aa s σ H x y v u Q I rx ry h;obtain⟨i,j,rfl,rfl,q⟩:=h;obtain⟨t,rfl⟩:=rx;obtain⟨t',rfl⟩:=ry;exact in_str (fin_bl I q rfl)
def nomark (b:Expr) {op:CmpOp} (h:op≠.In:=by decide) (h2:op≠.NotIn:=by decide):behindInMarks op b=false:=by
 have e1:(op == CmpOp.In)=false:=by cases op <;> first | rfl | exact absurd rfl h
 have e2:(op == CmpOp.NotIn)=false:=by cases op <;> first | rfl | exact absurd rfl h2
 cases b <;> simp[behindInMarks,e1,e2]
def zaL {op:CmpOp}{r:R2} (ho:OpR X (compareOp op) r) (ha:PE X a ta) (hb:PE X b tb) (hm:behindInMarks op b=false):PE X (.Compare a [op] [b] pos) (tOp r ta tb):=by
 intro aa s σ H Q I h;exact wpAny_Compare1 (binT ha hb I h fun v u s2 x y H2 I2 rx ry q=>ho aa s2 σ H2 x y v u Q I2 rx ry q) hm
def zgN (t:TE):TT:=fun σ H Q=>t σ H fun x H'=>∃k,x=.bl k/\Q k H'
def zp {op:CmpOp}{r:R2} (ho:OpR X (compareOp op) r) (ha:PE X a ta) (hb:PE X b tb) (hm:behindInMarks op b=false):PT X (.Compare a [op] [b] pos) (zgN (tOp r ta tb)):=by
 intro aa s σ H Q I h;refine wpAny_isTrue_Compare1 (thn (ha aa s σ H _ I h) fun v s1 ⟨x,H1,I1,r1,q1⟩=>thn (hb aa s1 σ H1 _ I1 q1) fun u s2 ⟨y,H2,I2,r2,q2⟩=>
  thn (ho aa s2 σ H2 x y v u _ I2 r1 r2 q2) fun c s3 ⟨z,H3,I3,r3,k,e,q3⟩=>?_) hm
 subst e;cases r3;exact wpAny_truthy_bool ⟨H3,I3,q3⟩
def znc (r r':R2) (ta tb tc:TE):TE:=fun σ H Q=>ta σ H fun x H1=>tb σ H1 fun y H2=>r x y H2 fun z H3=>∃k,z=.bl k/\
 (if k=true then tc σ H3 fun w' H4=>r' y w' H4 Q else Q (.bl false) H3)
def ze1 {op lr:CmpOp}{r r':R2} (ho:OpR X (compareOp op) r) (ho':OpR X (compareOp lr) r') (ha:PE X a ta) (hb:PE X b tb) (hc:PE X c tc)
  (hm:lastMarks [op,lr] [b,c]=false:=by with_unfolding_all rfl):PT X (.Compare a [op,lr] [b,c] pos) (zgN (znc r r' ta tb tc)):=by
 intro aa s σ H Q I h;refine isTrue_chain (thn (ha aa s σ H _ I h) fun v s1 ⟨x,H1,I1,r1,q1⟩=>test_link (thn (hb aa s1 σ H1 _ I1 q1) fun u s2 ⟨y,H2,I2,r2,q2⟩=>
  thn (ho aa s2 σ H2 x y v u _ I2 r1 r2 q2) fun d s3 ⟨z,H3,I3,r3,k,e,q3⟩=>?_)) hm
 subst e;cases r3;refine wpAny_truthy_bool ?_;cases k with
 | false=>
  obtain⟨k',e',q'⟩:=q3;cases e';exact ite_ff ⟨H3,I3,q'⟩
 | true=>
  refine ite_tt (test_last (thn (hc aa s3 σ H3 _ I3 q3) fun w' s4 ⟨z',H4,I4,r4,q4⟩=>thn (ho' aa s4 σ H4 y z' u w' _ I4 r2 r4 q4) fun d' s5 ⟨z2,H5,I5,r5,k2,e2,q5⟩=>?_));subst e2;cases r5;exact wpAny_truthy_bool ⟨H5,I5,q5⟩
def line63:(sizeLine:Nat)<2 ^ 63:=by rw[sizeLine_eq]; decide
def zcu:OpR X (binaryOp .Add) (fun x y H Q=>∃i j,x=.str i/\y=.str j/\i.length+j.length<=sizeLine/\Q (.str (i++j)) H):=by
 intro aa s σ H x y v u Q I rx ry h;obtain⟨i,j,rfl,rfl,hz,q⟩:=h;obtain⟨t,rfl⟩:=rx;obtain⟨t',rfl⟩:=ry;exact add_str (fun t' tk=>⟨.str (i++j),H,I.tok _,⟨_,rfl⟩,q⟩) hz
def vals1 {x:V}{us:List Value} (r:Vals [x] us):∃u,us=[u]/\RelV x u:=by
 cases r with
 | cons r1 r2=>cases r2; exact⟨_,rfl,r1⟩
def vals2 {x y:V}{us:List Value} (r:Vals [x,y] us):∃u w',us=[u,w']/\RelV x u/\RelV y w':=by
 cases r with
 | cons r1 r2=>
  cases r2 with
  | cons r3 r4=>cases r4; exact⟨_,_,rfl,r1,r3⟩
def ziS:zX X (.builtin "abs") (fun xs H Q=>∃i,xs=[.int i]/\Q (.int (if i<0 then -i else i)) H):=by
 intro aa s σ H xs us Q I r h;obtain⟨i,rfl,q⟩:=h;obtain⟨u,rfl,t,rfl⟩:=vals1 r;exact call_abs_int fun u tk=>⟨.int (if i<0 then -i else i),H,I.tok _,⟨_,rfl⟩,q⟩
def zbC:zX X (.type "str") (fun xs H Q=>∃i,xs=[.int i]/\i.natAbs.log2<1920/\Q (.str (toString i)) H):=by
 intro aa s σ H xs us Q I r h;obtain⟨i,rfl,hz,q⟩:=h;obtain⟨u,rfl,t,rfl⟩:=vals1 r;exact PySem.P.str_of_int hz ⟨.str _,H,I.tok _,⟨_,rfl⟩,q⟩
def LenV (K:Ad) (x:V) (H:Hp) (n:Nat):Prop:=
 match x with
 | .str y=>y.length<=sizeLine/\n=y.length
 | .byt y=>y.size<=sizeLine/\n=y.size
 | .ref p=>(∃xs,SqL K H p xs/\n=xs.length) \/ ∃xs,SqT K H p xs/\n=xs.length
 | _=>False
def zfS:zX X (.builtin "len") (fun xs H Q=>∃x n,xs=[x]/\LenV X.K x H n/\Q (.int n) H):=by
 intro aa s σ H xs us Q I r h;obtain⟨x,n,rfl,e,q⟩:=h;obtain⟨u,rfl,rx⟩:=vals1 r;have hl:=line63;have hs:sizeLine=16777216:=sizeLine_eq;cases x with
 | str y=>
  obtain⟨t,rfl⟩:=rx;obtain⟨hy,e'⟩:y.length<=sizeLine/\n=y.length:=e;subst e';exact len_str (by omega) ⟨.int _,H,I.tok _,⟨_,rfl⟩,q⟩
 | byt y=>
  obtain⟨t,rfl⟩:=rx;obtain⟨hy,e'⟩:y.size<=sizeLine/\n=y.size:=e;subst e';exact PySem.W.len_bytes (by omega) ⟨.int _,H,I.tok _,⟨_,rfl⟩,q⟩
 | ref p=>
  cases rx;have e':(∃xs,SqL X.K H p xs/\n=xs.length) \/ ∃xs,SqT X.K H p xs/\n=xs.length:=e;rcases e' with ⟨xs,hx,e'⟩ | ⟨xs,hx,e'⟩
  ·subst e'
   obtain⟨ah,r',pl,hz⟩:=I.list hx;have hlen:=r'.length;exact Calls.call_len_list pl.isList (by simp only[Ag]; omega) ⟨.int xs.length,H,I.tok _,⟨_,by simp only[Ag]; rw[hlen]⟩,q⟩
  ·subst e'
   obtain⟨ah,r',pl,hz⟩:=I.tuple hx;have hlen:=r'.length;exact len_tuple pl (by simp only[Ag]; omega) ⟨.int xs.length,H,I.tok _,⟨_,by simp only[Ag]; rw[hlen]⟩,q⟩
 | _=>exact (show False from e).elim
end
end L2
namespace L2
open PySem PySem.Spec PyProof.Rows
structure ObjM (h:Heap) (x dx C:Addr) (mA:Str->Option Value):Prop where
 obj:h.get? x=some (PySem.W.instObj C dx)
 ns:h.Ns1 dx mA
 ne:dx≠x
section
variable {prog:Program}{w:World}{A:Around}{E:Value->Shared->Prop}{s:Shared}{K:Ad}{x dx C f:Addr}{mA:Str->Option Value}{name:Str}{v:Value}
end
def RelO.some_of {v:V}{o:Option Value} (r:RelO (some v) o):∃u,o=some u/\RelV v u:=by
 cases o with
 | none=>exact (show False from r).elim
 | some u=>exact⟨u,rfl,r⟩
section
variable {P:Program}{w:World}{H H':Hp}{h h':Heap}{a C dx:Addr}{fs sf:List (Str×V)}
def zY (hok:HOk P w H h) (e:H a=some (.ins C dx fs)):∃mA,ObjM h a dx C mA/\(∀f,RelO (fs.lookup f) (mA f))/\PySem.Within mA (fs.map (·.1))/\fs.length<=1000/\H dx=some (.own a):=by
 obtain⟨d,z,ne,ob,mA,n,r,q⟩:=(show zx P w H h a (.ins C dx fs) from hok a _ e);exact⟨mA,⟨ob,n,ne⟩,r,q,z,d⟩
end
structure Cls (K:Ad) (C:Addr):Prop where
 pg:PySem.W.plainGet K C Str.empty=true
 hd:PySem.W.hasDictIn K C=true
 po:PySem.W.plainOver K C=true
 sa:PySem.W.findIn K (.ref C) "__setattr__"=some (some (.builtin "object.__setattr__"))
def Cls.get {K:Ad}{C:Addr} (c:Cls K C) (f:Str):PySem.W.plainGet K C f=true:=c.pg
section
variable {X:Cx}{aa:List (Addr×Obj)}{σ:St}{H:Hp}{s:Shared}{a C dx:Addr}{fs:List (Str×V)}{f:Str}{v:V}{A:Around}{E:Value->Shared->Prop}
end
section
variable {X:Cx}{o e aK:Expr}{f:Str}{pos aV d0:Pos}{ta tv:TE}
end
section
variable {X:Cx}{aa:List (Addr×Obj)}{σ:St}{H:Hp}{s:Shared}{A:Around}{E:Value->Shared->Prop}{Q:Value->Shared->Prop}{c:Value}{b:Bool}
end
end L2
namespace L2
open PySem PySem.Spec PyProof.Rows
structure Room (k:Nat) (A:Around):Prop where
 hd:A.handled=none
 dp:A.depth+3*k+5<recursionLimit
 un:A.units+16*k+200<cLine
def Room.mono {j k:Nat}{A:Around} (r:Room k A) (h:j<=k):Room j A:=⟨r.hd,by have:=r.dp; omega,by have:=r.un; omega⟩
def Room.deeper {k:Nat}{A:Around} (r:Room (k+1) A) (env:Env):Room k (A.deeper env):=
 ⟨r.hd,by have:=r.dp; show A.depth+1+3*k+5<_; omega,by have:=r.un; show A.units+3+16*k+200<_; omega⟩
def Room.in1 {k:Nat}{A:Around} (r:Room (k+1) A):Room k A.in1:=
 ⟨r.hd,by have:=r.dp; show A.depth+3*k+5<_; omega,by have:=r.un; show A.units+1+16*k+200<_; omega⟩
def Room.depth {k:Nat}{A:Around} (r:Room k A):A.depth<recursionLimit:=by have:=r.dp; omega
def Room.units {k:Nat}{A:Around} (r:Room k A):A.units+64<cLine:=by have:=r.un; omega
def tNil:TA:=fun _ H Q=>Q [] H
def zy (ta:TE) (tr:TA):TA:=fun σ H Q=>ta σ H fun x H1=>tr σ H1 fun xs H2=>Q (x::xs) H2
section
variable {X:Cx}{e:Expr}{es:List Expr}{te:TE}{t:TA}{pos:Pos}
def pa_nil:PA X [] tNil:=fun _ _ _ _ H Q I h=>Calls.spliced_nil ⟨[],H,I,.nil,h⟩
def pa_cons (ha:PE X e te) (hr:PA X es t) (hs:starEach (e::es) X.env=(false,eval e X.env)::starEach es X.env:=by rfl):PA X (e::es) (zy te t):=by
 intro pos aa s σ H Q I h;rw[hs];show wpAny _ _ (spliced ((false,eval e X.env)::backTo pos (starEach es X.env))) _ _ s;refine Calls.spliced_cons (thn (ha aa s σ H _ I h) fun u s1 ⟨x,H1,I1,r1,q1⟩=>?_);exact thn (hr pos aa s1 σ H1 _ I1 q1) fun us s2 ⟨xs,H2,I2,r2,q2⟩=>⟨x::xs,H2,I2,.cons r1 r2,q2⟩
def tTup (t:TA):TE:=fun σ H Q=>t σ H fun xs H1=>xs.length<=sizeLine/\∀p,H1 p=none->Q (.ref p) (upd H1 p (.tup xs))
def tLst (t:TA):TE:=fun σ H Q=>t σ H fun xs H1=>xs.length<=sizeLine/\∀p,H1 p=none->Q (.ref p) (upd H1 p (.lst xs))
def zU {x1} (h:PA X es t):PE X (.Tuple es x1 pos) (tTup t):=by
 intro aa s σ H Q I hq;refine wpAny_Tuple_spliced (thn (h pos aa s σ H _ I hq) fun us s1 ⟨xs,H1,I1,r,z,q⟩=>⟨by rw[<- r.length]; exact z,?_⟩);have hf:H1 s1.heap.objs.size=none:=I1.hok.fresh (Af _);refine⟨.ref s1.heap.objs.size,upd H1 s1.heap.objs.size (.tup xs),I1.laid (t':=s1.toks) (fun b u e=>Ae _ e) (Af _) ?_,rfl,q _ hf⟩;exact⟨z,us,r,⟨_,Ak _ rfl,rfl,_,rfl⟩⟩
def zC (h:PA X es t):PE X (.List es pos) (tLst t):=by
 intro aa s σ H Q I hq;refine wpAny_List_spliced (thn (h pos aa s σ H _ I hq) fun us s1 ⟨xs,H1,I1,r,z,q⟩=>⟨by rw[<- r.length]; exact z,?_⟩);have hf:H1 s1.heap.objs.size=none:=I1.hok.fresh (Af _);refine⟨.ref s1.heap.objs.size,upd H1 s1.heap.objs.size (.lst xs),I1.laid (t':=s1.toks) (fun b u e=>Ae _ e) (Af _) ?_,rfl,q _ hf⟩;exact⟨z,us,0,r,Ak _ rfl⟩
end
abbrev Sp:=List V->Hp->VK->XK->Prop
abbrev CXT:=List Env->Hp->Shared->XK->Value->Shared->Prop
structure Env0 (P:Program) (w:World) (K:Ad) (mg:Str->Option Value) (base:Heap) (A:Around) (outer:List Env) (s:Shared) (H:Hp):Prop where
 frames:A.frames=some outer
 mod:Mod K mg base
 bs:∀b o,base.get? b=some o->s.heap.get? b=some o/\H b=none
 bsz:base.objs.size<=s.heap.objs.size
 funs:s.heap.FunFrames base outer
 frf:∀b∈frs outer,H b=none
 hok:HOk P w H s.heap
 bare:AllBare s.gens
def CE (outer:List Env) (P:Program) (w:World) (H:Hp) (s:Shared) (Q:VK) (u:Value) (s':Shared):Prop:=
 ∃v H',s'.os=s.os/\AllBare s'.gens/\Un (frs outer) [] H H' s.heap s'.heap/\HOk P w H' s'.heap/\RelV v u/\Q v H'
def CR (CX:CXT) (outer:List Env) (P:Program) (w:World) (H:Hp) (s:Shared) (Q:VK) (E:XK) (r:Result) (s':Shared):Prop:=
 match r with
 | .ok (.ret u)=>CE outer P w H s Q u s'
 | .ok _=>False
 | .error e=>CX outer H s E e s'
structure FnOk (P:Program) (w:World) (K:Ad) (mg:Str->Option Value) (base:Heap) (CX:CXT) (k:Nat) (f:Addr) (fd:FuncData) (ps:List Str) (sp:Sp):Prop where
 len:∀vs H Q E,sp vs H Q E->vs.length=ps.length
 run:∀(A:Around) (outer:List Env) (s:Shared) (H:Hp) (args:Args) (us:List Value) (vs:List V) (Q:VK) (E:XK),Room k A->Env0 P w K mg base A outer s H->BindsTo s fd args (ps.zip us)->Vals vs us->sp vs H Q E->
  codeAny (model P w) A (.call (.ref f) args) (CR CX outer P w H s Q E) s
def Env0.in1 {P:Program}{w:World}{K:Ad}{mg:Str->Option Value}{base:Heap}{A:Around}{outer:List Env}{s:Shared}{H:Hp} (e:Env0 P w K mg base A outer s H) :
  Env0 P w K mg base A.in1 outer s H:=⟨e.frames,e.mod,e.bs,e.bsz,e.funs,e.frf,e.hok,e.bare⟩
section
variable {X:Cx}{aa:List (Addr×Obj)}{σ:St}{H:Hp}{s s':Shared}
def Inv.env0 (I:Inv X aa σ H s):Env0 X.prog X.w X.K X.mg X.base X.A X.stack s H:=
 ⟨I.ok.frames,I.ok.mod,I.bs,AA I.ok.bsz I.sz,I.stack,I.stkFree,I.hok,I.bare⟩
def Inv.after {Q:VK}{u:Value} (I:Inv X aa σ H s) (h:CE X.stack X.prog X.w H s Q u s'):EP X aa σ Q u s':=by
 obtain⟨v,H',os,bare,un,hok,r,q⟩:=h;obtain⟨hh,g,d,t,nr⟩:=s';obtain rfl:nr=s.os:=os;exact⟨v,H',I.call (h':=hh) (g':=g) (d':=d) (t':=t) (ch:=[]) un hok bare (fun b z=>absurd z (by simp)),r,q⟩
end
def zg6 (sp:Sp) (dA:List V) (E:XK) (t:TA):TE:=fun σ H Q=>t σ H fun vs H1=>sp (vs++dA) H1 Q E
def Binds (K:Ad) (fd:FuncData) (ps:List Str) (ds:List Value):Prop:=
 ∀(s:Shared) (us:List Value),K.In s.heap->(us++ds).length=ps.length->BindsTo s fd ⟨us,[]⟩ (ps.zip (us++ds))
def Binds.all {K:Ad}{fd:FuncData}{ps:List Str} (h:∀us:List Value,us.length=ps.length->bindArgs fd ⟨us,[]⟩=pure (ps.zip us)):Binds K fd ps []:=fun s us _ hl=>by
 rw[List.append_nil] at hl ⊢;exact .of_eq (h us hl)
def Passes (CX:CXT) (X:Cx) (E:XK):Prop:=∀(aa:List (Addr×Obj)) (σ:St) (H:Hp) (s:Shared) (e:Value) (s':Shared),Inv X aa σ H s->CX X.stack H s E e s'->X.xe e s'
section
variable {X:Cx}{CX:CXT}{k:Nat}{f C:Addr}{fd:FuncData}{ps:List Str}{sp:Sp}{dA:List V}{ds:List Value}{E:XK}{x m:Str}{p pos aI:Pos}{e o:Expr}{es:List Expr}{ta:TE}{t:TA}
def znf {aa:List (Addr×Obj)}{σ:St}{H:Hp}{s:Shared}{Q:VK}{us:List Value}{vs:List V} (F:FnOk X.prog X.w X.K X.mg X.base CX k f fd ps sp) (hr:Room k X.A) (hb:Binds X.K fd ps ds) (hd:Vals dA ds) (hx:Passes CX X E)
  (I:Inv X aa σ H s) (r:Vals vs us) (h:sp (vs++dA) H Q E):wpAny (model X.prog X.w) X.A (call (.ref f) us) (EP X aa σ Q) X.xe s:=by
 have r2:Vals (vs++dA) (us++ds):=r.append hd;have hl:(us++ds).length=ps.length:=by rw[<- r2.length]; exact F.len _ _ _ _ h
 refine wpAny_call (codeAny_mono (F.run X.A X.stack s H ⟨us,[]⟩ (us++ds) (vs++dA) Q E hr I.env0 (hb s us I.kIn hl) r2 h) fun r s' hq=>?_);cases r with
 | error e=>exact hx aa σ H s e s' I hq
 | ok fl=>
  cases fl with
  | ret u=>exact I.after hq
  | next=>exact False.elim hq
  | brk=>exact False.elim hq
  | cont=>exact False.elim hq
def zk (F:FnOk X.prog X.w X.K X.mg X.base CX k f fd ps sp) (hr:Room k X.A) (hg:Gl X x) (hm:X.mg x=some (.ref f)) (hk:PySem.W.keepIn X.K (.ref f)=true) (hb:Binds X.K fd ps ds) (hd:Vals dA ds) (hx:Passes CX X E)
  (ha:PA X (e::es) t) (dy:(x == ("__debug__":Str))=false:=by decide) (he:starEach (e::es) X.env=(false,eval e X.env)::starEach es X.env:=by rfl) (hpl:(backTo pos (starEach es X.env)).any (·.1)=false:=by rfl) :
  PE X (.Call (.Name x p) (e::es) [] pos) (zg6 sp dA E t):=by
 intro aa s σ H Q I h;refine wpAny_Call_Name_kw (zbY I hg hm ?_ dy);refine PySem.W.callWith_K (h₀:=X.base) I.ok.mod.kin hk (thn (ha pos aa s σ H _ I h) fun us s1 ⟨vs,H1,I1,r,q⟩=>⟨I1.kIn,?_⟩) he hpl;exact znf F hr hb hd hx I1 r q
structure Mk (K:Ad) (C f:Addr):Prop where
 makes:PySem.W.makesIn K C=true
 init:PySem.W.findIn K (.ref C) "__init__"=some (some (.ref f))
 fn:PySem.W.isFn K (.ref f)=true
 kp:PySem.W.keepIn K (.ref C)=true
end
section
variable {X:Cx}{CX:CXT}{k:Nat}{f C:Addr}{fd:FuncData}{ps ks:List Str}{sp:Sp}{E:XK}{x m:Str}{p pos aI jw:Pos}{e o:Expr}{es:List Expr}{xN:List Keyword}{te ta:TE}{t tk:TA}{nm:Option Str}
variable {g:List Value->List Value->List Value}{gV:List V->List V->List V}
end
structure zi (N P:List Str) (sc:Scope):Prop where
 kind:sc.kind=.function
 co:sc.isCoroutine=false
 gen:sc.isGenerator=false
 nd:N.Nodup
 pre:N.take P.length=P
 par:∀x∈P,sc.names.lookup x=some .local \/ sc.names.lookup x=some .cell
 nofree:∀y∈sc.names,y.2≠.free
def zdw {kindOf:Str->Option NameKind}{x:Str}:∀{binds:List (Str×Value)}{m:Str->Option Value},(∀v,(x,v)∉binds)->bindL kindOf binds m x=m x
 | [],_,_=>rfl
 | (n,v)::r,m,h=>by
  unfold bindL;rw[zdw fun w hw=>h w (Aw _ hw)];split
  ·have:x≠n:=by rintro rfl; exact h v Au
   simp[this]
  ·rfl
def zd5 {kindOf:Str->Option NameKind}{x:Str}:∀{binds:List (Str×Value)}{m:Str->Option Value},(∀v,(x,v)∉binds)->bindC kindOf binds m x=m x
 | [],_,_=>rfl
 | (n,v)::r,m,h=>by
  unfold bindC;rw[zd5 fun w hw=>h w (Aw _ hw)];split
  ·rfl
  ·have:x≠n:=by rintro rfl; exact h v Au
   simp[this]
def zdH {kindOf:Str->Option NameKind}{x:Str}{v:Value}:∀{P:List Str}{vs:List Value}{i:Nat}{m:Str->Option Value},P.Nodup->P[i]?=some x->vs[i]?=some v->kindOf x=some .local->
  bindL kindOf (P.zip vs) m x=some v
 | [],_,_,_,_,h,_,_=>by simp at h
 | _::_,[],_,_,_,_,h,_=>by simp at h
 | p::P,w::vs,0,m,nd,h1,h2,hk=>by
  simp at h1 h2; subst h1; subst h2;show bindL kindOf ((p,w)::P.zip vs) m p=_;unfold bindL;rw[zdw fun v hv=>(List.nodup_cons.mp nd).1 (List.of_mem_zip hv).1,if_pos hk];simp
 | p::P,w::vs,i+1,m,nd,h1,h2,hk=>by
  show bindL kindOf ((p,w)::P.zip vs) m x=_;unfold bindL;exact zdH (i:=i) (List.nodup_cons.mp nd).2 (by simpa using h1) (by simpa using h2) hk
def zdT {kindOf:Str->Option NameKind}{x:Str}{v:Value}:∀{P:List Str}{vs:List Value}{i:Nat}{m:Str->Option Value},P.Nodup->P[i]?=some x->vs[i]?=some v->kindOf x≠some .local->
  bindC kindOf (P.zip vs) m x=some v
 | [],_,_,_,_,h,_,_=>by simp at h
 | _::_,[],_,_,_,_,h,_=>by simp at h
 | p::P,w::vs,0,m,nd,h1,h2,hk=>by
  simp at h1 h2; subst h1; subst h2;show bindC kindOf ((p,w)::P.zip vs) m p=_;unfold bindC;rw[zd5 fun v hv=>(List.nodup_cons.mp nd).1 (List.of_mem_zip hv).1,if_neg hk];simp
 | p::P,w::vs,i+1,m,nd,h1,h2,hk=>by
  show bindC kindOf ((p,w)::P.zip vs) m x=_;unfold bindC;exact zdT (i:=i) (List.nodup_cons.mp nd).2 (by simpa using h1) (by simpa using h2) hk
def start (N:List Str) (vs:List V):St:=vs.map some++List.replicate (N.length - vs.length) none
def cxOf (CX:CXT) (P:Program) (w:World) (K:Ad) (mg:Str->Option Value) (base:Heap) (N:List Str) (al:Str) (scope:Scope) (f:Addr) (cd:Value) (A:Around) (outer:List Env) (s:Shared) (H:Hp) (E:XK):Cx where
 prog:=P
 w:=w
 K:=K
 mg:=mg
 base:=base
 A:=A.deeper (envOfC al scope s.heap.objs.size f cd)
 N:=N
 s₀:=s
 H₀:=H
 env:=envOfC al scope s.heap.objs.size f cd
 outer:=outer
 stack:=envOfC al scope s.heap.objs.size f cd::outer
 ex:=[]
 calm:=true
 fn:=fun _=>true
 pn:=[]
 xe:=fun e s'=>wpAny (model P w) (A.deeper (envOfC al scope s.heap.objs.size f cd)) (leaving (envOfC al scope s.heap.objs.size f cd) e) (fun _ dF=>CX outer H s E e dF) (fun e' dF=>CX outer H s E e' dF) s'
def zfw {sc:Scope}{n:Nat}{x:Str} (h:sc.names.lookup x=some .cell):∃c,(cellsFrom n sc.names []).lookup x=some c:=by
 have q:=PySem.W.cellsFrom_some sc.names n [] (.inl h);exact Option.isSome_iff_exists.mp q
def zdK {CX:CXT}{P:Program}{w:World}{K:Ad}{mg:Str->Option Value}{base:Heap}{N ps:List Str}{al:Str}{scope:Scope}{f:Addr}{cd:Value}{A:Around}{outer:List Env}{s s1:Shared}{H:Hp}{E:XK}{us:List Value}{vs:List V}
  (S:zi N ps scope) (hd:A.handled=none) (e0:Env0 P w K mg base A outer s H) (hl:vs.length=ps.length) (r:Vals vs us)
  (x:InCallC s s.heap.objs.size (bindL (envOfC al scope s.heap.objs.size f cd).kindOf (ps.zip us) fun _=>none) (cellsFrom (s.heap.objs.size+1) scope.names []) (bindC (envOfC al scope s.heap.objs.size f cd).kindOf (ps.zip us) fun _=>none) s1) :
  Inv (cxOf CX P w K mg base N al scope f cd A outer s H E) [] (start N vs) H s1:=by
 have hpl:ps.length<=N.length:=by have:=congrArg List.length S.pre; rw[AJ] at this; omega
 obtain⟨h1,tk,rfl,hk⟩:=x.done;have jG:∀b:Addr,b∉(cxOf CX P w K mg base N al scope f cd A outer s H E).ex:=fun b z=>absurd (show b∈([]:List Addr) from z) (by simp);refine⟨⟨e0.mod,S.kind,rfl,rfl,Af _,fun y z c h1 h2=>?_,fun y hy=>?_,fun y c _ h=>?_,fun _=>hd,Around.frames_deeper e0.frames,.inr ⟨rfl,rfl⟩,fun b z=>absurd z (jG b),e0.bs,e0.bsz,fun b _ _=>jG b,fun b z=>absurd z (jG b),e0.funs,e0.frf⟩,
  rfl,e0.bare,Un.kept hk,⟨_,x.toInCall.ns,fun i y v h1 h2 h3=>?_⟩,fun y c h=>⟨_,x.cell y c h⟩,e0.hok.fresh (Af _),fun y c h=>?_,fun p hp=>absurd (show p∈([]:List (Addr×Obj)) from hp) (by simp),e0.hok.kept hk,?_⟩
 ·exact name_of_addr x.apart (PySem.mem_of_lookup h1) (PySem.mem_of_lookup h2)
 ·have hy:scope.names.lookup y=some .cell \/ scope.names.lookup y=some .free:=hy
  rcases hy with hy | hy
  ·exact zfw hy
  ·exact absurd rfl (S.nofree _ (PySem.mem_of_lookup hy))
 ·exact Nat.le_of_lt (x.above y c (PySem.mem_of_lookup h))
 ·have hi:i<vs.length:=by
   unfold start at h2
   by_cases hi:i<vs.length
   ·exact hi
   ·rw[List.getElem?_append_right (by simpa using hi)] at h2
    rw[List.getElem?_replicate] at h2;split at h2 <;> cases h2
  have ha:vs[i]?=some v:=by
   unfold start at h2;rw[List.getElem?_append_left (by simpa using hi),Am] at h2;cases e:vs[i]? with
   | none=>rw[e] at h2; cases h2
   | some a=>rw[e] at h2; cases h2; rfl
  obtain⟨u,hu,rv⟩:=r.get ha;have hp:ps[i]?=some y:=by
   rw[<- S.pre,List.getElem?_take_of_lt (by omega)]; exact h1
  have ndP:ps.Nodup:=by rw[<- S.pre]; exact S.nd.sublist (List.take_sublist _ _)
  refine⟨u,rv,?_⟩;rcases S.par y (At hp) with k | k
  ·exact .inl ⟨k,zdH ndP hp hu k⟩
  ·obtain⟨c,e⟩:=zfw (n:=s.heap.objs.size+1) k
   refine .inr ⟨.inl k,c,e,?_⟩;have q:=x.cell y c e;rw[zdT ndP hp hu (by show scope.names.lookup y≠_; rw[k]; decide)] at q;exact q
 ·exact e0.hok.fresh (Nat.le_of_lt (x.above y c (PySem.mem_of_lookup h)))
 ·unfold start
  show _=N.length;rw[Aq,Ab,List.length_replicate];omega
def zmc {CX:CXT}{P:Program}{w:World}{K:Ad}{mg:Str->Option Value}{base:Heap}{k:Nat}{f:Addr}{name al:Str}{be:Arguments}{body:List Stmt}{scope:Scope}{dV kV bc pm cdv ct oc:Value}{an od:Option Addr}
  {dl:Array (Option Value)} {N ps:List Str} {sp:Sp} (lk:K.lookup f=some ⟨oc,od,.func (PySem.W.fnOf name al be body scope dV kV bc pm an cdv ct),dl⟩) (bJ:PySem.W.codeIn K cdv al=true) (S:zi N ps scope)
  (len:∀vs H Q E,sp vs H Q E->vs.length=ps.length)
  (a9:∀(A:Around) (outer:List Env) (s:Shared) (H:Hp) (vs:List V) (Q:VK) (E:XK),Room k (A.deeper (envOfC al scope s.heap.objs.size f cdv))->sp vs H Q E->
   ∃t,PSs (cxOf CX P w K mg base N al scope f cdv A outer s H E) body t/\t { nx:=fun _ H'=>Q .non H',rt:=Q } (start N vs) H) :
  FnOk P w K mg base CX (k+1) f (PySem.W.fnOf name al be body scope dV kV bc pm an cdv ct) ps sp:=by
 refine⟨len,fun A outer s H args us vs Q E hr e0 hb r cY=>?_⟩;have hl:=len _ _ _ _ cY;have KX:K.In s.heap:=e0.mod.kin.keeps fun b o e=>(e0.bs b o e).1;have lu:s.heap.NoLimit:=e0.mod.nolimit.keeps fun b o e=>(e0.bs b o e).1;have dX:∀y∈ps.zip us,scope.names.lookup y.1=some .local \/ (scope.names.lookup y.1=some .cell/\((cellsFrom (s.heap.objs.size+1) scope.names []).lookup y.1).isSome=true):=fun ⟨n,v⟩ hy=>by
  rcases S.par n (List.of_mem_zip hy).1 with q | q
  ·exact .inl q
  ·exact .inr ⟨q,PySem.W.cellsFrom_some _ _ _ (.inl q)⟩
 refine codeAny_call_function hr.depth (KX _ _ lk) rfl S.co S.gen rfl (PySem.W.codeRec_of KX bJ) (hb _ _ _ _ ?_);refine wpAny_newFunctionEnv_cells S.kind dX fun env he s1 x=>?_;subst he;refine⟨lu.keeps x.toInCall.keep,codeAny_func ?_⟩;obtain⟨t,ht,hq⟩:=a9 A outer s H vs Q E (hr.deeper _) cY;have I:Inv (cxOf CX P w K mg base N al scope f cdv A outer s H E) [] (start N vs) H s1:=zdK S hr.hd e0 hl r x;refine wpAny_mono (ht [] s1 (start N vs) H _ I hq) (fun fl s' hs=>?_) fun e s' hs=>hs;have fin:∀{ao:St} {H':Hp} {v:V} {u:Value},Inv (cxOf CX P w K mg base N al scope f cdv A outer s H E) [] ao H' s'->RelV v u->Q v H'->CE outer P w H s Q u s':=
  fun {ao H' v u} J rv q=>⟨v,H',J.os,J.bare,J.base,J.hok,rv,q⟩
 cases fl with
 | ret u=>
  obtain⟨v,ao,H',J,rv,q⟩:=hs;exact fin J rv q
 | next=>
  obtain⟨ao,H',J,q⟩:=hs;exact fin (v:=V.non) (u:=Value.none) J rfl q
 | brk=>
  obtain⟨_,_,_,q⟩:=hs;exact False.elim q
 | cont=>
  obtain⟨_,_,_,q⟩:=hs;exact False.elim q
end L2
namespace L2
open PySem PySem.Spec PyProof.Rows
section
variable {X:Cx}{x:Str}{p pos:Pos}{e:Expr}{es:List Expr}{t:TA}{id T:String}{r:List V->Hp->VK->Prop}
def tCB (r:List V->Hp->VK->Prop) (t:TA):TE:=fun σ H Q=>t σ H fun vs H1=>r vs H1 Q
def zq (hc:zX X (.builtin id) r) (hg:Gl X x) (hm:X.mg x=none) (hv:AW x=some (.builtin id)) (ha:PA X (e::es) t) (hn:x≠"__name__":=by decide) (dy:(x == ("__debug__":Str))=false:=by decide)
  (he:starEach (e::es) X.env=(false,eval e X.env)::starEach es X.env:=by rfl) (hpl:(backTo pos (starEach es X.env)).any (·.1)=false:=by rfl):PE X (.Call (.Name x p) (e::es) [] pos) (tCB r t):=by
 intro aa s σ H Q I h;refine wpAny_Call_Name_kw (zcb I hg hm hv ?_ hn dy);exact PyProof.Rows.callWith_builtin1 (thn (ha pos aa s σ H _ I h) fun us s1 ⟨vs,H1,I1,r1,q1⟩=>hc aa s1 σ H1 vs us Q I1 r1 q1) he hpl
def zj (hc:zX X (.type T) r) (hg:Gl X x) (hm:X.mg x=none) (hv:AW x=some (.type T)) (ha:PA X (e::es) t) (hn:x≠"__name__":=by decide) (dy:(x == ("__debug__":Str))=false:=by decide)
  (he:starEach (e::es) X.env=(false,eval e X.env)::starEach es X.env:=by rfl) (hpl:(backTo pos (starEach es X.env)).any (·.1)=false:=by rfl):PE X (.Call (.Name x p) (e::es) [] pos) (tCB r t):=by
 intro aa s σ H Q I h;refine wpAny_Call_Name_kw (zcb I hg hm hv ?_ hn dy);exact PyProof.Rows.callWith_type1 (thn (ha pos aa s σ H _ I h) fun us s1 ⟨vs,H1,I1,r1,q1⟩=>hc aa s1 σ H1 vs us Q I1 r1 q1) he hpl
end
end L2
namespace HT
open PySem PyProof.Rows
def lexLt:List Int->List Int->Bool
 | [],[]=>false
 | [],_::_=>true
 | _::_,[]=>false
 | x::xs,y::ys=>if x=y then lexLt xs ys else decide (x<y)
def zK (x y:Int) (xs ys:List Int):lexLt (x::xs) (y::ys)=if x=y then lexLt xs ys else decide (x<y):=rfl
def zbm:lexLt [] []=false:=rfl
def zO (y:Int) (ys:List Int):lexLt [] (y::ys)=true:=rfl
def zaZ (x:Int) (xs:List Int):lexLt (x::xs) []=false:=rfl
def zkb (A:Around) (s:Shared) (a:Int) (t:Tok) (c:Int) (u:Tok):∃e,SeqAt.EqAt A s (.int a t) (.int c u) e/\(e=true ↔ a=c):=
 ⟨(a == c),SeqAt.EqAt.int_int a t c u,by simp⟩
def zjn (A:Around) (s:Shared) (a:Int) (t:Tok) (c:Int) (u:Tok) (prog:Program) (w:World) (E:Value->Shared->Prop) (Q:Value->Shared->Prop) (h:Q (.bool (decide (a<c))) s) :
  wpAny (model prog w) A (richCompare .Lt (.int a t) (.int c u)) Q E s:=
 (PyProof.Rows.lt_int h:wpAny (model prog w) A (compareOp .Lt (.int a t) (.int c u)) Q E s)
section
open PySem.SeqAt
open PySem.AutoSeq1 (wpAny_loadPart')
open PySem.MeetsSeq PySem.MeetsSeq2 PySem.MeetsSeq3
def zdg (l b:Addr) (af aC:Array Value) (n n2:Nat) (dd gj:Option Addr) (sl gc:Array (Option Value)) (ns ms:List Int) (hi:IntsAre af.toList ns) (hj:IntsAre aC.toList ms) :
  Meets (Builtin.«tuple.__lt__» ⟨[.ref l,.ref b],[]⟩)
   (fun _ R s=>s.heap.get? l=some { cls:=.type "tuple",dict:=dd,data:=.seq af n,slots:=sl }/\s.heap.get? b=some { cls:=.type "tuple",dict:=gj,data:=.seq aC n2,slots:=gc }/\
    R (.ok (.ret (.bool (lexLt ns ms)))) s):=
 .of_wp fun prog w A R s h=>by
  obtain⟨hp,g,d,tk,os⟩:=s; obtain⟨hl,hb,h⟩:=h;have f2:=AutoSeq1.sub_tuple_tuple;have z1:af.size=ns.length:=by rw[<- hi.length]; simp
  have z2:aC.size=ms.length:=by rw[<- hj.length]; simp
  wp_walk using wpAny_loadPart' hl,wpAny_loadPart' hb,wpAny_forIn_list _ (fun rest b s'=>b.1=none/\s'=⟨hp,g,d,tk,os⟩/\∃(vs ws:List Value) (ik io:List Int),rest=vs.zip ws/\
   IntsAre vs ik/\IntsAre ws io/\ik.length+aC.size=io.length+af.size/\R (.ok (.ret (.bool (lexLt ik io)))) ⟨hp,g,d,tk,os⟩) _
  case turn=>
   rintro⟨y,x⟩ rest b s' ⟨hb',rfl,vs,ws,ik,io,hz,lF,kO,hlen,hR⟩;cases lF with
   | nil=>rw[List.zip_nil_left] at hz; cases hz
   | cons a t hvi'=>
    cases kO with
    | nil=>rw[List.zip_nil_right] at hz; cases hz
    | cons c u hwi'=>
     rw[List.zip_cons_cons] at hz;injection hz with hyx eL
     injection hyx with hy hx
     subst hy hx;rw[zK] at hR;simp only[Ap] at hlen;obtain⟨e,he,iW⟩:=zkb A.in1 ⟨hp,g,d,tk,os⟩ a t c u;refine Aa (he prog w _ _ ?_);cases e with
     | true=>
      rw[if_pos (iW.mp rfl)] at hR
      wp_walk
      exact⟨rfl,rfl,_,_,_,_,eL,hvi',hwi',by omega,hR⟩
     | false=>
      rw[if_neg (fun q=>absurd (iW.mpr q) Ao)] at hR;have su:=zjn A.in1 ⟨hp,g,d,tk,os⟩ a t c u prog w
      wp_walk using su
      exact⟨_,rfl,by simpa using hR⟩
  case fin=>
   rintro⟨b1,b2⟩ s' ⟨hb',rfl,vs,ws,ik,io,hz,lF,kO,hlen,hR⟩;simp only at hb';subst hb';have hv:lexLt ik io=decide (af.size<aC.size):=by
    cases lF with
    | nil=>
     cases kO with
     | nil=>
      simp only[List.length_nil] at hlen;rw[zbm];exact (decide_eq_false (by omega)).symm
     | cons c u hw=>
      simp only[List.length_nil,Ap] at hlen;rw[zO];exact (decide_eq_true (by omega)).symm
    | cons a t hv=>
     cases kO with
     | nil=>
      simp only[List.length_nil,Ap] at hlen;rw[zaZ];exact (decide_eq_false (by omega)).symm
     | cons c u hw=>
      rw[List.zip_cons_cons] at hz;cases hz
   rw[hv] at hR
   wp_walk
   exact⟨_,rfl,by simpa[Builtin.Tuple.tupleCompareSizes] using hR⟩
  case h=>
   exact⟨rfl,rfl,af.toList,aC.toList,ns,ms,rfl,hi,hj,by omega,h⟩
end
section
variable {prog:Program}{w:World}{A:Around}{E:Value->Shared->Prop}{s:Shared}
def zf3 {l b:Addr}{af aC:Array Value}{ns ms:List Int}{Q:Value->Shared->Prop} (hl:IsTup s.heap l af) (hb:IsTup s.heap b aC) (hi:IntsAre af.toList ns) (hj:IntsAre aC.toList ms)
  (hu:A.units<cLine) (h:Q (.bool (lexLt ns ms)) s):wpAny (model prog w) A (compareOp .Lt (.ref l) (.ref b)) Q E s:=by
 obtain⟨⟨cls,dd,data,sl⟩,ho,hc,n,hd⟩:=id hl;obtain⟨⟨jz,gj,data2,gc⟩,dw,cH,n2,ax⟩:=id hb;simp only at hc hd cH ax;subst hc hd cH ax;exact richCompare_meets_room (op:=.Lt) ⟨_,ho,rfl⟩ ⟨_,dw,rfl⟩ PySem.F.slot_tuple_lt PySem.F.entry_tuple_lt (PySem.F.args_tuple_lt_2 _ _) (zdg l b af aC n n2 dd gj sl gc ns ms hi hj)
  ⟨ho,dw,show Value.bool (lexLt ns ms)≠Value.notImplemented/\Q (.bool (lexLt ns ms)) s from ⟨(fun x=>nomatch x),h⟩⟩ hu
def zlw {t b:Addr}{vs ws:List Value}{Q:Value->Shared->Prop} (ht:IsTup s.heap t vs.toArray) (hb:IsTup s.heap b ws.toArray) (hv:vs≠[])
  (h1:ws=[]->Q (.ref t) s) (h2:ws≠[]->Q (.ref s.heap.objs.size) { s with heap:=s.heap.push { cls:=.type "tuple",data:=.seq (vs++ws).toArray } })
  (hsz:vs.length+ws.length<=sizeLine):wpAny (model prog w) A (binaryOp .Add (.ref t) (.ref b)) Q E s:=by
 obtain⟨⟨cls,dd,data,sl⟩,ho,hc,n,hd⟩:=id ht;obtain⟨⟨jz,gj,data2,gc⟩,dw,cH,n2,ax⟩:=id hb;simp only at hc hd cH ax;subst hc hd cH ax;have e:vs.toArray++ws.toArray=(vs++ws).toArray:=by simp
 by_cases hw:ws=[]
 ·exact concat_meets ⟨_,ho,rfl⟩ ⟨_,dw,rfl⟩ noFill_tuple_add seq_tuple_add PySem.F.slot_tuple_add PySem.F.entry_tuple_add (PySem.F.args_tuple_add_2 _ _)
   (tuple_addW1 t b vs.toArray ws.toArray n n2 dd gj sl gc (by simpa using hv) (by simp[hw])) ⟨ho,dw,h1 hw⟩
 ·refine concat_meets ⟨_,ho,rfl⟩ ⟨_,dw,rfl⟩ noFill_tuple_add seq_tuple_add PySem.F.slot_tuple_add PySem.F.entry_tuple_add (PySem.F.args_tuple_add_2 _ _)
   (tuple_addW2 t b vs.toArray ws.toArray n n2 dd gj sl gc (by simpa using hv) (by simpa using hw) (by rw[Ag,Ag]; exact hsz)) ⟨ho,dw,?_⟩
  rw[e];exact h2 hw
def sIx (n d:Nat):Option Int->Nat
 | none=>d
 | some v=>if v<0 then (v+(n:Int)).toNat else min v.toNat n
def zbX (n d:Nat):sIx n d none=d:=rfl
def zb1 (n d k:Nat):sIx n d (some (k:Int))=min k n:=by
 show (if (k:Int)<0 then ((k:Int)+(n:Int)).toNat else min (k:Int).toNat n)=min k n;rw[if_neg (by omega),Int.toNat_natCast]
def znA (n d:Nat) (hd:d<=n) (o:Option Int):sIx n d o<=n:=by
 cases o with
 | none=>exact hd
 | some v=>
  show (if v<0 then (v+(n:Int)).toNat else min v.toNat n)<=n
  by_cases hv:v<0
  ·rw[if_pos hv]; omega
  ·rw[if_neg hv]; exact Nat.min_le_right _ _
def ziy (v:Int) (n d:Nat):(if v<0 then max (v+(n:Int)) 0 else min v (n:Int))=((sIx n d (some v):Nat):Int):=by
 show (if v<0 then max (v+(n:Int)) 0 else min v (n:Int))=(((if v<0 then (v+(n:Int)).toNat else min v.toNat n):Nat):Int)
 by_cases hv:v<0
 ·simp only[if_pos hv]; omega
 ·simp only[if_neg hv]; omega
def zgo (lo hi:Option Int) (n:Nat):Builtin.Slice.sliceAdjust lo hi 1 (n:Int)=(((sIx n 0 lo:Nat):Int),((sIx n n hi:Nat):Int)):=by
 have h1:¬ ((1:Int)<0):=by omega
 unfold Builtin.Slice.sliceAdjust;simp only[h1,if_false];refine Prod.ext ?_ ?_
 ·cases lo with
  | none=>rfl
  | some v=>exact ziy v n 0
 ·cases hi with
  | none=>rfl
  | some v=>exact ziy v n n
def zf6 (i j:Nat):Builtin.Slice.slicePlaces (i:Int) (j:Int) 1=j - i:=by
 unfold Builtin.Slice.slicePlaces;have h1:(1:Int) > 0:=by omega
 simp only[h1,if_true,Int.ediv_one];split <;> omega
def zcD {v:Value}{o:Option Int}{Q:Option Int->Shared->Prop} (p:IsPart v o) (h:Q o s):wpAny (model prog w) A (Builtin.Slice.slicePartIndex v) Q E s:=by
 cases p with
 | none=>exact slicePart_none h
 | int i t=>exact slicePart_int h
def zay {sl:Addr}{vl vu:Value}{lo hi:Option Int}{n:Nat}{Q:Int×Int×Nat->Shared->Prop} (hs:s.heap.IsSliceOf sl vl vu .none) (pl:IsPart vl lo) (pu:IsPart vu hi)
  (h:Q (((sIx n 0 lo:Nat):Int),1,sIx n n hi - sIx n 0 lo) s):wpAny (model prog w) A (Builtin.Slice.sliceApplied (.ref sl) (pure (n:Int))) Q E s:=by
 obtain⟨os,gH,eY,dq⟩:=id hs;unfold Builtin.Slice.sliceApplied Builtin.Slice.sliceFields;refine Aa (Aa (AN gH dq (x:=vl) rfl (Aa (AN gH dq (x:=vu) rfl (Aa (AN gH dq (x:=.none) rfl (Ac ?_)))))));refine Aa (slicePart_none ?_);show wpAny _ _ (if ((1:Int) == 0)=true then _ else _) _ _ s;rw[if_neg (by decide)];refine Aa (zcD pl (Aa (zcD pu (Aa (Ac ?_)))));show wpAny _ _ (match Builtin.Slice.sliceAdjust lo hi 1 (n:Int) with | (lo,hi)=>pure (lo,(1:Int),Builtin.Slice.slicePlaces lo hi 1)) _ _ s;rw[zgo lo hi n];show wpAny _ _ (pure (((sIx n 0 lo:Nat):Int),(1:Int),Builtin.Slice.slicePlaces ((sIx n 0 lo:Nat):Int) ((sIx n n hi:Nat):Int) 1)) _ _ s;rw[zf6];exact Ac h
def zjo (xs:Array Value) (i k:Nat):((A6 k).filterMap fun (m:Nat)=>xs[((i:Int)+(m:Int)*1).toNat]?).toArray=((xs.toList.drop i).take k).toArray:=by
 have e:(fun (m:Nat)=>xs[((i:Int)+(m:Int)*1).toNat]?)=fun m=>xs[i+m]?:=by
  funext m
  have:((i:Int)+(m:Int)*1).toNat=i+m:=by omega
  rw[this]
 rw[e];have:=pick_run xs i k;rw[List.filterMap_map] at this;have e2:((fun x=>xs[x]?) ∘ fun x=>i+x)=fun m=>xs[i+m]?:=rfl;rw[e2] at this;rw[this]
def zbs {t sl:Addr}{af:Array Value}{vl vu:Value}{lo hi:Option Int}{Q:Value->Shared->Prop} (ht:IsTup s.heap t af) (hs:s.heap.IsSliceOf sl vl vu .none) (pl:IsPart vl lo) (pu:IsPart vu hi)
  (hw:¬ (sIx af.size 0 lo=0/\sIx af.size af.size hi=af.size))
  (h:Q (.ref s.heap.objs.size) { s with heap:=s.heap.push { cls:=.type "tuple",data:=.seq ((af.toList.drop (sIx af.size 0 lo)).take (sIx af.size af.size hi - sIx af.size 0 lo)).toArray } })
  (hsz:af.size<=sizeLine):wpAny (model prog w) A (getItem (.ref t) (.ref sl)) Q E s:=by
 have htake:sizeOk (.seq ((af.toList.drop (sIx af.size 0 lo)).take (sIx af.size af.size hi - sIx af.size 0 lo)).toArray):=by
  show ((af.toList.drop (sIx af.size 0 lo)).take (sIx af.size af.size hi - sIx af.size 0 lo)).toArray.size<=sizeLine;rw[Ag,AJ,List.length_drop,AS];omega
 have hj:sIx af.size af.size hi<=af.size:=znA _ _ (Af _) hi;obtain⟨os,gH,eY,dq⟩:=id hs;have nX:s.TypeIs (.ref sl) "slice":=⟨os,gH,eY⟩;unfold getItem
 try with_reducible refine AM ?_
 first | refine Aa (Ac ?_) | skip
 refine Aa (wpAny_sequenceKey ht.typeIs (by decide) ?_);refine Aa (AO (name:=A3 "__getitem__") ht.typeIs PyProof.Rows.slot_tuple_getitem
  (AV PyProof.Rows.slot_tuple_getitem ht.typeIs entry_tuple_getitem ?_ (args_tuple_getitem _ _)))
 show wpAny _ _ (Builtin.Tuple.tupleItemsOf (.ref t) >>= _) _ _ s;refine Aa (tupleItemsOf_ ht ?_);refine Aa (wpAny_typeOf nX ?_);rw[if_pos (by decide)];refine Aa (zay hs pl pu ?_);have hno:¬ ((((sIx af.size 0 lo:Nat):Int) == 0 && (1:Int) == 1 && (sIx af.size af.size hi - sIx af.size 0 lo) == af.size)=true):=by
  intro q;rw[AF,AF] at q;have q1:((sIx af.size 0 lo:Nat):Int)=0:=eq_of_beq q.1.1;have q2:sIx af.size af.size hi - sIx af.size 0 lo=af.size:=eq_of_beq q.2;exact hw ⟨by omega,by omega⟩
 show wpAny _ _ (if (((sIx af.size 0 lo:Nat):Int) == 0 && (1:Int) == 1 && (sIx af.size af.size hi - sIx af.size 0 lo) == af.size)=true then _ else _) _ _ s;rw[if_neg hno,zjo]
 first
  | exact Aa (m:=Builtin.Tuple.tupleExact _) (AI (Ac ⟨_,rfl,Ac h⟩) htake)
  | exact Aa (m:=Builtin.Tuple.tupleExact _) (AI (Aa (Ac (Ac ⟨_,rfl,Ac h⟩))) htake)
  | exact Aa (Aa (m:=Builtin.Tuple.tupleExact _) (AI (Ac (Ac ⟨_,rfl,Ac h⟩)) htake))
  | exact Aa (Aa (m:=Builtin.Tuple.tupleExact _) (AI (Ac ⟨_,rfl,Ac h⟩) htake))
end
end HT
namespace L2
open PySem PySem.Spec PyProof.Rows
abbrev TO:=St->Hp->(Option Int->Hp->Prop)->Prop
def PO (X:Cx) (e:Option Expr) (t:TO):Prop:=
 ∀(aa:List (Addr×Obj)) (s:Shared) (σ:St) (H:Hp) (Q:Option Int->Hp->Prop),Inv X aa σ H s->t σ H Q->
  wpAny (model X.prog X.w) X.A (evalPart e X.env) (fun u s'=>∃o H',Inv X aa σ H' s'/\IsPart u o/\Q o H') X.xe s
def zeu:TO:=fun _ H Q=>Q none H
def zkW (t:TE):TO:=fun σ H Q=>t σ H fun x H1=>∃i,x=.int i/\Q (some i) H1
def intsAre_of {ns:List Int}:∀{us:List Value},Vals (ns.map V.int) us->IntsAre us ns:=by
 induction ns with
 | nil=>intro us r; rw[List.map_nil] at r; cases r; exact .nil
 | cons n ns ih=>
  intro us r;rw[AH] at r;cases r with
  | cons r1 r2=>
   obtain⟨t,e⟩:=r1;subst e;exact .cons n t (ih r2)
section
variable {X:Cx}{e:Expr}{te:TE}{lo hi:Option Expr}{tl th:TO}{pos p2:Pos}
def zcU:PO X none zeu:=by
 intro aa s σ H Q I h;rw[evalPart_none];exact Ac ⟨none,H,I,.none,h⟩
def zcZ (h:PE X e te):PO X (some e) (zkW te):=by
 intro aa s σ H Q I hw;rw[evalPart_some];refine thn (h aa s σ H _ I hw) fun u s1 ⟨x,H1,I1,r1,q1⟩=>?_;obtain⟨i,rfl,q⟩:=q1;obtain⟨t,rfl⟩:=r1;exact⟨some i,H1,I1,.int i t,q⟩
def SlR (X:Cx) (r:V->Option Int->Option Int->Hp->VK->Prop):Prop:=
 ∀(aa:List (Addr×Obj)) (s:Shared) (σ:St) (H:Hp) (x:V) (v vl vu:Value) (lo hi:Option Int) (sl:Addr) (Q:VK),Inv X aa σ H s->RelV x v->s.heap.IsSliceOf sl vl vu .none->IsPart vl lo->IsPart vu hi->r x lo hi H Q->
  ∃T id,typeLookup (.type T) "__getitem__"=pure (some (.builtin id))/\s.TypeIs v T/\wpAny (model X.prog X.w) X.A (getItem v (.ref sl)) (EP X aa σ Q) X.xe s
def tSl (r:V->Option Int->Option Int->Hp->VK->Prop) (te:TE) (tl th:TO):TE:=fun σ H Q=>te σ H fun x H1=>tl σ H1 fun l H2=>th σ H2 fun u H3=>r x l u H3 Q
def zbP {r:V->Option Int->Option Int->Hp->VK->Prop} (hr:SlR X r) (he:PE X e te) (hl:PO X lo tl) (hu:PO X hi th):PE X (.Subscript e (.Slice lo hi none p2) pos) (tSl r te tl th):=by
 intro aa s σ H Q I h;refine Subscript_ (thn (he aa s σ H _ I h) fun v s1 ⟨x,H1,I1,r1,q1⟩=>?_);refine wpAny_Slice (thn (hl aa s1 σ H1 _ I1 q1) fun vl s2 ⟨l,H2,I2,pl,q2⟩=>thn (hu aa s2 σ H2 _ I2 q2) fun vu s3 ⟨u,H3,I3,pu,q3⟩=>?_);rw[evalPart_none];refine Ac ?_;have I4:Inv X aa σ H3 { s3 with heap:=s3.heap.push { cls:=.type "slice",data:=.fields #[vl,vu,.none] } }:=I3.kept (t':=s3.toks) fun b ob q=>Ae _ q;obtain⟨T,id,hT,ht,hg⟩:=hr aa { s3 with heap:=s3.heap.push { cls:=.type "slice",data:=.fields #[vl,vu,.none] } } σ H3 x v vl vu l u s3.heap.objs.size Q I4 r1 (Heap.IsSliceOf.new ..) pl pu q3;show wpAny (model X.prog X.w) X.A (subscriptTail e (.Slice lo hi none p2) v (.ref s3.heap.objs.size)) (EP X aa σ Q) X.xe { s3 with heap:=s3.heap.push { cls:=.type "slice",data:=.fields #[vl,vu,.none] } };exact tail_any (ops:=[.ref s3.heap.objs.size,v]) ht hT hg (by with_unfolding_all rfl)
def cutV (xs:List V) (lo hi:Option Int):List V:=(xs.drop (HT.sIx xs.length 0 lo)).take (HT.sIx xs.length xs.length hi - HT.sIx xs.length 0 lo)
def zcj (xs:List V) (lo hi:Option Int):(cutV xs lo hi).length<=xs.length:=by
 unfold cutV;rw[AJ,List.length_drop];omega
def rSlT (K:Ad):V->Option Int->Option Int->Hp->VK->Prop:=fun x lo hi H Q=>∃a xs,x=.ref a/\SqT K H a xs/\
 ¬ (HT.sIx xs.length 0 lo=0/\HT.sIx xs.length xs.length hi=xs.length)/\∀p,H p=none->Q (.ref p) (upd H p (.tup (cutV xs lo hi)))
def zkj:SlR X (rSlT X.K):=by
 intro aa s σ H x v vl vu lo hi sl Q I rx hs pl pu h;obtain⟨a,xs,rfl,hx,hw,q⟩:=h;cases rx;obtain⟨ah,r,ht,hz⟩:=I.tuple hx;have hlen:ah.toArray.size=xs.length:=by rw[Ag]; exact r.length.symm
 refine⟨"tuple",_,PyProof.Rows.slot_tuple_getitem.lookup,ht.typeIs,?_⟩;refine HT.zbs ht hs pl pu (by rw[hlen]; exact hw) ?_ (by rw[hlen]; exact hz);rw[hlen];refine⟨.ref s.heap.objs.size,_,I.laid (t':=s.toks) (o:=.tup (cutV xs lo hi)) (fun b ob q=>Ae _ q) (Af _) ?_,rfl,q _ (I.hok.fresh (Af _))⟩;exact⟨AA (zcj xs lo hi) hz,_,(r.drop (HT.sIx xs.length 0 lo)).take (HT.sIx xs.length xs.length hi - HT.sIx xs.length 0 lo),IsTup.new _ _⟩
def Vals.nil_iff {xs:List V}{us:List Value} (r:Vals xs us):us=[] ↔ xs=[]:=by
 cases r with
 | nil=>simp
 | cons _ _=>simp
end
end L2
namespace L2
open PySem PySem.Spec PyProof.Rows
def ixN (n:Nat) (i:Int):Option Nat:=if 0<=i then (if i<n then some i.toNat else none) else if -(n:Int)<=i then some (i+n).toNat else none
def atI {α:Type} (xs:List α) (i:Int):Option α:=(ixN xs.length i).bind fun j=>xs[j]?
def zhK {n:Nat}{i:Int}{j:Nat} (h:ixN n i=some j):seqIndex? i n=some j/\j<n/\-(n:Int)<=i/\i<n:=by
 unfold ixN at h
 by_cases h0:0<=i
 ·rw[if_pos h0] at h
  by_cases h1:i<n
  ·rw[if_pos h1] at h
   have e:i.toNat=j:=Al h;exact⟨by rw[seqIndex_of h0 h1,e],by omega,by omega,h1⟩
  ·rw[if_neg h1] at h; cases h
 ·rw[if_neg h0] at h
  by_cases h1:-(n:Int)<=i
  ·rw[if_pos h1] at h
   have e:(i+n).toNat=j:=Al h;exact⟨by rw[seqIndex_neg (by omega) h1,e],by omega,h1,by omega⟩
  ·rw[if_neg h1] at h; cases h
def zhW {α:Type}{xs:List α}{i:Int}{v:α} (h:atI xs i=some v):∃j,seqIndex? i xs.length=some j/\xs[j]?=some v/\j<xs.length/\-(xs.length:Int)<=i/\i<xs.length:=by
 unfold atI at h;cases e:ixN xs.length i with
 | none=>rw[e] at h; cases h
 | some j=>
  rw[e] at h;obtain⟨h1,h2,h3,h4⟩:=zhK e;exact⟨j,h1,h,h2,h3,h4⟩
def zS {α:Type}{xs:List α}{j:Nat}{v:α} (h:xs[j]?=some v):atI xs (j:Int)=some v:=by
 have hj:j<xs.length:=(List.getElem?_eq_some_iff.mp h).1;have e:ixN xs.length (j:Int)=some j:=by
  unfold ixN;rw[if_pos (by omega),if_pos (by omega)]; simp
 unfold atI; rw[e]; exact h
def zi6 {α:Type} (xs:List α) (v:α):atI (xs++[v]) (-1)=some v:=by
 have hl:(xs++[v]).length=xs.length+1:=by simp
 have e:ixN (xs++[v]).length (-1)=some xs.length:=by
  unfold ixN;rw[hl,if_neg (by decide),if_pos (by omega)]
  congr 1
  omega
 unfold atI;rw[e];show (xs++[v])[xs.length]?=some v;simp
def zlJ (b:Expr):Prop:=∀o i,subscripted b false o i=operate [o,i] (getItem o i)
def IxR (X:Cx) (r:R2):Prop:=
 ∀(aK slice:Expr) (aa:List (Addr×Obj)) (s:Shared) (σ:St) (H:Hp) (x y:V) (v u:Value) (Q:VK),Inv X aa σ H s->RelV x v->RelV y u->r x y H Q->
  subscripted slice false v u=operate [v,u] (getItem v u)->wpAny (model X.prog X.w) X.A (subscriptTail aK slice v u) (EP X aa σ Q) X.xe s
def MtR (X:Cx) (id:String) (r:V->List V->Hp->VK->Prop):Prop:=
 ∀(aa:List (Addr×Obj)) (s:Shared) (σ:St) (H:Hp) (x:V) (xs:List V) (v:Value) (us:List Value) (Q:VK),Inv X aa σ H s->RelV x v->Vals xs us->r x xs H Q->
  wpAny (model X.prog X.w) X.A (call (.builtin id) (v::us)) (EP X aa σ Q) X.xe s
section
variable {X:Cx}{a b:Expr}{ta tb:TE}{pos:Pos}
def zaz {r:R2} (hr:IxR X r) (ha:PE X a ta) (hb:PE X b tb) (hs:zlJ b):PE X (.Subscript a b pos) (tOp r ta tb):=by
 intro aa s σ H Q I h;exact Subscript_ (binT ha hb I h fun v u s2 x y H2 I2 rx ry q=>hr a b aa s2 σ H2 x y v u Q I2 rx ry q (hs _ _))
def rIxL (K:Ad):R2:=fun x y H Q=>∃p xs i v,x=.ref p/\y=.int i/\SqL K H p xs/\atI xs i=some v/\Q v H
def rIxT (K:Ad):R2:=fun x y H Q=>∃p xs i v,x=.ref p/\y=.int i/\SqT K H p xs/\atI xs i=some v/\Q v H
def zV:IxR X (rIxL X.K):=by
 intro aK slice aa s σ H x y v u Q I rx ry h hs;obtain⟨p,xs,i,z,rfl,rfl,hq,he,q⟩:=h;cases rx;obtain⟨t,rfl⟩:=ry;obtain⟨ah,r,pl,hz⟩:=I.list hq;obtain⟨j,h1,h2,h3,h4,h5⟩:=zhW he;obtain⟨w,ew,dY⟩:=r.get h2;have hl:=r.length;have hn:=line63;have fin:EP X aa σ Q w s:=⟨z,H,I,dY,q⟩
 by_cases h0:0<=i
 ·have hj:i.toNat=j:=by
   rw[seqIndex_of h0 h5] at h1;exact Al h1
  exact item_listR pl.isList h0 (by omega) (by rw[hj]; simpa using ew) fin hs
 ·have hj:(i+(ah.toArray.size:Int)).toNat=j:=by
   rw[seqIndex_neg (by omega) h4] at h1;rw[Ag,<- hl];exact Al h1
  exact subscriptTail_builtinR (x:=w) pl.isList.typeIs slot_list_getitem.lookup
   (wpAny_getItem_list_neg (Q:=fun r s'=>r=w/\EP X aa σ Q r s') pl.isList (by omega) (by rw[Ag] <;> omega) (by omega) (by rw[hj]; simpa using ew) ⟨rfl,fin⟩) hs
def zfc:IxR X (rIxT X.K):=by
 intro aK slice aa s σ H x y v u Q I rx ry h hs;obtain⟨p,xs,i,z,rfl,rfl,hq,he,q⟩:=h;cases rx;obtain⟨t,rfl⟩:=ry;obtain⟨ah,r,pl,hz⟩:=I.tuple hq;obtain⟨j,h1,h2,h3,h4,h5⟩:=zhW he;obtain⟨w,ew,dY⟩:=r.get h2;have hl:=r.length;have hn:=line63;have fin:EP X aa σ Q w s:=⟨z,H,I,dY,q⟩;exact subscriptTail_builtinR (x:=w) pl.typeIs slot_tuple_getitem.lookup
  (getItem_tuple (j:=j) (Q:=fun r s'=>r=w/\EP X aa σ Q r s') pl (by omega) (by omega) (by rw[Ag,<- hl]; exact h1) (by simpa using ew) ⟨rfl,fin⟩) hs
def zfX (ah:List Value) (n j:Nat) (u:Value):Ax (·.setIfInBounds j u) { cls:=.type "list",data:=.seq ah.toArray n }={ cls:=.type "list",data:=.seq (ah.set j u).toArray n }:=by
 simp[Ax]
def Inv.lst {aa:List (Addr×Obj)}{σ:St}{H:Hp}{s:Shared}{p:Addr}{xs:List V} (I:Inv X aa σ H s) (h:H p=some (.lst xs)) :
  ∃(ah:List Value) (n:Nat),Vals xs ah/\s.heap.get? p=some { cls:=.type "list",data:=.seq ah.toArray n }/\xs.length<=sizeLine:=by
 obtain⟨z,ah,n,r,e⟩:=I.hok p _ h;exact⟨ah,n,r,e,z⟩
def Inv.lstUpd {aa:List (Addr×Obj)}{σ:St}{H:Hp}{s:Shared}{p:Addr}{xs ys:List V}{ah its':List Value}{n n':Nat}{f:Obj->Obj} (I:Inv X aa σ H s) (h:H p=some (.lst xs))
  (ho:s.heap.get? p=some { cls:=.type "list",data:=.seq ah.toArray n }) (hf:f { cls:=.type "list",data:=.seq ah.toArray n }={ cls:=.type "list",data:=.seq its'.toArray n' }) (r:Vals ys its') (hz:ys.length<=sizeLine) (t:Nat) :
  Inv X aa σ (upd H p (.lst ys)) { s with heap:=s.heap.update p f,toks:=t }:=by
 have e:(s.heap.update p f).get? p=some { cls:=.type "list",data:=.seq its'.toArray n' }:=by
  rw[AU f ho (by rw[hf] <;> rfl),hf]
 refine I.write (x:=p) (e:=p) (by rw[h]; trivial) (.inl rfl) (fun b u hb q=>(AE _ _ (Ne.symm hb)).trans q) ⟨_,e⟩ ?_;exact⟨hz,its',n',r,e⟩
def znT:V->V->V->Hp->(Hp->Prop)->Prop:=fun o i v H Q=>∃p xs k j,o=.ref p/\i=.int k/\H p=some (.lst xs)/\ixN xs.length k=some j/\Q (upd H p (.lst (xs.set j v)))
def set_list:PSet X znT:=by
 intro aa s σ H o i v ov iv u Q I ro ri rv h;obtain⟨p,xs,k,j,rfl,rfl,hp,hj,q⟩:=h;cases ro;obtain⟨t,rfl⟩:=ri;obtain⟨ah,n,r,ho,hz⟩:=I.lst hp;obtain⟨h1,h2,h3,h4⟩:=zhK hj;have hl:=r.length;have hn:=line63;have I':Inv X aa σ (upd H p (.lst (xs.set j v))) { s with heap:=s.heap.update p (Ax (·.setIfInBounds j u)) }:=
  I.lstUpd hp ho (zfX ah n j u) (r.set rv j) (by rw[List.length_set]; exact hz) s.toks
 by_cases h0:0<=k
 ·have hk:k.toNat=j:=by
   rw[seqIndex_of h0 h4] at h1;exact Al h1
  exact PySem.W.ki_setAt ho h0 (by omega) (by rw[Ag,<- hl]; exact h4) (by rw[hk]; exact⟨_,I',q⟩)
 ·have hk:(k+(ah.toArray.size:Int)).toNat=j:=by
   rw[seqIndex_neg (by omega) h3] at h1;rw[Ag,<- hl];exact Al h1
  exact PySem.W.ki_setBack ho (by omega) (by rw[Ag,<- hl]; exact h3) (by omega) (by rw[hk]; exact⟨_,I',q⟩)
def zdQ (lo hi:Option Int) (n:Nat):(sliceBounds lo hi none n).1=((HT.sIx n 0 lo:Nat):Int)/\(sliceBounds lo hi none n).2.1=((HT.sIx n n hi:Nat):Int)/\(sliceBounds lo hi none n).2.2=1:=by
 refine⟨?_,?_,rfl⟩
 ·cases lo with
  | none=>simp[sliceBounds,HT.sIx]
  | some i=>
   simp only[sliceBounds,HT.sIx,Option.getD_none,show (1:Int) > 0 by decide,if_true]
   by_cases h:i<0
   ·simp only[h,if_true] <;> omega
   ·simp only[h,if_false] <;> omega
 ·cases hi with
  | none=>simp[sliceBounds,HT.sIx]
  | some i=>
   simp only[sliceBounds,HT.sIx,Option.getD_none,show (1:Int) > 0 by decide,if_true]
   by_cases h:i<0
   ·simp only[h,if_true] <;> omega
   ·simp only[h,if_false] <;> omega
def zcK (ah:List Value) (lo hi:Option Int):slicePick ah.toArray lo hi none=((ah.drop (HT.sIx ah.length 0 lo)).take (HT.sIx ah.length ah.length hi - HT.sIx ah.length 0 lo)).toArray:=by
 obtain⟨h1,h2,h3⟩:=zdQ lo hi ah.toArray.size;unfold slicePick;rw[h1,h2,h3];simp only[sliceRange_one,pick_run,Ag] <;> rfl
def rSlL (K:Ad):V->Option Int->Option Int->Hp->VK->Prop:=fun x lo hi H Q=>∃a xs,x=.ref a/\SqL K H a xs/\∀p,H p=none->Q (.ref p) (upd H p (.lst (cutV xs lo hi)))
def zle:SlR X (rSlL X.K):=by
 intro aa s σ H x v vl vu lo hi sl Q I rx hs pl pu h;obtain⟨a,xs,rfl,hx,q⟩:=h;cases rx;obtain⟨ah,r,ht,hz⟩:=I.list hx;have hlen:=r.length;refine⟨"list",_,slot_list_getitem.lookup,ht.isList.typeIs,?_⟩;refine wpAny_getItem_list_slice ht.isList hs pl pu .none (by simp) ?_ (by rw[Ag] <;> omega);rw[zcK,<- hlen];refine⟨.ref s.heap.objs.size,_,I.laid (t':=s.toks) (o:=.lst (cutV xs lo hi)) (fun b ob q=>Ae _ q) (Af _) ?_,rfl,q _ (I.hok.fresh (Af _))⟩;exact⟨AA (zcj xs lo hi) hz,_,0,(r.drop (HT.sIx xs.length 0 lo)).take (HT.sIx xs.length xs.length hi - HT.sIx xs.length 0 lo),Ak _ rfl⟩
def zcc:V->Bool
 | .non=>true
 | .bl _=>true
 | .int _=>true
 | .str _=>true
 | _=>false
def eqV:V->V->Bool
 | .non,.non=>true
 | .bl a,.bl b=>a == b
 | .bl a,.int b=>(if a then 1 else 0) == b
 | .int a,.bl b=>a == (if b then 1 else 0)
 | .int a,.int b=>a == b
 | .str a,.str b=>a == b
 | _,_=>false
def zmu {A:Around}{s:Shared}{y x:V}{u v:Value} (ry:RelV y u) (rx:RelV x v) (fy:zcc y=true) (fx:zcc x=true):SeqAt.EqAt A s u v (eqV y x):=by
 cases y with
 | non=>
  cases ry;cases x with
  | non=>cases rx; exact SeqAt.EqAt.same _
  | bl b=>cases rx; exact SeqAt.EqAt.none_bool b
  | int b=>obtain⟨t,rfl⟩:=rx; exact SeqAt.EqAt.none_int b t
  | str b=>obtain⟨t,rfl⟩:=rx; exact SeqAt.EqAt.none_str b t
  | _=>exact absurd (show false=true from fx) Ao
 | bl a=>
  cases ry;cases x with
  | non=>cases rx; exact SeqAt.EqAt.bool_none a
  | bl b=>cases rx; exact SeqAt.EqAt.bool_bool a b
  | int b=>obtain⟨t,rfl⟩:=rx; exact SeqAt.EqAt.bool_int a b t
  | str b=>obtain⟨t,rfl⟩:=rx; exact SeqAt.EqAt.bool_str a b t
  | _=>exact absurd (show false=true from fx) Ao
 | int a=>
  obtain⟨t',rfl⟩:=ry;cases x with
  | non=>cases rx; exact SeqAt.EqAt.int_none a t'
  | bl b=>cases rx; exact SeqAt.EqAt.int_bool a t' b
  | int b=>obtain⟨t,rfl⟩:=rx; exact SeqAt.EqAt.int_int a t' b t
  | str b=>obtain⟨t,rfl⟩:=rx; exact SeqAt.EqAt.int_str a t' b t
  | _=>exact absurd (show false=true from fx) Ao
 | str a=>
  obtain⟨t',rfl⟩:=ry;cases x with
  | non=>cases rx; exact SeqAt.EqAt.str_none a t'
  | bl b=>cases rx; exact SeqAt.EqAt.str_bool a t' b
  | int b=>obtain⟨t,rfl⟩:=rx; exact SeqAt.EqAt.str_int a t' b t
  | str b=>obtain⟨t,rfl⟩:=rx; exact SeqAt.EqAt.str_str a t' b t
  | _=>exact absurd (show false=true from fx) Ao
 | _=>exact absurd (show false=true from fy) Ao
def eqU (x:V) (u:Value):Bool:=match u with
 | .none=>eqV .non x
 | .bool b=>eqV (.bl b) x
 | .int i _=>eqV (.int i) x
 | .str z _=>eqV (.str z) x
 | _=>false
def zhO {x y:V}{u:Value} (r:RelV y u) (f:zcc y=true):eqU x u=eqV y x:=by
 cases y with
 | non=>cases r; rfl
 | bl b=>cases r; rfl
 | int i=>obtain⟨t,rfl⟩:=r; rfl
 | str z=>obtain⟨t,rfl⟩:=r; rfl
 | _=>exact absurd (show false=true from f) Ao
def zc9 {A:Around}{s:Shared}{x:V}{v:Value} (rx:RelV x v) (fx:zcc x=true):∀{xs:List V}{us:List Value},Vals xs us->xs.all zcc=true->∀u∈us,SeqAt.EqAt A s u v (eqU x u)
 | _,_,.nil,_=>fun u hu=>by cases hu
 | y::xs,u::us,.cons r t,f=>fun u' hu=>by
  rw[List.all_cons,AF] at f;rcases List.mem_cons.mp hu with rfl | hu
  ·rw[zhO r f.1]; exact zmu r rx f.1 fx
  ·exact zc9 rx fx t f.2 u' hu
def zt:zX X (.builtin "len") (fun xs H Q=>∃p ys,xs=[.ref p]/\(SqL X.K H p ys \/ SqT X.K H p ys)/\Q (.int ys.length) H):=by
 intro aa s σ H xs us Q I r h;obtain⟨p,ys,rfl,hq,q⟩:=h;obtain⟨u,rfl,rx⟩:=vals1 r;cases rx;have hn:=line63;rcases hq with hq | hq
 ·obtain⟨ah,r',pl,hz⟩:=I.list hq
  have hlen:=r'.length;exact Calls.call_len_list pl.isList (by simp only[Ag] <;> omega) ⟨.int ys.length,H,I.tok _,⟨s.toks+1,by rw[Ag,hlen]⟩,q⟩
 ·obtain⟨ah,r',pl,hz⟩:=I.tuple hq
  have hlen:=r'.length;exact len_tuple pl (by simp only[Ag] <;> omega) ⟨.int ys.length,H,I.tok _,⟨s.toks+1,by rw[Ag,hlen]⟩,q⟩
def zec:zX X (.builtin "len") (fun xs H Q=>∃z,xs=[.str z]/\z.length<=sizeLine/\Q (.int z.length) H):=by
 intro aa s σ H xs us Q I r h;obtain⟨z,rfl,hz,q⟩:=h;obtain⟨u,rfl,t,rfl⟩:=vals1 r;have hn:=line63;exact len_str (by omega) ⟨.int z.length,H,I.tok _,⟨_,rfl⟩,q⟩
def zak:zX X (.type "list") (fun xs H Q=>∃p ys,xs=[.ref p]/\(SqL X.K H p ys \/ SqT X.K H p ys)/\∀l,H l=none->Q (.ref l) (upd H l (.lst ys))):=by
 intro aa s σ H xs us Q I r h;obtain⟨p,ys,rfl,hq,q⟩:=h;obtain⟨u,rfl,rx⟩:=vals1 r;cases rx;have fin:∀(ah:List Value),Vals ys ah->ys.length<=sizeLine->∀(h':Heap) (c':Nat),(∀b o',s.heap.get? b=some o'->h'.get? b=some o')->
   h'.get? s.heap.objs.size=some { cls:=.type "list",dict:=none,data:=.seq ah.toArray c',slots:=#[] }->EP X aa σ Q (.ref s.heap.objs.size) { s with heap:=h' }:=fun ah r' hz h' c' kp e=>
  ⟨.ref s.heap.objs.size,_,I.laid (t':=s.toks) kp (Af _) (show zx X.prog X.w _ h' _ (.lst ys) from ⟨hz,ah,c',r',e⟩),rfl,q _ (I.hok.fresh (Af _))⟩
 rcases hq with hq | hq
 ·obtain⟨ah,r',pl,hz⟩:=I.list hq
  have hlen:=r'.length;obtain⟨o,ho,hc,n,hd⟩:=pl.isList;exact call_list_seq p (.inl rfl) ho hc hd (fun h' c' kp e=>fin ah r' hz h' c' kp e) (by simp only[Ag] <;> omega)
 ·obtain⟨ah,r',pl,hz⟩:=I.tuple hq
  have hlen:=r'.length;obtain⟨o,ho,hc,n,hd⟩:=pl;exact call_list_seq p (.inr rfl) ho hc hd (fun h' c' kp e=>fin ah r' hz h' c' kp e) (by simp only[Ag] <;> omega)
def zat:zX X (.type "tuple") (fun xs H Q=>∃p ys,xs=[.ref p]/\((SqL X.K H p ys/\∀l,H l=none->Q (.ref l) (upd H l (.tup ys))) \/ (SqT X.K H p ys/\Q (.ref p) H))):=by
 intro aa s σ H xs us Q I r h;obtain⟨p,ys,rfl,h⟩:=h;obtain⟨u,rfl,rx⟩:=vals1 r;cases rx;rcases h with ⟨hq,q⟩ | ⟨hq,q⟩
 ·obtain⟨ah,r',pl,hz⟩:=I.list hq
  have hlen:=r'.length;refine call_tuple_list pl.isList (fun h' kp=>?_) (by simp only[Ag] <;> omega);have I1:Inv X aa σ H { s with heap:=h' }:=I.kept (t':=s.toks) kp;have I2:Inv X aa σ (upd H h'.objs.size (.tup ys)) { s with heap:=h'.push { cls:=.type "tuple",data:=.seq ah.toArray } }:=
   I1.laid (t':=s.toks) (fun b o e=>Ae _ e) (Af _) (show zx X.prog X.w _ _ _ (.tup ys) from ⟨hz,ah,r',IsTup.new _ _⟩)
  exact⟨.ref h'.objs.size,_,I2,rfl,q _ (I1.hok.fresh (Af _))⟩
 ·obtain⟨ah,r',pl,hz⟩:=I.tuple hq
  exact call_tuple_same pl ⟨.ref p,H,I,rfl,q⟩
def tyV (K:Ad) (T:String) (x:V) (H:Hp):Prop:=match x with
 | .str _=>T="str"
 | .int _=>T="int"
 | .ref p=>(T="list"/\∃xs,SqL K H p xs) \/ (T="tuple"/\∃o,K.lookup p=some o/\o.cls=.type "tuple"/\o.dict=none) \/
   (T="dict"/\((∃kvs,H p=some (.dK kvs)) \/ ∃kvs,H p=some (.dT kvs))) \/ (T="set"/\∃S n,H p=some (.set S n))
 | _=>False
def zkM {aa:List (Addr×Obj)}{σ:St}{H:Hp}{s:Shared}{T:String}{x:V}{v:Value} (I:Inv X aa σ H s) (r:RelV x v) (ty:tyV X.K T x H) :
  s.TypeIs v T/\∀a,v=.ref a->∃ob,s.heap.get? a=some ob/\ob.dict=none:=by
 cases x with
 | str z=>
  obtain⟨t,rfl⟩:=r;cases (show T="str" from ty);exact⟨typeIs_str s z t,fun _ e=>nomatch e⟩
 | int i=>
  obtain⟨t,rfl⟩:=r;cases (show T="int" from ty);exact⟨typeIs_int s i t,fun _ e=>nomatch e⟩
 | ref p=>
  cases r;rcases ty with ⟨rfl,xs,hq⟩ | ⟨rfl,o,hk,hc,hd⟩ | ⟨rfl,hk⟩ | ⟨rfl,S,n,hk⟩
  ·obtain⟨ah,_,pl,_⟩:=I.list hq
   refine⟨pl.isList.typeIs,fun a e=>?_⟩;cases e;obtain⟨o,n,e,c,hd,_⟩:=pl;exact⟨o,e,hd⟩
  ·refine⟨⟨o,I.kIn p o hk,hc⟩,fun a e=>?_⟩
   cases e;exact⟨o,I.kIn _ o hk,hd⟩
  ·have z:∃o,s.heap.get? p=some o/\o.ExactDict:=by
    rcases hk with ⟨kvs,hk⟩ | ⟨kvs,hk⟩
    ·obtain⟨_,_,_,_,o,_,_,e,ex,_⟩:=I.hok p _ hk
     exact⟨o,e,ex⟩
    ·obtain⟨_,_,_,_,o,_,_,e,ex,_⟩:=I.hok p _ hk
     exact⟨o,e,ex⟩
   obtain⟨o,e,ex⟩:=z;refine⟨⟨o,e,ex.1⟩,fun a e2=>?_⟩;cases e2;exact⟨o,e,ex.2.1⟩
  ·obtain⟨o,_,_,_,e,ex,_⟩:=I.hok p _ hk
   refine⟨⟨o,e,ex.1⟩,fun a e2=>?_⟩;cases e2;exact⟨o,e,ex.2.1⟩
 | _=>exact False.elim ty
def tBM0 (K:Ad) (T:String) (r:V->List V->Hp->VK->Prop) (to:TE):TE:=fun σ H Q=>to σ H fun x H1=>tyV K T x H1/\r x [] H1 Q
def tBM (K:Ad) (T:String) (r:V->List V->Hp->VK->Prop) (to:TE) (t:TA):TE:=fun σ H Q=>to σ H fun x H1=>tyV K T x H1/\t σ H1 fun xs H2=>r x xs H2 Q
variable {o e:Expr}{es:List Expr}{to:TE}{t:TA}{name:Str}{aI au:Pos}{T id:String}{r:V->List V->Hp->VK->Prop}
def zmn (pa:PlainAttrs T) (slot:Slot T name id) (lZ:typeOf (.builtin id)=pure (.type "method_descriptor")) (hm:MtR X id r) (ho:PE X o to)
  (aZ:attributeBase o name X.env (eval o X.env)=eval o X.env:=by rfl) (bE:(aI.endLine == au.line)=true:=by rfl):PE X (.Call (.Attribute o name aI) [] [] au) (tBM0 X.K T r to):=by
 intro aa s σ H Q I h;refine wpAny_Call_method0_late aZ bE (thn (ho aa s σ H _ I h) fun v s1 ⟨x,H1,I1,r1,ty,q1⟩=>?_);obtain⟨h1,h2⟩:=zkM I1 r1 ty;exact⟨T,id,pa,slot,lZ,h1,h2,Calls.callWith_builtin rfl (PySem.evalArgs_none (hm aa s1 σ H1 x [] v [] Q I1 r1 .nil q1))⟩
def zaF (pa:PlainAttrs T) (slot:Slot T name id) (lZ:typeOf (.builtin id)=pure (.type "method_descriptor")) (hm:MtR X id r) (ho:PE X o to) (ha:PA X (e::es) t)
  (aZ:attributeBase o name X.env (eval o X.env)=eval o X.env:=by rfl)
  (nW:((backTo au (starEach (e::es) X.env)).all (fun x=>!x.1) && (backToKw au (keywordEach [] X.env)).all (fun x=>x.1.isSome)
   && decide ((e::es).length+([]:List Keyword).length+(if ([]:List Keyword).isEmpty then 0 else 1)<30))=true:=by rfl)
  (bE:(aI.endLine == au.line)=true:=by rfl) (hs:starEach (e::es) X.env=(false,eval e X.env)::starEach es X.env:=by rfl) (cQ:(backTo au (starEach es X.env)).any (·.1)=false:=by rfl) :
  PE X (.Call (.Attribute o name aI) (e::es) [] au) (tBM X.K T r to t):=by
 intro aa s σ H Q I h;refine wpAny_Call_method_late aZ nW bE rfl (thn (ho aa s σ H _ I h) fun v s1 ⟨x,H1,I1,r1,ty,q1⟩=>?_);obtain⟨h1,h2⟩:=zkM I1 r1 ty;refine⟨T,id,pa,slot,lZ,h1,h2,?_⟩;have hA:=ha au aa s1 σ H1 _ I1 q1;rw[hs] at hA ⊢;refine Calls.callWith_builtin (by show (false || (backTo au (starEach es X.env)).any (·.1))=false; rw[cQ] <;> rfl) (Calls.evalArgs_plain ?_);exact thn hA fun us s2 ⟨vs,H2,I2,r2,q2⟩=>hm aa s2 σ H2 x vs v us Q I2 r1 r2 q2
/- xs.append(e),list.index on a module's tuple .. are MtR facts of 06m -/
end
end L2
namespace L2
open PySem PySem.Spec PyProof.Rows
def MtM (X:Cx) (id:String) (r:V->List V->Hp->VK->Prop):Prop:=
 ∀(aa:List (Addr×Obj)) (s:Shared) (σ:St) (H:Hp) (x:V) (xs:List V) (v:Value) (us:List Value) (Q:VK),Inv X aa σ H s->RelV x v->Vals xs us->r x xs H Q->
  wpAny (model X.prog X.w) X.A (call (.builtin id) (v::us)) (EP X aa σ Q) X.xe s
def Vals.one {x:V}{us:List Value} (h:Vals [x] us):∃u,us=[u]/\RelV x u:=by
 cases h with | cons r t=>cases t; exact⟨_,rfl,r⟩
def Vals.two {x y:V}{us:List Value} (h:Vals [x,y] us):∃u v,us=[u,v]/\RelV x u/\RelV y v:=by
 cases h with | cons r t=>obtain⟨v,rfl,q⟩:=Vals.one t; exact⟨_,_,rfl,r,q⟩
def Vals.zero:∀{us:List Value},Vals [] us->us=[]
 | _,.nil=>rfl
def Vals.eraseIdx:∀{xs:List V}{us:List Value} (i:Nat),Vals xs us->Vals (xs.eraseIdx i) (us.eraseIdx i)
 | _,_,_,.nil=>.nil
 | _,_,0,.cons _ t=>t
 | _,_,i+1,.cons r t=>.cons r (Vals.eraseIdx i t)
def Vals.reverse {xs:List V}{us:List Value} (h:Vals xs us):Vals xs.reverse us.reverse:=by
 induction h with
 | nil=>exact .nil
 | cons r t ih=>rw[List.reverse_cons,List.reverse_cons]; exact Vals.append ih (.cons r .nil)
section
variable {X:Cx}{aa:List (Addr×Obj)}{σ:St}{H:Hp}{s:Shared}{l b:Addr}{xs ys zs:List V}
def Inv.lset {ah its':List Value}{n:Nat}{f:Array Value->Array Value}{t':Nat} (I:Inv X aa σ H s) (hH:H l=some (.lst xs))
  (e:s.heap.get? l=some { cls:=.type "list",data:=.seq ah.toArray n }) (hf:f ah.toArray=its'.toArray) (hv:Vals ys its') (hz:ys.length<=sizeLine) :
  Inv X aa σ (upd H l (.lst ys)) { s with heap:=s.heap.update l (Ax f),toks:=t' }:=by
 have q:=PySem.IsL.update e f;rw[hf] at q;refine I.write (x:=l) (e:=l) (by rw[hH]; exact trivial) (.inl rfl) (fun b' u hb hu=>(AE s.heap (Ax f) (Ne.symm hb)).trans hu) ⟨_,q⟩ ?_;exact⟨hz,its',_,hv,q⟩
def Inv.lnew {ah:List Value}{t':Nat} (I:Inv X aa σ H s) (hv:Vals ys ah) (hz:ys.length<=sizeLine) :
  Inv X aa σ (upd H s.heap.objs.size (.lst ys)) { s with heap:=s.heap.push { cls:=.type "list",data:=.seq ah.toArray },toks:=t' }:=
 I.laid (fun _ _ q=>Ae _ q) (Af _) ⟨hz,ah,0,hv,Ak _ rfl⟩
def Inv.fresh (I:Inv X aa σ H s):H s.heap.objs.size=none:=I.hok.fresh (Af _)
def Inv.lstM (I:Inv X aa σ H s) (hH:H l=some (.lst xs)):xs.length<=sizeLine/\∃(ah:List Value) (n:Nat),Vals xs ah/\xs.length=ah.length/\s.heap.get? l=some { cls:=.type "list",data:=.seq ah.toArray n }:=by
 obtain⟨z,ah,n,r,e⟩:=I.hok l _ hH;exact⟨z,ah,n,r,r.length,e⟩
def zkc {n:Nat} (h:n<=sizeLine):Builtin.List.listTooLong n=false:=by
 unfold Builtin.List.listTooLong;exact decide_eq_false (by omega)
end
section
variable {X:Cx}
def zl2:V->List V->Hp->VK->Prop:=fun x vs H Q=>∃l xs y,x=.ref l/\vs=[y]/\H l=some (.lst xs)/\xs.length<sizeLine/\Q .non (upd H l (.lst (xs++[y])))
def zai:MtM X "list.append" zl2:=by
 intro aa s σ H x vs v us Q I rx rv h;obtain⟨l,xs,y,rfl,rfl,hH,hz,q⟩:=h;cases rx;obtain⟨u,rfl,ru⟩:=rv.one;obtain⟨z,ah,n,r,hl,e⟩:=I.lstM hH;refine call_meets F.slot_list_append ⟨_,e,rfl⟩ F.entry_list_append (F.args_list_append_2 _ _) (PySem.list_append l ah.toArray n u (by rw[Ag]; omega)) ⟨e,?_⟩;refine⟨.non,_,I.lset (its':=ah++[u]) hH e (by simp) (r.append (.cons ru .nil)) ?_,rfl,q⟩;rw[Aq,List.length_singleton];omega
def zlV:V->List V->Hp->VK->Prop:=fun x vs H Q=>∃l b xs zs,x=.ref l/\vs=[.ref b]/\H l=some (.lst xs)/\H b=some (.lst zs)/\xs.length+zs.length<=sizeLine/\Q .non (upd H l (.lst (xs++zs)))
def zhV:MtM X "list.extend" zlV:=by
 intro aa s σ H x vs v us Q I rx rv h;obtain⟨l,b,xs,zs,rfl,rfl,hH,hB,hz,q⟩:=h;cases rx;obtain⟨u,rfl,ru⟩:=rv.one;cases ru;obtain⟨z,ah,n,r,hl,e⟩:=I.lstM hH;obtain⟨z2,bx,n2,r2,bO,e2⟩:=I.lstM hB;have hsz:ah.toArray.size+bx.toArray.size<=sizeLine:=by rw[Ag,Ag]; omega
 have hlong:¬ (!ah.toArray.isEmpty && Builtin.List.listTooLong (ah.toArray.size+bx.toArray.size))=true:=by
  rw[zkc hsz,Bool.and_false];exact Ao
 refine call_meets F.slot_list_extend ⟨_,e,rfl⟩ F.entry_list_extend (F.args_list_extend_2 _ _)
  (AutoSeq1.list_extend_list_list_0 l ah.toArray n b bx.toArray n2 hlong (by rw[Ag]; omega) (by omega)) ⟨e,e2,?_⟩
 refine⟨.non,_,I.lset (its':=ah++bx) hH e (by simp) (r.append r2) ?_,rfl,q⟩;rw[Aq];omega
def zjc:V->List V->Hp->VK->Prop:=fun x vs H Q=>∃l xs,x=.ref l/\vs=[]/\H l=some (.lst xs)/\Q .non (upd H l (.lst xs.reverse))
def zgk:MtM X "list.reverse" zjc:=by
 intro aa s σ H x vs v us Q I rx rv h;obtain⟨l,xs,rfl,rfl,hH,q⟩:=h;cases rx;have qX:=rv.zero;subst qX;obtain⟨z,ah,n,r,hl,e⟩:=I.lstM hH;refine call_meets F.slot_list_reverse ⟨_,e,rfl⟩ F.entry_list_reverse (F.args_list_reverse_1 _) (AutoSeq1.list_reverse_list_0 l ah.toArray n (by rw[Ag]; omega)) ⟨e,?_⟩;refine⟨.non,_,I.lset (its':=ah.reverse) hH e (by simp) r.reverse ?_,rfl,q⟩;rw[List.length_reverse];omega
def rCat:R2:=fun x y H Q=>∃l b xs zs,x=.ref l/\y=.ref b/\H l=some (.lst xs)/\H b=some (.lst zs)/\xs.length+zs.length<=sizeLine/\∀p,H p=none->Q (.ref p) (upd H p (.lst (xs++zs)))
def zaj:OpR X (binaryOp .Add) rCat:=by
 intro aa s σ H x y v u Q I rx ry h;obtain⟨l,b,xs,zs,rfl,rfl,hH,hB,hz,q⟩:=h;cases rx;cases ry;obtain⟨z,ah,n,r,hl,e⟩:=I.lstM hH;obtain⟨z2,bx,n2,r2,bO,e2⟩:=I.lstM hB;refine PySem.P.add_list e e2 ?_ (by rw[Ag,Ag]; omega);have ea:ah.toArray++bx.toArray=(ah++bx).toArray:=by simp
 rw[ea];exact⟨.ref _,_,I.lnew (t':=s.toks) (r.append r2) (by rw[Aq]; omega),rfl,q _ I.fresh⟩
end
section
variable {prog:Program}{w:World}{A:Around}{E:Value->Shared->Prop}{s:Shared}
set_option maxRecDepth 100000 in
end
section
variable {X:Cx}
end
end L2
namespace L2
open PySem PySem.Spec PyProof.Rows
section
variable {κ:Type} [DecidableEq κ]
def valV (kvs:List (κ×V)) (k:κ):Option V:=(kvs.find? fun kv=>decide (kv.1=k)).map (·.2)
def putK (kvs:List (κ×V)) (k:κ) (v:V):List (κ×V):=
 if (kvs.any fun kv=>decide (kv.1=k))=true then kvs.map (fun kv=>if kv.1=k then (kv.1,v) else kv) else kvs++[(k,v)]
def zn2 (kvs:List (κ×V)) (k:κ):List (κ×V):=kvs.filter fun kv=>decide (kv.1≠k)
def zc8 {p:κ×V}{r:List (κ×V)}{k:κ} (e:p.1=k):valV (p::r) k=some p.2:=by simp[valV,List.find?_cons,e]
def zdi {p:κ×V}{r:List (κ×V)}{k:κ} (e:¬ p.1=k):valV (p::r) k=valV r k:=by simp[valV,List.find?_cons,e]
def ze6 (k:κ):∀kvs:List (κ×V),(kvs.any fun kv=>decide (kv.1=k))=(valV kvs k).isSome
 | []=>rfl
 | p::r=>by
  rw[List.any_cons]
  by_cases e:p.1=k
  ·simp only[zc8 e,decide_eq_true e,Bool.true_or,Option.isSome_some]
  ·rw[zdi e,decide_eq_false e,Bool.false_or]; exact ze6 k r
def za7 (kvs:List (κ×V)) (k:κ) (v:V):(putK kvs k v).length<=kvs.length+1:=by
 unfold putK;split
 ·rw[Ab]; omega
 ·rw[Aq,Ap,List.length_nil]; omega
def RelO.isSome_eq {o:Option V}{u:Option Value} (r:RelO o u):o.isSome=u.isSome:=by
 cases o with
 | none=>cases u with
  | none=>rfl
  | some _=>exact (show False from r).elim
 | some _=>cases u with
  | none=>exact (show False from r).elim
  | some _=>rfl
def RelO.getD {o:Option V}{u:Option Value}{d:V}{d':Value} (r:RelO o u) (rd:RelV d d'):RelV (o.getD d) (u.getD d'):=by
 cases o with
 | none=>cases u with
  | none=>exact rd
  | some _=>exact (show False from r).elim
 | some _=>cases u with
  | none=>exact (show False from r).elim
  | some _=>exact r
def KV.val {kvs:List (κ×V)}{vs:List (κ×Value)} (r:KV kvs vs) (k:κ):RelO (valV kvs k) (valueAt vs k):=by
 unfold KV at r
 induction r with
 | nil=>exact True.intro
 | @cons p q ps qs h t ih=>
  obtain⟨h1,h2⟩:=h
  by_cases e:p.1=k
  ·have e':q.1=k:=h1.symm.trans e
   have b:valueAt (q::qs) k=some q.2:=by simp[valueAt,List.find?_cons,e']
   rw[zc8 e,b]; exact h2
  ·have e':¬ q.1=k:=fun z=>e (h1.trans z)
   have b:valueAt (q::qs) k=valueAt qs k:=by simp[valueAt,List.find?_cons,e']
   rw[zdi e,b]; exact ih
def KV.any {kvs:List (κ×V)}{vs:List (κ×Value)} (r:KV kvs vs) (k:κ):(kvs.any fun kv=>decide (kv.1=k))=vs.any fun kv=>decide (kv.1=k):=by
 unfold KV at r
 induction r with
 | nil=>rfl
 | cons h t ih=>rw[List.any_cons,List.any_cons,ih,h.1]
def KV.repl {kvs:List (κ×V)}{vs:List (κ×Value)} (r:KV kvs vs) (k:κ) {y:V}{u:Value} (ry:RelV y u) :
  KV (kvs.map fun kv=>if kv.1=k then (kv.1,y) else kv) (vs.map fun kv=>if kv.1=k then (kv.1,u) else kv):=by
 unfold KV at r ⊢
 induction r with
 | nil=>exact .nil
 | @cons p q ps qs h t ih=>
  rw[AH,AH];refine .cons ?_ ih;obtain⟨h1,h2⟩:=h
  by_cases e:p.1=k
  ·rw[if_pos e,if_pos (h1.symm.trans e)]; exact⟨h1,ry⟩
  ·rw[if_neg e,if_neg (fun z=>e (h1.trans z))]; exact⟨h1,h2⟩
def KV.put {kvs:List (κ×V)}{vs:List (κ×Value)} (r:KV kvs vs) (k:κ) {y:V}{u:Value} (ry:RelV y u):KV (putK kvs k y) (stored vs k u):=by
 unfold putK stored;rw[r.any k]
 by_cases e:(vs.any fun kv=>decide (kv.1=k))=true
 ·rw[if_pos e,if_pos e]; exact r.repl k ry
 ·rw[if_neg e,if_neg e]; exact Paired.snoc r ⟨rfl,ry⟩
def KV.length {kvs:List (κ×V)}{vs:List (κ×Value)} (r:KV kvs vs):kvs.length=vs.length:=AX r
end
def zi8 {P:Program}{w:World}{k:Key}{u:Value} (r:RelV (kV k) u):(zu P w).is k u=true:=by
 cases k with
 | inl i=>obtain⟨t,e⟩:=(show ∃t,u=Value.int i t from r); subst e; exact za6 P w i t
 | inr x=>obtain⟨t,e⟩:=(show ∃t,u=Value.str x t from r); subst e; exact zey P w x t
def zdZ {P:Program}{w:World}:∀{ks:List Key}{us:List Value},Vals (ks.map kV) us->ItemsAre (zu P w) ks us
 | [],_,r=>by rw[List.map_nil] at r; cases r; exact .nil
 | k::ks,_,r=>by
  rw[AH] at r;cases r with
  | cons h t=>exact .cons (zi8 h) (zdZ t)
abbrev KT (H:Hp):List (List Key×V)->List (List Key×Addr×Value)->Prop:=Paired fun p q=>p.1=q.1/\H q.2.1=some (.tup (p.1.map kV))/\RelV p.2 q.2.2
def KT.val {H:Hp}{kvs:List (List Key×V)}{xs:List (List Key×Addr×Value)} (r:KT H kvs xs) (k:List Key):RelO (valV kvs k) ((atKey xs k).map (·.2)):=by
 induction r with
 | nil=>exact True.intro
 | @cons p q ps qs h t ih=>
  obtain⟨h1,_,h2⟩:=h
  by_cases e:p.1=k
  ·have e':q.1=k:=h1.symm.trans e
   have b:atKey (q::qs) k=some q.2:=by simp[atKey,List.find?_cons,e']
   rw[zc8 e,b]; exact h2
  ·have e':¬ q.1=k:=fun z=>e (h1.trans z)
   have b:atKey (q::qs) k=atKey qs k:=by simp[atKey,List.find?_cons,e']
   rw[zdi e,b]; exact ih
def KT.repl {H:Hp}{kvs:List (List Key×V)}{xs:List (List Key×Addr×Value)} (r:KT H kvs xs) (k:List Key) {y:V}{u:Value} (ry:RelV y u) :
  KT H (kvs.map fun kv=>if kv.1=k then (kv.1,y) else kv) (xs.map (putAt k u)):=by
 induction r with
 | nil=>exact .nil
 | @cons p q ps qs h t ih=>
  rw[AH,AH];refine .cons ?_ ih;obtain⟨h1,h2,h3⟩:=h;unfold putAt
  by_cases e:p.1=k
  ·rw[if_pos e,if_pos (h1.symm.trans e)]; exact⟨h1,h2,ry⟩
  ·rw[if_neg e,if_neg (fun z=>e (h1.trans z))]; exact⟨h1,h2,h3⟩
def KT.put {H:Hp}{kvs:List (List Key×V)}{xs:List (List Key×Addr×Value)} (r:KT H kvs xs) (k:List Key) {b:Addr}{y:V}{u:Value} (hb:H b=some (.tup (k.map kV))) (ry:RelV y u) :
  KT H (putK kvs k y) (storedH xs k b u):=by
 have e:(kvs.any fun kv=>decide (kv.1=k))=(atKey xs k).isSome:=by
  rw[ze6,(r.val k).isSome_eq,Option.isSome_map]
 unfold putK storedH;rw[e]
 by_cases q:(atKey xs k).isSome=true
 ·rw[if_pos q,if_pos q]; exact r.repl k ry
 ·rw[if_neg q,if_neg q]; exact Paired.snoc r ⟨rfl,hb,ry⟩
def KT.keeps {H H':Hp}{kvs:List (List Key×V)}{xs:List (List Key×Addr×Value)} (r:KT H kvs xs) (ht:∀b ys,H b=some (.tup ys)->H' b=some (.tup ys)):KT H' kvs xs:=
 Paired.mapP r fun _ _ z=>⟨z.1,ht _ _ z.2.1,z.2.2⟩
section
variable {P:Program}{w:World}{H:Hp}{h:Heap}{a:Addr}
def znt {u:HO} (ok:HOk P w H h) (e:Rd H a u):zx P w H h a u:=e.ok ok
def zhk {kvs:List (Key×V)} (ok:HOk P w H h) (e:Rd H a (.dK kvs)):kvs.length<=sizeLine/\(a == sysModules)=false/\∃vs,KV kvs vs/\h.DictOf (zu P w) a vs:=
 show zx P w H h a (.dK kvs) from znt ok e
def zmW {kvs:List (Key×V)} (ok:HOk P w H h) (e:H a=some (.dK kvs)):kvs.length<=sizeLine/\(a == sysModules)=false/\∃vs,KV kvs vs/\h.DictOf (zu P w) a vs:=zhk ok (.inl e)
def zcE {ks:List Key} (ok:HOk P w H h) (e:H a=some (.tup (ks.map kV))):(tupleKind (zu P w)).is h ks a:=by
 obtain⟨_,ah,r,o,h1,h2,n,h3⟩:=(show zx P w H h a (.tup (ks.map kV)) from ok a _ e);exact⟨o,ah.toArray,n,h1,h2,h3,by simpa using zdZ r⟩
def zh9 {kvs:List (List Key×V)} (ok:HOk P w H h) (e:Rd H a (.dT kvs)):kvs.length<=sizeLine/\(a == sysModules)=false/\
  ∃xs,KT H kvs xs/\h.DictOfH (tupleKind (zu P w)) a xs:=by
 obtain⟨z,y,xs,r,o,es,ep,h1,h2,h3,h4,h5⟩:=(show zx P w H h a (.dT kvs) from znt ok e);refine⟨z,y,xs,r,o,es,ep,h1,h2,h3,h4,fun x hx=>?_,h5⟩;have all:∀{l:List (List Key×V)} {m:List (List Key×Addr×Value)},KT H l m->∀x∈m,(tupleKind (zu P w)).is h x.1 x.2.1:=by
  intro l m q
  induction q with
  | nil=>intro x hx; exact nomatch hx
  | @cons p q ps qs hq t ih=>
   intro x hx;rcases List.mem_cons.mp hx with e | hx
   ·subst e
    exact zcE ok (by rw[<- hq.1]; exact hq.2.1)
   ·exact ih x hx
 exact all r x hx
def znv {kvs:List (List Key×V)} (ok:HOk P w H h) (e:H a=some (.dT kvs)):kvs.length<=sizeLine/\(a == sysModules)=false/\
  ∃xs,KT H kvs xs/\h.DictOfH (tupleKind (zu P w)) a xs:=zh9 ok (.inl e)
end
def DGet (H:Hp) (a:Addr) (y:V) (r:Option V):Prop:=
 (∃kvs k,Rd H a (.dK kvs)/\y=kV k/\r=valV kvs k) \/ ∃kvs k b,Rd H a (.dT kvs)/\y=.ref b/\H b=some (.tup (k.map kV))/\r=valV kvs k
def DPut (H:Hp) (a:Addr) (y v:V) (H':Hp):Prop:=
 (∃kvs k,H a=some (.dK kvs)/\y=kV k/\kvs.length<sizeLine/\H'=upd H a (.dK (putK kvs k v))) \/
 ∃kvs k b,H a=some (.dT kvs)/\y=.ref b/\H b=some (.tup (k.map kV))/\kvs.length<sizeLine/\H'=upd H a (.dT (putK kvs k v))
def DGet.k {H:Hp}{a:Addr}{kvs:List (Key×V)}{k:Key} (e:H a=some (.dK kvs)):DGet H a (kV k) (valV kvs k):=.inl ⟨kvs,k,.inl e,rfl,rfl⟩
def DGet.t {H:Hp}{a b:Addr}{kvs:List (List Key×V)}{k:List Key} (e:H a=some (.dT kvs)) (eb:H b=some (.tup (k.map kV))):DGet H a (.ref b) (valV kvs k):=.inr ⟨kvs,k,b,.inl e,rfl,eb,rfl⟩
def DPut.k {H:Hp}{a:Addr}{kvs:List (Key×V)}{k:Key}{v:V} (e:H a=some (.dK kvs)) (hl:kvs.length<sizeLine):DPut H a (kV k) v (upd H a (.dK (putK kvs k v))):=.inl ⟨kvs,k,e,rfl,hl,rfl⟩
def DPut.t {H:Hp}{a b:Addr}{kvs:List (List Key×V)}{k:List Key}{v:V} (e:H a=some (.dT kvs)) (eb:H b=some (.tup (k.map kV))) (hl:kvs.length<sizeLine) :
  DPut H a (.ref b) v (upd H a (.dT (putK kvs k v))):=.inr ⟨kvs,k,b,e,rfl,eb,hl,rfl⟩
section
variable {X:Cx}{aa:List (Addr×Obj)}{σ:St}{H:Hp}{s:Shared}{a:Addr}{y v:V}{u r:Value}{o:Option V}{A:Around}{E:Value->Shared->Prop}
def Inv.big (I:Inv X aa σ H s):sysModules<s.heap.objs.size:=by
 have h:mainGlobals<s.heap.objs.size:=(I.mod.glob.keeps I.bk).lt;exact Nat.lt_trans (by decide) h
def ziG {Q:Value->Shared->Prop} (hu:A.units+1<cLine) (I:Inv X aa σ H s) (g:DGet H a y (some v)) (ry:RelV y u) (h:∀w' s',Inv X aa σ H s'->RelV v w'->Q w' s') :
  wpAny (model X.prog X.w) A (getItem (.ref a) u) Q E s:=by
 rcases g with ⟨kvs,k,e,ey,l⟩ | ⟨kvs,k,b,e,ey,eb,l⟩
 ·subst ey
  obtain⟨z,hd,vs,rel,dd⟩:=zhk I.hok e;obtain⟨w',hw,dY⟩:=RelO.some_of (v:=v) (o:=valueAt vs k) (by rw[l]; exact rel.val k);exact wpAny_getItem_of (zi8 ry) dd.mapOf hw (h w' _ (I.tok _) dY)
 ·subst ey
  cases (show u=Value.ref b from ry);obtain⟨z,hd,xs,rel,dd⟩:=zh9 I.hok e;obtain⟨w',hw,dY⟩:=RelO.some_of (v:=v) (o:=(atKey xs k).map (·.2)) (by rw[l]; exact rel.val k);obtain⟨p,hp,dJ⟩:=Option.map_eq_some_iff.mp hw;refine wpAny_getItem_heap (tupleKind_room_in1 hu) (zcE I.hok eb) dd hp ?_;rw[dJ];exact h w' _ (I.tok _) dY
def zb4 {h':Heap}{t':Nat}{ob:HO} (I:Inv X aa σ H s) (mu:Mut (H a)) (hs:AC a s.heap h') (he:∃q,h'.get? a=some q) (new:zx X.prog X.w (upd H a ob) h' a ob) :
  Inv X aa σ (upd H a ob) { s with heap:=h',toks:=t' }:=
 I.write (x:=a) (e:=a) mu (.inl rfl) (fun b q hb z=>(hs.2 b hb).trans z) he new
def dk_new {P:Program}{w:World}{H':Hp}{h':Heap}{kvs:List (Key×V)}{vs:List (Key×Value)} (z:kvs.length<=sizeLine) (hd:(a == sysModules)=false) (rel:KV kvs vs) (dd:h'.DictOf (zu P w) a vs) :
  zx P w H' h' a (.dK kvs):=⟨z,hd,vs,rel,dd⟩
def zhD {H':Hp}{Q:Unit->Shared->Prop} (hu:A.units+1<cLine) (I:Inv X aa σ H s) (g:DPut H a y v H') (ry:RelV y u) (rv:RelV v r) (h:∀s',Inv X aa σ H' s'->Q () s') :
  wpAny (model X.prog X.w) A (setItem (.ref a) u r) Q E s:=by
 rcases g with ⟨kvs,k,e,ey,l,eH⟩ | ⟨kvs,k,b,e,ey,eb,l,eH⟩
 ·subst ey eH
  obtain⟨z,hd,vs,rel,dd⟩:=zmW I.hok e;have hz:vs.length<=sizeLine:=by rw[<- rel.length]; exact z
  have hl:(putK kvs k v).length<=sizeLine:=by have:=za7 kvs k v; omega
  refine wpAny_setItem_pairs (hsz:=hz) (zi8 ry) dd fun h' dz hs=>h _ ?_;have he:∃q,h'.get? a=some q:=let ⟨q,_,_,hq,_⟩:=dz; ⟨q,hq⟩;exact zb4 I (by rw[e]; exact True.intro) hs he (dk_new hl hd (rel.put k rv) dz)
 ·subst ey eH
  cases (show u=Value.ref b from ry);obtain⟨z,hd,xs,rel,dd⟩:=znv I.hok e;have hz:xs.length<=sizeLine:=by rw[<- AX rel]; exact z
  have hl:(putK kvs k v).length<=sizeLine:=by have:=za7 kvs k v; omega
  refine wpAny_setItem_heap (hsz:=hz) (tupleKind_room_in1 hu) (zcE I.hok eb) dd fun h' dz hs=>h _ ?_;obtain⟨q,es,ep,hq,h2,h3,h4,_,h5⟩:=dz;refine zb4 I (by rw[e]; exact True.intro) hs ⟨q,hq⟩ ⟨hl,hd,_,(rel.put k eb rv).keeps fun c ys ec=>?_,q,es,ep,hq,h2,h3,h4,h5⟩;rw[zh (zaX ec e (fun z=>nomatch z))];exact ec
end
section
variable {X:Cx}{aa:List (Addr×Obj)}{σ:St}{H:Hp}{s:Shared}{a:Addr}{kvs:List (Key×V)}{k:Key}{u:Value}{A:Around}{E:Value->Shared->Prop}
end
def NoSl (i:Expr):Prop:=∀ov iv,subscripted i false ov iv=operate [ov,iv] (getItem ov iv)
def zlm {prog:Program}{w:World}{A:Around}{E:Value->Shared->Prop}{s:Shared}{env:Env}{aK slice:Expr}{pos:Pos}{T id:String}{Q:Value->Shared->Prop}
  (hl:typeLookup (.type T) "__getitem__"=pure (some (.builtin id))) (hs:NoSl slice)
  (h:wpAny (model prog w) A (eval aK env) (fun o am=>wpAny (model prog w) A (eval slice env) (fun i az=>az.TypeIs o T/\wpAny (model prog w) A (getItem o i) Q E az) E am) E s) :
  wpAny (model prog w) A (eval (.Subscript aK slice pos) env) Q E s:=by
 refine Subscript_ (wpAny_mono h (fun o am aq=>wpAny_mono aq (fun i az bu=>?_) fun _ _ x=>x) fun _ _ x=>x);obtain⟨hT,bu⟩:=bu;unfold subscriptTail;refine Aa ?_;rw[getitemInPython_of_ne hT.not_modules];refine Aa (wpAny_specialOf hT hl ?_);have fin:wpAny (model prog w) A (subscripted slice false o i) (fun r jk=>wpAny (model prog w) A (letTemporaryGo aK o r >>= fun _=>pure r) Q E jk) E az:=by
  rw[hs o i];exact wpAny_operating (wpAny_mono bu (fun r jk cT=>Aa (wpAny_letTemporaryGo (Ac cT))) fun _ _ x=>x)
 first
  | exact Ac (Aa fin)
  | exact Aa (Ac (Aa fin))
  | exact Aa fin
def zek {X:Cx}{aa:List (Addr×Obj)}{σ:St}{H:Hp}{s:Shared}{a:Addr}{y:V}{o:Option V} (I:Inv X aa σ H s) (g:DGet H a y o):s.TypeIs (.ref a) "dict":=by
 rcases g with ⟨kvs,k,e,_,_⟩ | ⟨kvs,k,b,e,_,_,_⟩
 ·obtain⟨_,_,vs,_,dd⟩:=zhk I.hok e
  exact dd.typeIs
 ·obtain⟨_,_,xs,_,dd⟩:=zh9 I.hok e
  exact dd.typeIs
def zl4 (td ty:TE):TE:=fun σ H Q=>td σ H fun x H1=>ty σ H1 fun y H2=>∃a v,x=.ref a/\DGet H2 a y (some v)/\Q v H2
def znV (td ty tv:TE):TS:=fun D σ H=>tv σ H fun v H1=>td σ H1 fun x H2=>ty σ H2 fun y H3=>∃a H4,x=.ref a/\DPut H3 a y v H4/\D.nx σ H4
section
variable {X:Cx}{o i e aK:Expr}{pos aV d0:Pos}{td ty tv:TE}
def zbt (hu:X.A.units+1<cLine) (ho:PE X o td) (hi:PE X i ty) (hs:NoSl i):PE X (.Subscript o i pos) (zl4 td ty):=by
 intro aa s σ H Q I h;refine zlm PySem.F.slot_dict_getitem.lookup hs (thn (ho aa s σ H _ I h) fun u s1 ⟨x,H1,I1,rx,q1⟩=>thn (hi aa s1 σ H1 _ I1 q1) fun iv s2 ⟨y,H2,I2,ry,a,v,ex,g,q2⟩=>?_);subst ex;obtain rfl:u=Value.ref a:=rx;exact⟨zek I2 g,ziG hu I2 g ry fun w' s3 I3 dY=>⟨v,H2,I3,dY,q2⟩⟩
def za3 (hu:X.A.units+1<cLine) (ho:PE X o td) (hi:PE X i ty) (hv:PE X aK tv) (hs:swapsWith aK (some (.Subscript o i aV)) pos.line X.env=pure false) :
  PS X (.Assign [.Subscript o i aV] aK pos) (znV td ty tv):=by
 intro aa s σ H D I h;refine wpAny_Assign_Subscript (thn (hv aa s σ H _ I h) fun r s1 ⟨v,H1,I1,rv,q1⟩=>thn (ho aa s1 σ H1 _ I1 q1) fun u s2 ⟨x,H2,I2,rx,q2⟩=>thn (hi aa s2 σ H2 _ I2 q2) fun iv s3 ⟨y,H3,I3,ry,a,H4,ex,g,q3⟩=>?_) hs;subst ex;obtain rfl:u=Value.ref a:=rx;exact zhD hu I3 g ry rv fun s4 I4=>⟨σ,H4,I4,q3⟩
end
def zj8 {P:Program}{w:World}{H:Hp} (h:Heap) (hb:sysModules<h.objs.size):zx P w H (h.push { cls:=.type "dict",data:=.dict #[] }) h.objs.size (.dK []):=
 ⟨AQ _,beq_eq_false_iff_ne.mpr (Ne.symm (As hb)),[],.nil,Heap.DictOf.new h⟩
def ze5 {P:Program}{w:World}{H:Hp} (h:Heap) (hb:sysModules<h.objs.size):zx P w H (h.push { cls:=.type "dict",data:=.dict #[] }) h.objs.size (.dT []):=
 ⟨AQ _,beq_eq_false_iff_ne.mpr (Ne.symm (As hb)),[],.nil,_,#[],0,Ak _ rfl,⟨rfl,rfl,rfl⟩,rfl,rfl,List.nodup_nil⟩
def zmO:TE:=fun _ H Q=>∀p,H p=none->Q (.ref p) (upd H p (.dK []))
def znw:TE:=fun _ H Q=>∀p,H p=none->Q (.ref p) (upd H p (.dT []))
section
variable {X:Cx}{pos:Pos}
def zjf:PE X (.Dict [] [] pos) zmO:=fun aa s σ H Q I h=>
 wpAny_Dict_empty ⟨.ref s.heap.objs.size,_,I.laid (a:=s.heap.objs.size) (o:=.dK []) (t':=s.toks) (fun _ _ q=>Ae _ q) (Af _) (zj8 s.heap I.big),rfl,h _ (I.hok.fresh (Af _))⟩
def zaR:PE X (.Dict [] [] pos) znw:=fun aa s σ H Q I h=>
 wpAny_Dict_empty ⟨.ref s.heap.objs.size,_,I.laid (a:=s.heap.objs.size) (o:=.dT []) (t':=s.toks) (fun _ _ q=>Ae _ q) (Af _) (ze5 s.heap I.big),rfl,h _ (I.hok.fresh (Af _))⟩
end
def zil:List (TE×TE)->St->Hp->(List (V×V)->Hp->Prop)->Prop
 | [],_,H,Q=>Q [] H
 | (tk,tv)::r,σ,H,Q=>tk σ H fun x H1=>tv σ H1 fun y H2=>zil r σ H2 fun ps H3=>Q ((x,y)::ps) H3
abbrev VV:List (V×V)->List (Value×Value)->Prop:=Paired fun p q=>RelV p.1 q.1/\RelV p.2 q.2
def PPs (X:Cx) (pos:Pos) (keys:List (Option Expr)) (gT:List Expr) (fI:List (TE×TE)):Prop:=
 ∀(aa:List (Addr×Obj)) (s:Shared) (σ:St) (H:Hp) (Q:List (V×V)->Hp->Prop),Inv X aa σ H s->zil fI σ H Q->
  wpAny (model X.prog X.w) X.A (evalPairs (pairTrees keys gT X.env pos)) (fun vs s'=>∃ps H',Inv X aa σ H' s'/\VV ps vs/\Q ps H') X.xe s
def zc5 {X:Cx}{pos:Pos}:PPs X pos [] [] []:=fun aa s σ H Q I h=>pairTrees_nil_walk ⟨[],H,I,.nil,h⟩
def zaW {X:Cx}{pos:Pos}{k v:Expr}{ks:List (Option Expr)}{vs:List Expr}{tk tv:TE}{fI:List (TE×TE)} (hk:PE X k tk) (hv:PE X v tv) (hr:PPs X pos ks vs fI) :
  PPs X pos (some k::ks) (v::vs) ((tk,tv)::fI):=fun aa s σ H Q I h=>
 pairTrees_cons_walk (thn (hk aa s σ H _ I h) fun u s1 ⟨x,H1,I1,rx,q1⟩=>thn (hv aa s1 σ H1 _ I1 q1) fun w2 s2 ⟨y,H2,I2,ry,q2⟩=>
  thn (hr aa s2 σ H2 _ I2 q2) fun ws s3 ⟨ps,H3,I3,rel,q3⟩=>⟨(x,y)::ps,H3,I3,.cons ⟨rx,ry⟩ rel,q3⟩)
def zmk (kvs more:List (Key×V)):List (Key×V):=more.foldl (fun acc kv=>putK acc kv.1 kv.2) kvs
def KV.merge:∀{more:List (Key×V)}{rs:List (Key×Value)}{kvs:List (Key×V)}{vs:List (Key×Value)},KV more rs->KV kvs vs->KV (zmk kvs more) (merged vs rs):=by
 intro more rs kvs vs r;unfold KV at r
 induction r generalizing kvs vs with
 | nil=>intro q; exact q
 | @cons p q ps qs h t ih=>
  intro r0;have e:KV (putK kvs p.1 p.2) (stored vs q.1 q.2):=by
   have:=r0.put p.1 h.2;rw[<- h.1]; exact this
  exact ih e
structure M1 (X:Cx) (o:Expr) (m:Str) (aI:Pos) (e:Expr) (au:Pos):Prop where
 base:attributeBase o m X.env (eval o X.env)=eval o X.env
 few:((backTo au (starEach [e] X.env)).all (fun x=>!x.1) && (backToKw au (keywordEach [] X.env)).all (fun x=>x.1.isSome)
  && decide (([e]:List Expr).length+([]:List Keyword).length+(if ([]:List Keyword).isEmpty then 0 else 1)<30))=true
 line:(aI.endLine == au.line)=true
 trees:backTo au (starEach [e] X.env)=[(false,eval e X.env)]
structure M2 (X:Cx) (o:Expr) (m:Str) (aI:Pos) (e f:Expr) (au:Pos):Prop where
 base:attributeBase o m X.env (eval o X.env)=eval o X.env
 few:((backTo au (starEach [e,f] X.env)).all (fun x=>!x.1) && (backToKw au (keywordEach [] X.env)).all (fun x=>x.1.isSome)
  && decide (([e,f]:List Expr).length+([]:List Keyword).length+(if ([]:List Keyword).isEmpty then 0 else 1)<30))=true
 line:(aI.endLine == au.line)=true
 trees:backTo au (starEach [e,f] X.env)=[(false,eval e X.env),(false,eval f X.env)]
def IsD (H:Hp) (a:Addr):Prop:=(∃kvs,Rd H a (.dK kvs)) \/ ∃kvs,Rd H a (.dT kvs)
def zmd {X:Cx}{aa:List (Addr×Obj)}{σ:St}{H:Hp}{s:Shared}{a:Addr} (I:Inv X aa σ H s) (d:IsD H a) :
  s.TypeIs (.ref a) "dict"/\(∀b,Value.ref a=.ref b->∃ob,s.heap.get? b=some ob/\ob.dict=none)/\(a == sysModules)=false:=by
 rcases d with ⟨kvs,e⟩ | ⟨kvs,e⟩
 ·obtain⟨_,hd,vs,_,dd⟩:=zhk I.hok e
  refine⟨dd.typeIs,fun b q=>?_,hd⟩;cases q;obtain⟨ob,_,_,h1,h2,_⟩:=dd;exact⟨ob,h1,h2.2.1⟩
 ·obtain⟨_,hd,xs,_,dd⟩:=zh9 I.hok e
  refine⟨dd.typeIs,fun b q=>?_,hd⟩;cases q;obtain⟨ob,_,_,h1,h2,_⟩:=dd;exact⟨ob,h1,h2.2.1⟩
section
variable {X:Cx}{aa:List (Addr×Obj)}{σ:St}{H:Hp}{s:Shared}{a:Addr}{y d:V}{u r:Value}{o:Option V}{A:Around}{E:Value->Shared->Prop}
def zmU {Q:Value->Shared->Prop} (hu:A.units+1<cLine) (I:Inv X aa σ H s) (g:DGet H a y o) (ry:RelV y u) (rd:RelV d r) (h:∀w' s',Inv X aa σ H s'->RelV (o.getD d) w'->Q w' s') :
  wpAny (model X.prog X.w) A (call (.builtin "dict.get") [.ref a,u,r]) Q E s:=by
 rcases g with ⟨kvs,k,e,ey,l⟩ | ⟨kvs,k,b,e,ey,eb,l⟩
 ·subst ey
  obtain⟨z,hd,vs,rel,dd⟩:=zhk I.hok e;refine call_meetsIn PySem.F.slot_dict_get dd.typeIs PySem.F.entry_dict_get (PySem.F.args_dict_get_3 _ _ _) (meets_dict_get_default (zu X.prog X.w) a (zi8 ry) hd r) ⟨_,dd.mapOf,h _ _ (I.tok _) ?_⟩;rw[l];exact (rel.val k).getD rd
 ·subst ey
  cases (show u=Value.ref b from ry);obtain⟨z,hd,xs,rel,dd⟩:=zh9 I.hok e;refine call_meetsIn PySem.F.slot_dict_get dd.typeIs PySem.F.entry_dict_get (PySem.F.args_dict_get_3 _ _ _) (meetsH_dict_get_default (tupleKind (zu X.prog X.w)) a b hd r) ⟨tupleKind_room_in1 hu,k,xs,zcE I.hok eb,dd,h _ _ (I.tok _) ?_⟩;rw[l];exact (rel.val k).getD rd
end
def zkf (td ty tx:TE):TE:=fun σ H Q=>td σ H fun x H1=>∃a,x=.ref a/\IsD H1 a/\ty σ H1 fun y H2=>tx σ H2 fun z H3=>∃o,DGet H3 a y o/\Q (o.getD z) H3
section
variable {X:Cx}{o e f:Expr}{aI au:Pos}{td ty tx:TE}
def zfr (hu:X.A.units+1<cLine) (ho:PE X o td) (he:PE X e ty) (hf:PE X f tx) (m:M2 X o "get" aI e f au):PE X (.Call (.Attribute o "get" aI) [e,f] [] au) (zkf td ty tx):=by
 intro aa s σ H Q I h;refine wpAny_Call_method m.base m.few m.line PySem.F.plainAttrs_dict PySem.F.slot_dict_get PySem.F.type_dict_get (thn (ho aa s σ H _ I h) fun u s1 ⟨x,H1,I1,rx,a,ex,d,q1⟩=>?_);subst ex;obtain rfl:u=Value.ref a:=rx;obtain⟨t1,t2,_⟩:=zmd I1 d;refine⟨t1,t2,?_⟩;rw[m.trees];refine Calls.callWith_builtin rfl (Calls.evalArgs_plain (Calls.spliced_cons (thn (he aa s1 σ H1 _ I1 q1) fun iv s2 ⟨y,H2,I2,ry,q2⟩=>
  Calls.spliced_cons (thn (hf aa s2 σ H2 _ I2 q2) fun fv s3 ⟨z,H3,I3,rz,ov,g,q3⟩=>Calls.spliced_nil ?_))))
 exact zmU hu I3 g ry rz fun w' s4 I4 dY=>⟨_,H3,I4,dY,q3⟩
end
section
variable {X:Cx}{aa:List (Addr×Obj)}{σ:St}{H:Hp}{s:Shared}{a:Addr}{kvs:List (Key×V)}{A:Around}{E:Value->Shared->Prop}
end
section
variable {X:Cx}{aa:List (Addr×Obj)}{σ:St}{H:Hp}{s:Shared}{a:Addr}{y:V}{u:Value}{A:Around}{E:Value->Shared->Prop}
end
end L2
namespace Att
open PySem PySem.W PySem.Calls PyProof.Rows
def zcf {P:Params}{h:Heap}:∀(ns:List Int) (vs:List Value),WellAll P h vs (ns.map WData.int)->IntsAre vs ns:=by
 intro ns
 induction ns with
 | nil=>
  intro vs w;rw[List.map_nil] at w;cases w;exact .nil
 | cons n ns ih=>
  intro vs w;rw[AH] at w;cases w with
  | cons a b=>
   cases a;exact .cons _ _ (ih _ b)
def zh1 {l:OpenLaw}{n:Nat} (hn:l.most=some n) {P:Params}{h:Heap}{args:List WData}{vals:List Value}
  (fA:l.row.toRowW.claim.pre args=true) (gG:WellAll P h vals args) :
  ∃a vs ns,vals=[Value.ref a]/\args=[WData.list (ns.map WData.int)]/\h.get? a=some { cls:=.type "list",data:=.seq vs.toArray }/\IntsAre vs ns/\ns.length<=n:=by
 have hsh:WShape.hasAll [] args [.list .int]=true:=(pre_splitW fA).1;have hc:l.pre.holds [] { args:=args }=true:=(pre_splitW fA).2;obtain⟨d,r,rfl,h1,h2⟩:=hasAllW_cons hsh;obtain rfl:=hasAllW_nil h2;obtain⟨xs,rfl,h3⟩:=hasW_list h1;obtain⟨ns,rfl⟩:=items_int h3;have hlen:ns.length<=n:=by
  unfold OpenLaw.pre at hc;have h4:(WTm.not (.lt (.lit (.int (n:Int))) (.len (.arg 0)))).holds [] { args:=[.list (ns.map .int)] }=true:=by
   have h4:=(holds_andW hc).1;rw[hn] at h4;exact h4
  have h5:=condW_of h4 (w_not (w_lt w_lit (w_len_list (w_arg rfl))));rw[Ab] at h5;refine Nat.le_of_not_lt fun q=>?_;have q':(n:Int)<((ns.length:Nat):Int):=by omega
  first
   | (rw[decide_eq_true q'] at h5; exact absurd h5 (by decide))
   | (simp at h5; omega)
 cases gG with
 | cons w1 w2=>
  cases w2;cases w1 with
  | list ho hall=>exact⟨_,_,ns,rfl,rfl,ho,zcf ns _ hall,hlen⟩
def zh4 (l:OpenLaw) (args:List WData):l.row.toRowW.claim.post args (.bool true) args=true:=
 postW_of (r:=l.row.toRowW) (X:=(true == true))
  (show WShape.has [] (.bool true) .bool=true by first | rfl | decide | simp[WShape.has,WShape.arms,WShape.armsAll])
  (show (WTm.eq .res (.lit (.bool true))).value [] { args:=args,res:=some (.bool true),after:=args }=some (.bool (true == true)) from w_eq_bool (w_res rfl) w_lit) rfl
def zeE {l:OpenLaw}{n:Nat}{q:Program}{bR:List Str}{XP:(Str->Option Value)->Heap->Prop}{YP:World->Heap->Prop}{d:DefRec}
  (hn:l.most=some n) (jd:d.params.defaults=[])
  (call:∀(w:World) (s₀ am:Shared) (mg mb:Str->Option Value) (fa:Addr) (o:Obj) (pm cd bc:Value) (a:Addr) (vs:List Value) (ns:List Int),
   Ground q bR [] XP w s₀ mg mb am.heap->YP w am.heap->
   am.heap.get? fa=some o->o.data=.func (docDef d.name d.params d.body d.scope pm cd bc)->am.heap.CodeRec cd d.name->mg d.name=some (.ref fa)->
   am.heap.get? a=some { cls:=.type "list",data:=.seq vs.toArray }->IntsAre vs ns->ns.length<=n->am.gens=#[]->
   codeAny (model l.prog w) callerA (.call (.ref fa) ⟨[.ref a],[]⟩) (fun r s'=>r=.ok (.ret (.bool true))/\OldK am.heap s'.heap/\s'.os=am.os/\AllBare s'.gens) am) :
  WalkO q bR XP YP l.row.toRowW d [] (fun f vs=>PySem.call f vs):=by
 intro w s₀ am mg mb G Y fa o pm cd bc dV kV ho hd bJ hD gZ hg args vals as fA wb yy gG dj;obtain rfl:dV=.none:=Dflts.none hD jd;obtain rfl:kV=.none:=Dflts.noKw hD;obtain⟨a,vs,ns,rfl,rfl,gE,eI,hlen⟩:=zh1 hn fA gG;refine enter_call (codeAny_mono (call w s₀ am mg mb fa o pm cd bc a vs ns G Y ho (fd_plain hd) bJ gZ gE eI hlen hg) fun r s' hq=>?_);obtain⟨rfl,h2,h3,h4⟩:=hq;exact⟨.inl ⟨.bool true,.bool true,[],rfl,fun _=>rfl,.bool true,zh4 l _,fun _=>⟨List.Pairwise.nil,fun _ hm=>(nomatch hm)⟩⟩,h2,h3,h4⟩
section
variable {prog:Program}{w:World}{A:Around}{E:Value->Shared->Prop}{s:Shared}{K:Frag}
def ledger (h:Heap) (L d:Addr):List (Addr×Obj):=(A6 h.objs.size).filterMap fun a=>if a=L \/ a=d then none else (h.get? a).map fun o=>(a,o)
end
end Att
namespace L2
open PySem PySem.Spec PyProof.Rows
def zdY:∀{vs:List Value}{ns:List Int},IntsAre vs ns->Vals (ns.map V.int) vs
 | _,_,.nil=>.nil
 | _,_,.cons n t h=>.cons ⟨t,rfl⟩ (zdY h)
def Only (H:Hp):Prop:=∀b,H b=none \/ ∃o xs,H b=some (.frz o (.lst xs))
def zjQ {P:Program}{w:World}{K:Ad}{mg mb:Str->Option Value}{CX:CXT}{k:Nat}{fa a:Addr}{fd:FuncData}{x:Str}{sp:Sp}{am:Shared}{vs:List Value}{ns:List Int}
  (KX:K.In am.heap) (pT:am.heap.Ns mainGlobals mg) (hb:am.heap.Ns builtinsNs mb) (sG:∀x:Str,x≠"__name__"->mb x=AW x) (l6:am.heap.NoLimit) (hg:am.gens=#[])
  (ha:am.heap.get? a=some { cls:=.type "list",data:=.seq vs.toArray }) (hi:IntsAre vs ns) (hl:ns.length<=sizeLine) (hr:Room k callerA)
  (F:∀base:Heap,K.In base->base.Ns mainGlobals mg->FnOk P w K mg base CX k fa fd [x] sp) (i4:∀(s:Shared) (u:Value),BindsTo s fd ⟨[u],[]⟩ [(x,u)])
  (cY:∀H:Hp,Only H->SqL K H a (ns.map V.int)->sp [.ref a] H (fun v _=>v=.bl true) fun _ _ _=>False)
  (lz:∀H e s',CX [] H am (fun _ _ _=>False) e s'->False) :
  codeAny (model P w) callerA (.call (.ref fa) ⟨[.ref a],[]⟩) (fun r s'=>r=.ok (.ret (.bool true))/\OldK am.heap s'.heap/\s'.os=am.os/\AllBare s'.gens) am:=by
 have rv:=zdY hi;have nR:=hi.length;have jc:∀H:Hp,Only H->SqL K H a (ns.map V.int)->HOk P w H am.heap->(∀b,H b≠none->b=a)->(H a≠none->K.lookup a=none)->
   codeAny (model P w) callerA (.call (.ref fa) ⟨[.ref a],[]⟩) (fun r s'=>r=.ok (.ret (.bool true))/\OldK am.heap s'.heap/\s'.os=am.os/\AllBare s'.gens) am:=by
  intro H hO hS hok hA hK;have c_:∀{b:Addr} {o:Obj},am.heap.get? b=some o->H b=none->(hidT am.heap H).get? b=some o:=fun e n=>zjK e n;have jG:∀{b:Addr} {o:Obj} {es:Array DictEntry} {ep:Nat},am.heap.get? b=some o->o.data=.dict es ep->H b=none:=fun {b o es ep} e d=>by
   cases q:H b with
   | none=>rfl
   | some u=>
    have e':b=a:=hA b (by rw[q]; simp);subst e';rw[ha] at e; cases e;have d':Data.seq vs.toArray _=Data.dict es ep:=d;cases d'
  have nsK:∀{b:Addr} {m:Str->Option Value},am.heap.Ns b m->(hidT am.heap H).Ns b m:=fun {b m} ⟨o,es,ep,e,d,r⟩=>⟨o,es,ep,c_ e (jG e d),d,r⟩;have qf:K.In (hidT am.heap H):=fun b o e=>c_ (KX b o e) (by
   cases q:H b with
   | none=>rfl
   | some u=>
    have e':b=a:=hA b (by rw[q]; simp);subst e';rw[hK (by rw[q]; simp)] at e; cases e)
  have hM:Mod K mg (hidT am.heap H):=⟨qf,nsK pT,⟨mb,nsK hb,sG⟩,let ⟨mc,h1,h2⟩:=l6; ⟨mc,nsK h1,h2⟩⟩;have e0:Env0 P w K mg (hidT am.heap H) callerA [] am H:=⟨rfl,hM,fun b o e=>zlK e,Nat.le_of_eq (zhF _ _),trivial,fun b hb=>absurd (show b∈([]:List Addr) from hb) (by simp),hok,.of_eq hg⟩;refine codeAny_mono ((F _ qf (nsK pT)).run callerA [] am H ⟨[.ref a],[]⟩ [.ref a] [.ref a] _ _ hr e0 (i4 am (.ref a)) (.cons rfl .nil) (cY H hO hS)) fun r s' h=>?_;cases r with
  | error e=>exact (lz H e s' h).elim
  | ok fl=>
   cases fl with
   | next=>exact False.elim h
   | brk=>exact False.elim h
   | cont=>exact False.elim h
   | ret u=>
    obtain⟨v,H',os,bare,un,lY,r',q⟩:=h;have q':v=.bl true:=q;subst q';obtain rfl:u=Value.bool true:=r';refine⟨rfl,OldK.of_keep fun b o e=>?_,os,bare⟩;cases q:H b with
    | none=>exact un.keep b o e q (by intro z; exact absurd (show b∈([]:List Addr) from z) (by simp)) (by simp)
    | some u=>
     rcases hO b with z | ⟨ob,xs,z⟩
     ·rw[q] at z; cases z
     ·have z2:=un.frzs b ob _ z
      obtain⟨e1,_⟩:=hok b _ z;obtain⟨e2,_⟩:=lY b _ z2;rw[e] at e1; cases e1;exact e2
 cases hk:K.lookup a with
 | some o=>
  have e:=KX a o hk;rw[ha] at e;cases e;refine jc (fun _=>none) (fun _=>.inl rfl) (.inr ⟨_,vs.toArray,_,hk,rfl,rfl,rfl,by rw[Ag,nR]; exact hl,by simpa using rv⟩) (fun b u z=>by have z':(none:Option HO)=some u:=z; cases z') (fun b z=>absurd rfl z) fun z=>absurd rfl z
 | none=>
  refine jc (fun b=>if b=a then some (.frz { cls:=.type "list",data:=.seq vs.toArray } (.lst (ns.map V.int))) else none) (fun b=>?_) (.inl (.inr ⟨{ cls:=.type "list",data:=.seq vs.toArray },if_pos rfl⟩)) (fun b u z=>?_) (fun b z=>?_) fun _=>hk
  ·by_cases hb:b=a
   ·exact .inr ⟨_,_,if_pos hb⟩
   ·exact .inl (if_neg hb)
  ·by_cases hb:b=a
   ·have z':=(if_pos hb).symm.trans z
    cases z';subst hb;exact⟨ha,by rw[Ab]; exact hl,vs,_,rv,ha⟩
   ·have z':=(if_neg hb).symm.trans z
    cases z'
  ·by_cases hb:b=a
   ·exact hb
   ·exact absurd (if_neg hb) z
end L2
namespace L2
open PySem PySem.Spec PyProof.Rows
abbrev KOf {K:Ad}{h:Heap} (_:K.In h):Ad:=K
def zhg {l:PySem.W.OpenLaw}{n k:Nat}{q:Program}{bR:List Str}{XP:(Str->Option Value)->Heap->Prop}{YP:World->Heap->Prop}{d:DefRec}{K:Params->Ad}{CX:World->CXT}{sp:World->Sp}{x:Str}
  (hn:l.most=some n) (ko:n<=sizeLine) (jd:d.params.defaults=[]) (hr:Room k callerA)
  (hY:∀(w:World) (h:Heap),YP w h->(K w.params).In h)
  (F:∀(w:World) (mg:Str->Option Value) (fa:Addr) (h:Heap),(K w.params).In h->h.Ns mainGlobals mg->mg d.name=some (.ref fa)->
   ∃fd:FuncData,(∀(s:Shared) (u:Value),BindsTo s fd ⟨[u],[]⟩ [(x,u)])/\
    ∀base:Heap,(K w.params).In base->base.Ns mainGlobals mg->FnOk l.prog w (K w.params) mg base (CX w) k fa fd [x] (sp w))
  (cY:∀(w:World) (H:Hp) (a:Addr) (ns:List Int),ns.length<=n->Only H->SqL (K w.params) H a (ns.map V.int)->sp w [.ref a] H (fun v _=>v=.bl true) fun _ _ _=>False)
  (lz:∀(w:World) (H:Hp) (s:Shared) (e:Value) (s':Shared),CX w [] H s (fun _ _ _=>False) e s'->False) :
  PySem.W.WalkO q bR XP YP l.row.toRowW d [] (fun f vs=>PySem.call f vs):=by
 refine Att.zeE hn jd fun w s₀ am mg mb fa o pm cd bc a vs ns G Y ho hd bJ gZ gE eI hlen hg=>?_;have KX:=hY w _ Y;obtain⟨fd,hb,hF⟩:=F w mg fa _ KX G.T.g gZ;exact zjQ KX G.T.g G.T.b G.T.builtins G.T.nolimit hg gE eI (AA hlen ko) hr hF hb (fun H hO hS=>cY w H a ns hlen hO hS) fun H e s'=>lz w H am e s'
end L2
/- THE LAST THEOREM (shape; LID,My.* are yours):
  My.Adr: a structure of j7 addresses that your layer names (classes,functions); My.Txt K t: a structure (Prop) of j7 equations over K;
  My.txt_mk:{K} {implicit addresses ..} (e1:nsIn K mainGlobals "law"=some (some (.ref f))) (e2:K.lookup f=some ⟨oc,od,.func (fnOf "law" "law" be body scope dV kV bc pm an cdv ct),sl⟩) (e3:codeIn K cdv "law"=true) ..:∃t,My.Txt K t
set_option maxRecDepth 100000 in
set_option maxHeartbeats 0 in
theorem PySem.Challenge.cw_LID_holds:PySem.Challenge.rw_LID.Holds := by
 w_on; o_law; k_head; (case hw=>w_witness2)
 k_fill
 refine L2.zhg (l:=PySem.Challenge.rw_LID) (n:=63) (k:=40) (x:="script") (CX:=fun w=>..) (sp:=fun _=>My.sp_law) rfl (by decide) rfl ⟨rfl,by decide,by decide⟩ (fun w h Y=>PySem.W.kIn_of Y) ?F ?S ?C
 case F=>
  intro w mg fa h KX G gZ;have T:∃t,My.Txt (L2.KOf KX) t:=by
   dsimp only[L2.KOf]                          -- K must cp as «<heap const> w.params» for k_is
   refine' My.txt_mk ?e1 ?e2 ?e3 ..
   (case e1 => PySem.W.k_is)                    -- in j7 ay: a name -> ah address -> ah object -> ah parts
   (case e2=>PySem.W.k_is)
   ..
  obtain⟨t,T⟩:=T;have e0:=gZ.symm.trans (PySem.W.mg_of KX G T.law);cases e0                                       -- fa is j7 law's own address
  exact⟨_,fun s u => .of_eq rfl,fun base kb nb => My.law_fn T kb nb⟩     -- if «.of_eq rfl» comes too early: refine' ⟨_,?b,fun base kb nb => My.law_fn T kb nb⟩; exact fun s u => .of_eq rfl
 case S=>exact fun w H a ns hl hO hS=>..
 case C=>exact ..
(j7 tactic k_is has no namespace: write k_is) -/
namespace L2
open PySem PySem.Spec PyProof.Rows
def zbv (s:Stmt):Arguments:=match s with
 | .FunctionDef _ a _ _ _ _ _ _ _ _=>a
 | _=>{ posonlyargs:=[],args:=[],vararg:=none,kwonlyargs:=[],kw_defaults:=[],kwarg:=none,defaults:=[] }
def zH (s:Stmt):List Stmt:=match s with
 | .FunctionDef _ _ b _ _ _ _ _ _ _=>b
 | _=>[]
def zf (s:Stmt):Scope:=match s with
 | .FunctionDef _ _ _ _ _ _ sc _ _ _=>sc
 | _=>{ kind:=.function,names:=[],isGenerator:=false,isCoroutine:=false }
abbrev CX0:CXT:=fun _ _ _ _ _ _=>False
abbrev E0:XK:=fun _ _ _=>False
def pass0 {X:Cx}:Passes CX0 X E0:=fun _ _ _ _ _ _ _ h=>h.elim
structure Fun (K:Ad) (x al:Str) (st:Stmt) (f:Addr) (fd:FuncData):Prop where
 ex:∃(oc:Value) (od:Option Addr) (kV bc pm:Value) (an:Option Addr) (cdv ct:Value) (dl:Array (Option Value)),
  fd=PySem.W.fnOf x al (zbv st) (zH st) (zf st) .none kV bc pm an cdv ct/\K.lookup f=some ⟨oc,od,.func fd,dl⟩/\PySem.W.codeIn K cdv al=true
 kp:PySem.W.keepIn K (.ref f)=true
section
variable {P:Program}{w:World}{K:Ad}{mg:Str->Option Value}{base:Heap}
def Fun.ok {x al:Str}{st:Stmt}{f:Addr}{fd:FuncData}{N ps:List Str}{k:Nat}{sp:Sp} (F:Fun K x al st f fd) (S:zi N ps (zf st)) (len:∀vs H Q E,sp vs H Q E->vs.length=ps.length)
  (a9:∀(cdv:Value) (A:Around) (outer:List Env) (s:Shared) (H:Hp) (vs:List V) (Q:VK) (E:XK),Room k (A.deeper (envOfC al (zf st) s.heap.objs.size f cdv))->sp vs H Q E->
   ∃t,PSs (cxOf CX0 P w K mg base N al (zf st) f cdv A outer s H E).nox (zH st) t/\t { nx:=fun _ H'=>Q .non H',rt:=Q } (start N vs) H):FnOk P w K mg base CX0 (k+1) f fd ps sp:=by
 obtain⟨oc,od,kV,bc,pm,an,cdv,ct,dl,rfl,lk,bJ⟩:=F.ex;refine zmc lk bJ S len fun A outer s H vs Q E hr cY=>?_;obtain⟨t,h,q⟩:=a9 cdv A outer s H vs Q E hr cY;exact⟨t,h.nox,q⟩
def Fun.binds {x al:Str}{st:Stmt}{f:Addr}{fd:FuncData}{ps:List Str} (F:Fun K x al st f fd)
  (h:∀(kV bc pm:Value) (an:Option Addr) (cdv ct:Value) (us:List Value),us.length=ps.length->bindArgs (PySem.W.fnOf x al (zbv st) (zH st) (zf st) .none kV bc pm an cdv ct) ⟨us,[]⟩=pure (ps.zip us)):Binds K fd ps []:=by
 obtain⟨oc,od,kV,bc,pm,an,cdv,ct,dl,rfl,lk,bJ⟩:=F.ex;exact .all (h kV bc pm an cdv ct)
def zmI {x al:Str}{st:Stmt}{f:Addr}{oc:Value}{od an:Option Addr}{dl:Array (Option Value)}{kV bc pm cdv ct:Value} (l:K.lookup f=some ⟨oc,od,.func (PySem.W.fnOf x al (zbv st) (zH st) (zf st) .none kV bc pm an cdv ct),dl⟩)
  (c:PySem.W.codeIn K cdv al=true) (k:PySem.W.keepIn K (.ref f)=true):Fun K x al st f (PySem.W.fnOf x al (zbv st) (zH st) (zf st) .none kV bc pm an cdv ct):=⟨⟨oc,od,kV,bc,pm,an,cdv,ct,dl,rfl,l,c⟩,k⟩
end
def zbE {A:Around}{k:Nat} (hr:Room k A):A.units+1<cLine:=Nat.lt_of_le_of_lt (Nat.add_le_add_left (by decide:1<=64) _) hr.units
section
variable {X:Cx}
def pv (i:Nat) {x:Str}{pos:Pos} (hN:X.N[i]?=some x:=by rfl) (hv:Vis X.env.scope x:=by first | exact Or.inl rfl | exact Or.inr (Or.inl rfl) | exact Or.inr (Or.inr rfl)) (hd:(x == ("__debug__":Str))=false:=by decide)
  (bJ:(x == ("__classdict__":Str))=false:=by decide):PE X (.Name x pos) (tVar i):=zmR hN hv hd bJ
end
def iteF {A B:Prop} (h:B):if false=true then A else B:=by
 rw[if_neg Ao];exact h
def iteT {A B:Prop} (h:A):if true=true then A else B:=by
 rw[if_pos rfl];exact h
def ite2 {c A B:Prop} [Decidable c] (h1:c->A) (h2:¬ c->B):if c then A else B:=by
 by_cases h:c
 ·rw[if_pos h]
  exact h1 h
 ·rw[if_neg h]
  exact h2 h
def Same (H H':Hp):Prop:=∀b o,H b=some o->H' b=some o
def Same.refl (H:Hp):Same H H:=fun _ _ h=>h
def Same.trans {H H1 H2:Hp} (a:Same H H1) (b:Same H1 H2):Same H H2:=fun c o h=>b c o (a c o h)
def Same.free {H H':Hp} (e:Same H H') {l:Addr} (h:H' l=Option.none):H l=Option.none:=by
 cases q:H l with
 | none=>rfl
 | some o=>
  rw[e l o q] at h;cases h
def Same.seq {K:Ad}{H H':Hp}{a:Addr}{xs:List V} (e:Same H H') (h:SqL K H a xs):SqL K H' a xs:=by
 rcases h with (h | ⟨o,h⟩) | h
 ·exact .inl (.inl (e _ _ h))
 ·exact .inl (.inr ⟨o,e _ _ h⟩)
 ·exact .inr h
section
variable {X:Cx}
end
section
variable {κ:Type} [DecidableEq κ]
end
end L2
end
section
namespace Tim
open PySem PyProof.Rows
def R (ρ:Keyed->Int) (xs:Array Keyed) (i:Nat):Int:=match xs[i]? with
 | some p=>ρ p
 | none=>0
def zb3 {ρ:Keyed->Int}{xs ys:Array Keyed}{i j:Nat} (h:xs[i]?=ys[j]?):R ρ xs i=R ρ ys j:=by unfold R; rw[h]
def R_at {ρ:Keyed->Int}{xs:Array Keyed}{i:Nat}{p:Keyed} (h:xs[i]?=some p):R ρ xs i=ρ p:=by unfold R; rw[h]
def Srt (ρ:Keyed->Int) (xs:Array Keyed) (lo hi:Nat):Prop:=∀i j,lo<=i->i<=j->j<hi->R ρ xs i<=R ρ xs j
def Dsc (ρ:Keyed->Int) (xs:Array Keyed) (lo hi:Nat):Prop:=∀i j,lo<=i->i<=j->j<hi->R ρ xs j<=R ρ xs i
def zdk {ρ:Keyed->Int}{xs:Array Keyed}{i j:Nat} (hj:j<=xs.size) (k:Nat) :
  R ρ (mirror xs i j ((j - i) / 2)) k=if i<=k/\k<j then R ρ xs (i+j - 1 - k) else R ρ xs k:=by
 have e:=getElem?_mirror_all (i:=i) hj k
 by_cases h1:i<=k/\k<j
 ·rw[if_pos h1] at e ⊢; exact zb3 e
 ·rw[if_neg h1] at e ⊢; exact zb3 e
def zP {ρ:Keyed->Int}{xs:Array Keyed}{i j:Nat} (hj:j<=xs.size) (qz:∀k,i<=k->k<j->R ρ xs k=R ρ xs (j - 1)) (k:Nat) :
  R ρ (mirror xs i j ((j - i) / 2)) k=R ρ xs k:=by
 rw[zdk hj];split
 ·rw[qz _ (by omega) (by omega),qz k (by omega) (by omega)]
 ·rfl
def zeS {ρ:Keyed->Int}{xs:Array Keyed}{src d:Nat} (hs:src<xs.size) (hd:d<=src) (k:Nat) :
  R ρ (bubble xs src d) k=if k=src - d then R ρ xs src else if src - d<k/\k<=src then R ρ xs (k - 1) else R ρ xs k:=by
 have e:=getElem?_bubble hs d hd k
 by_cases h1:k=src - d
 ·rw[if_pos h1] at e ⊢; exact zb3 e
 ·rw[if_neg h1] at e ⊢
  by_cases h2:src - d<k/\k<=src
  ·rw[if_pos h2] at e ⊢; exact zb3 e
  ·rw[if_neg h2] at e ⊢; exact zb3 e
structure Cmp (prog:Program) (w:World) (A:Around) (s:Shared) (κ:SortKind) (a₀:Array Keyed) (ρ:Keyed->Int):Prop where
 lt:∀x y,x∈a₀.toList->y∈a₀.toList->∀(Q:Bool->Shared->Prop) (E:Value->Shared->Prop),Q (decide (ρ x<ρ y)) s->wpAny (model prog w) A (keyLt' κ x.1 y.1) Q E s
structure B (κ:SortKind) (a₀:Array Keyed) (st:SortSt):Prop where
 perm:(arrOf st).Perm a₀
 kind:kindOf st=κ
 failed:failedOf st=none
def B.size {κ:SortKind}{a₀:Array Keyed}{st:SortSt} (h:B κ a₀ st):(arrOf st).size=a₀.size:=h.perm.size_eq
def B.setArr {κ:SortKind}{a₀:Array Keyed}{st:SortSt} (h:B κ a₀ st) {xs:Array Keyed} (hp:xs.Perm (arrOf st)):B κ a₀ (setArr st xs):=⟨hp.trans h.perm,h.kind,h.failed⟩
def B.mem {κ:SortKind}{a₀:Array Keyed}{st:SortSt} (h:B κ a₀ st) {p:Keyed} (hp:p∈(arrOf st).toList):p∈a₀.toList:=(Array.perm_iff_toList_perm.mp h.perm).mem_iff.mp hp
def zkw {xs:Array Keyed}{i:Nat} (hi:i<xs.size):∃p,xs[i]?=some p/\p∈xs.toList:=⟨xs[i],getElem?_pos _ i hi,by simp⟩
structure Pre (lo:Nat) (st ak:SortSt):Prop where
 arr:∀k,k<lo->(arrOf ak)[k]?=(arrOf st)[k]?
 pend:pendingOf ak=pendingOf st
def Pre.refl {lo:Nat}{st:SortSt}:Pre lo st st:=⟨fun _ _=>rfl,rfl⟩
def Pre.trans {lo:Nat}{a b c:SortSt} (x:Pre lo a b) (y:Pre lo b c):Pre lo a c:=⟨fun k h=>(y.arr k h).trans (x.arr k h),y.pend.trans x.pend⟩
def Pre.mir {lo i j:Nat}{st:SortSt} (hj:j<=(arrOf st).size) (hi:lo<=i):Pre lo st (setArr st (mirror (arrOf st) i j ((j - i) / 2))):=
 ⟨fun k h=>by show (mirror _ _ _ _)[k]?=_; rw[getElem?_mirror_all hj,if_neg (by omega)],rfl⟩
def Pre.bub {lo src d:Nat}{st:SortSt} (hs:src<(arrOf st).size) (hd:d<=src) (hl:lo<=src - d):Pre lo st (setArr st (bubble (arrOf st) src d)):=
 ⟨fun k h=>by show (bubble _ _ _)[k]?=_; rw[getElem?_bubble hs d hd,if_neg (by omega),if_neg (by omega)],rfl⟩
section
variable {prog:Program}{w:World}{A:Around}{E:Value->Shared->Prop}{s:Shared}{κ:SortKind}{a₀:Array Keyed}{ρ:Keyed->Int}
def znP (C:Cmp prog w A s κ a₀ ρ) {st:SortSt} (hB:B κ a₀ st) {x y:Keyed} (hx:x∈a₀.toList) (hy:y∈a₀.toList) {Q:Option Bool->SortSt->Prop} (h:Q (some (decide (ρ x<ρ y))) st) :
  wpS (model prog w) A E s (lt' x y) Q st:=by
 rw[lt'_eq];refine wpS_bind (wpS_get ?_);rw[hB.kind];refine wpS_bind (wpS_lift (wpAny_attempt (C.lt x y hx hy _ _ ⟨rfl,?_⟩)));exact wpS_pure h
def zhC {st:SortSt}{xs:Array Keyed}{i:Nat}{p:Keyed} (h:xs[i]?=some p) {Q:Keyed->SortSt->Prop} (hq:Q p st):wpS (model prog w) A E s (elem' xs i) Q st:=by
 rw[elem'_eq,h];exact wpS_pure hq
def zcd (C:Cmp prog w A s κ a₀ ρ) {st:SortSt} (hB:B κ a₀ st) {i j:Nat} (hi:i<a₀.size) (hj:j<a₀.size) {Q:Option Bool->SortSt->Prop}
  (h:Q (some (decide (R ρ (arrOf st) i<R ρ (arrOf st) j))) st):wpS (model prog w) A E s (ltAt' i j) Q st:=by
 obtain⟨p,e1,m1⟩:=zkw (xs:=arrOf st) (i:=i) (by rw[hB.size]; exact hi);obtain⟨q,e2,m2⟩:=zkw (xs:=arrOf st) (i:=j) (by rw[hB.size]; exact hj);rw[ltAt'_eq];refine wpS_bind (wpS_get ?_);show wpS _ _ _ _ (do let x <- elem' (arrOf st) i; let y <- elem' (arrOf st) j; lt' x y) Q st;refine wpS_bind (zhC e1 (wpS_bind (zhC e2 (znP C hB (hB.mem m1) (hB.mem m2) ?_))));rw[R_at e1,R_at e2] at h;exact h
def asc (lo a ap:Nat):StateT SortSt Sem AscSt:=
 forIn [a:ap] ((none,a):AscSt) fun _ __s=>do
  let __x <- ltAt' (lo+__s.snd) (lo+__s.snd - 1)
  match __x with
  | some smaller=>if smaller=true then pure (ForInStep.done (none,__s.snd)) else pure (ForInStep.yield (none,__s.snd+1))
  | _=>pure (ForInStep.done (some none,__s.snd))
def tl3 (lo n ap:Nat):StateT SortSt Sem (Option Nat):=do
 reverseSlice' lo (lo+n)
 let __s <- asc lo n ap
 match __s.fst with
 | some r=>pure r
 | none=>pure (some __s.snd)
def dsc (lo n ap:Nat):StateT SortSt Sem DescSt:=
 forIn [n:ap] ((none,n,0):DescSt) fun _ __s=>do
  let __x <- ltAt' (lo+__s.snd.fst) (lo+__s.snd.fst - 1)
  match __x with
  | some smaller=>
   if smaller=true then
    if __s.snd.snd > 0 then do
     reverseSlice' (lo+__s.snd.fst - (__s.snd.snd+1)) (lo+__s.snd.fst)
     pure (ForInStep.yield (none,__s.snd.fst+1,0))
    else pure (ForInStep.yield (none,__s.snd.fst+1,0))
   else do
    let __x <- ltAt' (lo+__s.snd.fst - 1) (lo+__s.snd.fst)
    match __x with
    | some larger=>
     if larger=true then pure (ForInStep.done (none,__s.snd.fst,__s.snd.snd))
     else pure (ForInStep.yield (none,__s.snd.fst+1,__s.snd.snd+1))
    | _=>pure (ForInStep.done (some none,__s.snd.fst,__s.snd.snd))
  | _=>pure (ForInStep.done (some none,__s.snd.fst,__s.snd.snd))
def zgT (lo n ap:Nat):StateT SortSt Sem (Option Nat):=do
 liftM (rule "list.sort.descending-run")
 let __s <- dsc lo (n+1) ap
 match __s.fst with
 | some r=>pure r
 | none=>
  if __s.snd.snd > 0 then do
   reverseSlice' (lo+__s.snd.fst - (__s.snd.snd+1)) (lo+__s.snd.fst)
   tl3 lo __s.snd.fst ap
  else tl3 lo __s.snd.fst ap
def bindc {α β:Type}{m:StateT SortSt Sem α}{f g:α->StateT SortSt Sem β} (h:∀a,f a=g a):(m >>= f)=(m >>= g):=by
 have e:f=g:=funext h;rw[e]
def zep (lo ap:Nat):countRun' lo ap=(do
  let __s <- asc lo 1 ap
  match __s.fst with
  | some r=>pure r
  | none=>
   if (__s.snd == ap)=true then pure (some __s.snd)
   else if __s.snd > 1 then do
    let __x <- ltAt' lo (lo+__s.snd - 1)
    match __x with
    | some rose=>if rose=true then pure (some __s.snd) else do
      reverseSlice' lo (lo+__s.snd)
      zgT lo __s.snd ap
    | _=>pure none
   else zgT lo __s.snd ap):=by
 rw[countRun'_eq];unfold zgT tl3 dsc asc;refine bindc fun s1=>?_;obtain⟨r,n⟩:=s1;cases r with
 | some r=>rfl
 | none=>
  dsimp only;split
  ·rfl
  ·split
   ·refine bindc fun x=>?_
    cases x with
    | none=>rfl
    | some rose=>
     dsimp only;split
     ·rfl
     ·refine bindc fun _r=>bindc fun _u=>bindc fun s2=>?_
      obtain⟨r2,n2,q2⟩:=s2;cases r2 with
      | some r2=>rfl
      | none=>
       dsimp only;split
       ·refine bindc fun _v=>bindc fun _w=>bindc fun s3=>?_
        obtain⟨r3,n3⟩:=s3; cases r3 <;> rfl
       ·refine bindc fun _w=>bindc fun s3=>?_
        obtain⟨r3,n3⟩:=s3; cases r3 <;> rfl
   ·refine bindc fun _u=>bindc fun s2=>?_
    obtain⟨r2,n2,q2⟩:=s2;cases r2 with
    | some r2=>rfl
    | none=>
     dsimp only;split
     ·refine bindc fun _v=>bindc fun _w=>bindc fun s3=>?_
      obtain⟨r3,n3⟩:=s3; cases r3 <;> rfl
     ·refine bindc fun _w=>bindc fun s3=>?_
      obtain⟨r3,n3⟩:=s3; cases r3 <;> rfl
def zkA (C:Cmp prog w A s κ a₀ ρ) {st:SortSt}{lo a ap:Nat}{Q:AscSt->SortSt->Prop} (hn:lo+ap<=a₀.size) (ha:1<=a) (u2:a<=ap) (hB:B κ a₀ st) (hs:Srt ρ (arrOf st) lo (lo+a))
  (h:∀n,a<=n->n<=ap->Srt ρ (arrOf st) lo (lo+n)->(n=ap \/ R ρ (arrOf st) (lo+n)<R ρ (arrOf st) (lo+n - 1))->Q (none,n) st) :
  wpS (model prog w) A E s (asc lo a ap) Q st:=by
 unfold asc;refine wpS_forRange (I:=fun x c ak=>ak=st/\c=(none,x)/\Srt ρ (arrOf st) lo (lo+x)) ?step ?fin ⟨rfl,rfl,hs⟩
 case fin=>
  rintro c ak ⟨rfl,rfl,hs'⟩;rw[show max a ap=ap by omega] at hs' ⊢;exact h ap u2 (Af _) hs' (.inl rfl)
 case step=>
  rintro x c ak eT wE ⟨rfl,rfl,hs'⟩;dsimp only;refine wpS_bind (zcd C hB (by omega) (by omega) ?_)
  by_cases hless:R ρ (arrOf ak) (lo+x)<R ρ (arrOf ak) (lo+x - 1)
  ·simp only[hless,decide_true,if_true]
   exact wpS_pure (h x eT (by omega) hs' (.inr hless))
  ·simp only[hless,decide_false,Ai,if_false]
   refine wpS_pure ⟨rfl,rfl,fun i j hl hij hj=>?_⟩
   by_cases hjx:j<lo+x
   ·exact hs' i j hl hij hjx
   ·have hj':j=lo+x:=by omega
    subst hj'
    by_cases hi':i=lo+x
    ·subst hi'; exact Int.le_refl _
    ·exact Int.le_trans (hs' i (lo+x - 1) hl (by omega) (by omega)) (Int.not_lt.mp hless)
def zfd {st:SortSt}{i j:Nat}{Q:Unit->SortSt->Prop} (h:Q () (setArr st (mirror (arrOf st) i j ((j - i) / 2)))):wpS (model prog w) A E s (reverseSlice' i j) Q st:=by
 rw[reverseSlice'_eq]; exact wpS_modify h
abbrev Got (κ:SortKind) (a₀:Array Keyed) (ρ:Keyed->Int) (lo ap:Nat) (st:SortSt) (Q:Option Nat->SortSt->Prop):Prop:=
 ∀m ak,B κ a₀ ak->Pre lo st ak->1<=m->m<=ap->Srt ρ (arrOf ak) lo (lo+m)->Q (some m) ak
def zkt (C:Cmp prog w A s κ a₀ ρ) {st a8:SortSt}{lo n ap:Nat}{Q:Option Nat->SortSt->Prop} (hn:lo+ap<=a₀.size) (h1:1<=n) (hnn:n<=ap) (hB:B κ a₀ st) (hP:Pre lo a8 st)
  (hs:Dsc ρ (arrOf st) lo (lo+n)) (h:Got κ a₀ ρ lo ap a8 Q):wpS (model prog w) A E s (tl3 lo n ap) Q st:=by
 unfold tl3;have hsz:lo+n<=(arrOf st).size:=by rw[hB.size]; omega
 refine wpS_bind (zfd ?_);have bb:B κ a₀ (setArr st (mirror (arrOf st) lo (lo+n) ((lo+n - lo) / 2))):=hB.setArr (mirror_perm _ _ _ _);refine wpS_bind (zkA C hn h1 hnn bb ?_ fun m kT gB hsm _=>wpS_pure (h m _ bb (hP.trans (.mir hsz (Af _))) (by omega) gB hsm));intro i j hl hij hj;show R ρ (mirror (arrOf st) lo (lo+n) ((lo+n - lo) / 2)) i<=R ρ (mirror (arrOf st) lo (lo+n) ((lo+n - lo) / 2)) j;rw[zdk hsz,zdk hsz,if_pos (by omega),if_pos (by omega)];exact hs _ _ (by omega) (by omega) (by omega)
def znq (C:Cmp prog w A s κ a₀ ρ) {st a8:SortSt}{lo n ap:Nat}{Q:DescSt->SortSt->Prop} (hn:lo+ap<=a₀.size) (h1:1<=n) (hnn:n<=ap) (hB:B κ a₀ st) (hP:Pre lo a8 st)
  (hs:Dsc ρ (arrOf st) lo (lo+n))
  (h:∀m c5 ak,B κ a₀ ak->Pre lo a8 ak->n<=m->m<=ap->Dsc ρ (arrOf ak) lo (lo+m)->c5+1<=m->(∀i,lo+m - (c5+1)<=i->i<lo+m->R ρ (arrOf ak) i=R ρ (arrOf ak) (lo+m - 1))->Q (none,m,c5) ak) :
  wpS (model prog w) A E s (dsc lo n ap) Q st:=by
 unfold dsc;refine wpS_forRange (I:=fun x c ak=>∃c5,c=(none,x,c5)/\B κ a₀ ak/\Pre lo a8 ak/\Dsc ρ (arrOf ak) lo (lo+x)/\c5+1<=x/\
   (∀i,lo+x - (c5+1)<=i->i<lo+x->R ρ (arrOf ak) i=R ρ (arrOf ak) (lo+x - 1))) ?step ?fin ⟨0,rfl,hB,hP,hs,by omega,fun i h1 h2=>by congr 1; omega⟩
 case fin=>
  rintro c ak ⟨c5,rfl,bb,cM,hs',hq,he⟩;rw[show max n ap=ap by omega] at hs' hq he ⊢;exact h ap c5 ak bb cM hnn (Af _) hs' hq he
 case step=>
  rintro x c ak eT wE ⟨c5,rfl,bb,cM,hs',hq,he⟩;dsimp only;have hsz:lo+x<=(arrOf ak).size:=by rw[bb.size]; omega
  refine wpS_bind (zcd C bb (by omega) (by omega) ?_)
  by_cases hless:R ρ (arrOf ak) (lo+x)<R ρ (arrOf ak) (lo+x - 1)
  ·simp only[hless,decide_true,if_true]
   have step1:∀xs:Array Keyed,(∀k,R ρ xs k=R ρ (arrOf ak) k)->Dsc ρ xs lo (lo+(x+1)):=by
    intro xs hk i j hl hij hj;rw[hk,hk]
    by_cases hjx:j<lo+x
    ·exact hs' i j hl hij hjx
    ·have hj':j=lo+x:=by omega
     subst hj'
     by_cases hi':i=lo+x
     ·subst hi'; exact Int.le_refl _
     ·exact Int.le_trans (Int.le_of_lt hless) (hs' i (lo+x - 1) hl (by omega) (by omega))
   by_cases hneq:c5 > 0
   ·rw[if_pos hneq]
    refine wpS_bind (zfd (wpS_pure ⟨0,rfl,bb.setArr (mirror_perm _ _ _ _),cM.trans (.mir hsz (by omega)),step1 _ (zP hsz he),by omega,fun i h1 h2=>by congr 1; omega⟩))
   ·rw[if_neg hneq]
    exact wpS_pure ⟨0,rfl,bb,cM,step1 _ (fun _=>rfl),by omega,fun i h1 h2=>by congr 1; omega⟩
  ·simp only[hless,decide_false,Ai,if_false]
   refine wpS_bind (zcd C bb (by omega) (by omega) ?_)
   by_cases hlarger:R ρ (arrOf ak) (lo+x - 1)<R ρ (arrOf ak) (lo+x)
   ·simp only[hlarger,decide_true,if_true]
    exact wpS_pure (h x c5 ak bb cM eT (by omega) hs' hq he)
   ·simp only[hlarger,decide_false,Ai,if_false]
    have heqx:R ρ (arrOf ak) (lo+x)=R ρ (arrOf ak) (lo+x - 1):=by omega
    refine wpS_pure ⟨c5+1,rfl,bb,cM,fun i j hl hij hj=>?_,by omega,fun i h1 h2=>?_⟩
    ·by_cases hjx:j<lo+x
     ·exact hs' i j hl hij hjx
     ·have hj':j=lo+x:=by omega
      subst hj'
      by_cases hi':i=lo+x
      ·subst hi'; exact Int.le_refl _
      ·rw[heqx]; exact hs' i (lo+x - 1) hl (by omega) (by omega)
    ·rw[show lo+(x+1) - 1=lo+x by omega]
     by_cases hix:i=lo+x
     ·subst hix; rfl
     ·rw[heqx]; exact he i (by omega) (by omega)
def zfu (C:Cmp prog w A s κ a₀ ρ) {st a8:SortSt}{lo n ap:Nat}{Q:Option Nat->SortSt->Prop} (hn:lo+ap<=a₀.size) (hnn:n+1<=ap) (hB:B κ a₀ st) (hP:Pre lo a8 st)
  (hs:Dsc ρ (arrOf st) lo (lo+(n+1))) (h:Got κ a₀ ρ lo ap a8 Q):wpS (model prog w) A E s (zgT lo n ap) Q st:=by
 unfold zgT;refine wpS_bind (wpS_lift (wpAny_rule ⟨rfl,?_⟩));refine wpS_bind (znq C hn (by omega) hnn hB hP hs fun m c5 ak bb cM kT gB hs' hq he=>?_);dsimp only;have hsz:lo+m<=(arrOf ak).size:=by rw[bb.size]; omega
 by_cases hneq:c5 > 0
 ·rw[if_pos hneq]
  refine wpS_bind (zfd (zkt C hn (by omega) gB (bb.setArr (mirror_perm _ _ _ _)) (cM.trans (.mir hsz (by omega))) ?_ h));intro i j hl hij hj;show R ρ (mirror (arrOf ak) _ _ _) j<=R ρ (mirror (arrOf ak) _ _ _) i;rw[zP hsz he,zP hsz he];exact hs' i j hl hij hj
 ·rw[if_neg hneq]
  exact zkt C hn (by omega) gB bb cM hs' h
def zel (C:Cmp prog w A s κ a₀ ρ) {st:SortSt}{lo ap:Nat}{Q:Option Nat->SortSt->Prop} (hn:lo+ap<=a₀.size) (h1:1<=ap) (hB:B κ a₀ st)
  (h:Got κ a₀ ρ lo ap st Q):wpS (model prog w) A E s (countRun' lo ap) Q st:=by
 rw[zep];refine wpS_bind (zkA C hn (Af 1) h1 hB (fun i j hl hij hj=>by have:i=j:=(by omega); subst this; exact Int.le_refl _) fun n oB ko kQ uH=>?_);dsimp only
 by_cases hnn:n=ap
 ·rw[if_pos (by simpa using hnn)]
  exact wpS_pure (h n st hB .refl oB ko kQ)
 ·rw[if_neg (by simpa using hnn)]
  have hlt:R ρ (arrOf st) (lo+n)<R ρ (arrOf st) (lo+n - 1):=uH.resolve_left hnn
  by_cases hgt:n > 1
  ·rw[if_pos hgt]
   refine wpS_bind (zcd C hB (by omega) (by omega) ?_)
   by_cases hrose:R ρ (arrOf st) lo<R ρ (arrOf st) (lo+n - 1)
   ·simp only[hrose,decide_true,if_true]
    exact wpS_pure (h n st hB .refl oB ko kQ)
   ·simp only[hrose,decide_false,Ai,if_false]
    have hsz:lo+n<=(arrOf st).size:=by rw[hB.size]; omega
    have hall:∀k,lo<=k->k<lo+n->R ρ (arrOf st) k=R ρ (arrOf st) (lo+n - 1):=by
     intro k hl hk;have a1:=kQ lo k (by omega) hl hk;have a2:=kQ k (lo+n - 1) hl (by omega) (by omega);omega
    refine wpS_bind (zfd (zfu C hn (by omega) (hB.setArr (mirror_perm _ _ _ _)) (.mir hsz (Af _)) ?_ h));intro i j hl hij hj;show R ρ (mirror (arrOf st) _ _ _) j<=R ρ (mirror (arrOf st) _ _ _) i;rw[zP hsz hall,zP hsz hall]
    by_cases hjn:j<lo+n
    ·rw[hall i (by omega) (by omega),hall j (by omega) hjn]; exact Int.le_refl _
    ·have hj':j=lo+n:=by omega
     subst hj'
     by_cases hi':i=lo+n
     ·subst hi'; exact Int.le_refl _
     ·rw[hall i (by omega) (by omega)]; exact Int.le_of_lt hlt
  ·rw[if_neg hgt]
   have hn1':n=1:=by omega
   subst hn1';refine zfu C hn (by omega) hB .refl ?_ h;intro i j hl hij hj
   by_cases hi':i=j
   ·subst hi'; exact Int.le_refl _
   ·have wo:i=lo:=by omega
    have hj1:j=lo+1:=by omega
    subst wo; subst hj1;exact Int.le_of_lt hlt
def zdn (C:Cmp prog w A s κ a₀ ρ) {st:SortSt}{lo n ok:Nat}{Q:Bool->SortSt->Prop} (hn:lo+n<=a₀.size) (hok:ok<=n) (hB:B κ a₀ st) (hs:Srt ρ (arrOf st) lo (lo+ok))
  (h:∀ak,B κ a₀ ak->Pre lo st ak->Srt ρ (arrOf ak) lo (lo+n)->Q true ak):wpS (model prog w) A E s (binarySort' lo n ok) Q st:=by
 rw[binarySort'_eq];refine wpS_bind (wpS_mono (wpS_forRange (I:=fun k c ak=>c=(none,())/\B κ a₀ ak/\Pre lo st ak/\Srt ρ (arrOf ak) lo (lo+min k n))
  (Q:=fun c ak=>c=(none,())/\B κ a₀ ak/\Pre lo st ak/\Srt ρ (arrOf ak) lo (lo+n)) ?step ?fin ?init) ?post)
 case post=>
  rintro c ak ⟨rfl,bb,cM,hs'⟩;exact wpS_pure (h ak bb cM hs')
 case init=>
  refine⟨rfl,hB,.refl,fun i j hl hij hj=>?_⟩
  by_cases h1:ok=0
  ·have:i=j:=by omega
   subst this; exact Int.le_refl _
  ·exact hs i j hl hij (by omega)
 case fin=>
  rintro c ak ⟨hc,bb,cM,hs'⟩;refine⟨hc,bb,cM,?_⟩
  rwa [show min (max (max ok 1) n) n=n by omega] at hs'
 case step=>
  rintro k c ak yU oE ⟨rfl,bb,cM,hs'⟩;rw[show min k n=k by omega] at hs';have hk:lo+k<a₀.size:=by omega
  refine wpS_bind (wpS_mono (wpS_forRange (I:=fun x c aA=>aA=ak/\∃l r,c=(none,l,r)/\l<=r/\r<=k/\r - l<=k - x/\
    (∀i,i<l->R ρ (arrOf ak) (lo+i)<=R ρ (arrOf ak) (lo+k))/\(∀i,r<=i->i<k->R ρ (arrOf ak) (lo+k)<R ρ (arrOf ak) (lo+i)))
   (Q:=fun c aA=>aA=ak/\∃l r,c=(none,l,r)/\l<=k/\
    (∀i,i<l->R ρ (arrOf ak) (lo+i)<=R ρ (arrOf ak) (lo+k))/\(∀i,l<=i->i<k->R ρ (arrOf ak) (lo+k)<R ρ (arrOf ak) (lo+i))) ?istep ?ifin ?iinit) ?ipost)
  case iinit=>exact⟨rfl,0,k,rfl,by omega,by omega,by omega,fun i hi=>by omega,fun i h1 h2=>by omega⟩
  case ifin=>
   rintro c aA ⟨rfl,l,r,rfl,sj,nT,hm,dj,fV⟩;have:l=r:=by omega
   subst this;exact⟨rfl,l,l,rfl,nT,dj,fV⟩
  case istep=>
   rintro x c aA _ x6 ⟨rfl,l,r,rfl,sj,nT,hm,dj,fV⟩;dsimp only
   by_cases hge:l ≥ r
   ·rw[if_pos hge]
    have:l=r:=by omega
    subst this;exact wpS_pure ⟨rfl,l,l,rfl,nT,dj,fV⟩
   ·rw[if_neg hge]
    refine wpS_bind (zcd C bb hk (by omega) ?_)
    by_cases hless:R ρ (arrOf aA) (lo+k)<R ρ (arrOf aA) (lo+(l+r) / 2)
    ·simp only[hless,decide_true,if_true]
     refine wpS_pure ⟨rfl,l,(l+r) / 2,rfl,by omega,by omega,by omega,dj,fun i h1 h2=>?_⟩;exact Int.lt_of_lt_of_le hless (hs' _ _ (by omega) (by omega) (by omega))
    ·simp only[hless,decide_false,Ai,if_false]
     refine wpS_pure ⟨rfl,(l+r) / 2+1,r,rfl,by omega,by omega,by omega,fun i h1=>?_,fV⟩;exact Int.le_trans (hs' (lo+i) (lo+(l+r) / 2) (by omega) (by omega) (by omega)) (Int.not_lt.mp hless)
  case ipost=>
   rintro c aA ⟨rfl,l,r,rfl,sJ,dj,fV⟩;show wpS _ _ _ _ (do moveDown' (lo+k) (lo+l); pure (ForInStep.yield (none,()))) _ _;rw[moveDown'_eq];have bP:lo+k<(arrOf aA).size:=by rw[bb.size]; exact hk
   refine wpS_bind (wpS_modify (wpS_pure ⟨rfl,bb.setArr (bubble_perm _ _ _),cM.trans (.bub bP (by omega) (by omega)),?_⟩));rw[show min (k+1) n=k+1 by omega];intro i j hl hij hj;show R ρ (bubble (arrOf aA) (lo+k) (lo+k - (lo+l))) i<=R ρ (bubble (arrOf aA) (lo+k) (lo+k - (lo+l))) j;rw[zeS bP (by omega),zeS bP (by omega),show lo+k - (lo+k - (lo+l))=lo+l by omega];have q1:∀i,lo<=i->i<lo+l->R ρ (arrOf aA) i<=R ρ (arrOf aA) (lo+k):=fun i h1 h2=>by
    have:=dj (i - lo) (by omega); rwa [show lo+(i - lo)=i by omega] at this
   have q2:∀i,lo+l<=i->i<lo+k->R ρ (arrOf aA) (lo+k)<R ρ (arrOf aA) i:=fun i h1 h2=>by
    have:=fV (i - lo) (by omega) (by omega); rwa [show lo+(i - lo)=i by omega] at this
   repeat' split
   all_goals first
    | (exfalso; omega)
    | exact Int.le_refl _
    | exact q1 _ (by omega) (by omega)
    | exact Int.le_of_lt (q2 _ (by omega) (by omega))
    | exact hs' _ _ (by omega) (by omega) (by omega)
def zej (C:Cmp prog w A s κ a₀ ρ) {st:SortSt}{Q:Unit->SortSt->Prop} (hB:B κ a₀ st) (hp:pendingOf st=#[]) (h1:1<=a₀.size) (h64:a₀.size<64)
  (h:∀ak,B κ a₀ ak->Srt ρ (arrOf ak) 0 a₀.size->Q () ak):wpS (model prog w) A E s sortRuns' Q st:=by
 rw[sortRuns'_eq];refine wpS_bind (wpS_get ?_);dsimp only;have rR:minRun' a₀.size a₀.size 0=a₀.size:=by
  obtain⟨f,hf⟩:∃f,a₀.size=f+1:=⟨a₀.size - 1,by omega⟩;have:minRun' (f+1) a₀.size 0=a₀.size:=by rw[minRun'_succ,if_pos h64]; rfl
  rwa [<- hf] at this
 simp only[hB.size,rR];refine wpS_bind (wpS_mono (wpS_forRange
  (I:=fun x c ak=>(x=0/\c=(none,0)/\B κ a₀ ak/\pendingOf ak=#[]) \/ (1<=x/\c=(none,a₀.size)/\B κ a₀ ak/\(pendingOf ak).size<=1/\Srt ρ (arrOf ak) 0 a₀.size))
  (Q:=fun c ak=>c=(none,a₀.size)/\B κ a₀ ak/\(pendingOf ak).size<=1/\Srt ρ (arrOf ak) 0 a₀.size) ?step ?fin (.inl ⟨rfl,rfl,hB,hp⟩)) ?post)
 case fin=>
  rintro c ak (⟨hx,_,_⟩ | ⟨_,hc,hD⟩)
  ·omega
  ·exact⟨hc,hD⟩
 case step=>
  rintro x c ak _ hx (⟨rfl,rfl,bb,cz⟩ | ⟨yq,rfl,hD⟩)
  ·dsimp only
   rw[if_neg (by omega)];simp only[Nat.sub_zero,Nat.min_self];refine wpS_bind (zel C (by omega) (by omega) bb fun m d_ oO P2 m1 m2 nI=>?_);dsimp only;have tl:∀cg,B κ a₀ cg->pendingOf cg=#[]->Srt ρ (arrOf cg) 0 a₀.size->B κ a₀ (setPending cg ((pendingOf cg).push (0,a₀.size,0)))/\(pendingOf (setPending cg ((pendingOf cg).push (0,a₀.size,0)))).size<=1/\Srt ρ (arrOf (setPending cg ((pendingOf cg).push (0,a₀.size,0)))) 0 a₀.size:=
    fun cg b p q=>⟨⟨b.perm,b.kind,b.failed⟩,by show ((pendingOf cg).push _).size<=1; rw[p]; exact Af 1,q⟩
   by_cases hlt:m<a₀.size
   ·rw[if_pos hlt]
    refine wpS_bind (wpS_lift (wpAny_rule ⟨rfl,?_⟩));refine wpS_bind (zdn C (by omega) m2 oO nI fun cg wV P3 pA=>?_);simp only[Bool.not_true,Ai,if_false];refine wpS_bind (wpS_get ?_);have hV:pendingOf cg=#[]:=by rw[P3.pend,P2.pend]; exact cz
    have hb:(pendingOf cg).back?=none:=by rw[hV]; rfl
    rw[hb];dsimp only;simp only[Nat.zero_add] at pA ⊢;exact wpS_bind (wpS_modify (wpS_pure (.inr ⟨by omega,rfl,tl cg wV hV pA⟩)))
   ·rw[if_neg hlt]
    have hm:m=a₀.size:=by omega
    subst hm;refine wpS_bind (wpS_get ?_);have dJ:pendingOf d_=#[]:=by rw[P2.pend]; exact cz
    have hb:(pendingOf d_).back?=none:=by rw[dJ]; rfl
    rw[hb];dsimp only;simp only[Nat.zero_add] at nI ⊢;exact wpS_bind (wpS_modify (wpS_pure (.inr ⟨by omega,rfl,tl d_ oO dJ nI⟩)))
  ·dsimp only
   rw[if_pos (Af _)];exact wpS_pure ⟨rfl,hD⟩
 case post=>
  rintro c ak ⟨rfl,bb,om,sr⟩;dsimp only;refine wpS_bind (wpS_mono (wpS_forRange (I:=fun _ c aA=>aA=ak/\c=(none,())) (Q:=fun c aA=>aA=ak/\c=(none,())) ?_ (fun _ _ hh=>hh) ⟨rfl,rfl⟩) ?_)
  ·rintro x c aA _ _ ⟨rfl,rfl⟩
   refine wpS_bind (wpS_get ?_);rw[if_pos om];exact wpS_pure ⟨rfl,rfl⟩
  ·rintro c aA ⟨rfl,rfl⟩
   exact wpS_pure (h _ bb sr)
end
end Tim
end
section
namespace Srt
open PySem PyProof.Rows HT
def zes:∀a:List Int,lexLt a a=false
 | []=>rfl
 | x::a=>by rw[zK,if_pos rfl]; exact zes a
def zap:∀{a b c:List Int},lexLt a b=true->lexLt b c=true->lexLt a c=true
 | [],[],_,h,_=>by cases h
 | [],_::_,[],_,h=>by cases h
 | [],_::_,_::_,_,_=>rfl
 | _::_,[],_,h,_=>by cases h
 | _::_,_::_,[],_,h=>by cases h
 | x::a,y::b,z::c,h1,h2=>by
  rw[zK] at h1 h2 ⊢
  by_cases e1:x=y
  ·rw[if_pos e1] at h1
   by_cases e2:y=z
   ·rw[if_pos e2] at h2
    rw[if_pos (e1.trans e2)];exact zap h1 h2
   ·rw[if_neg e2] at h2
    rw[if_neg (by omega)];have:=of_decide_eq_true h2;exact decide_eq_true (by omega)
  ·rw[if_neg e1] at h1
   have q1:=of_decide_eq_true h1
   by_cases e2:y=z
   ·rw[if_neg (by omega)]
    exact decide_eq_true (by omega)
   ·rw[if_neg e2] at h2
    have q2:=of_decide_eq_true h2;rw[if_neg (by omega)];exact decide_eq_true (by omega)
def zho:∀{a b:List Int},lexLt a b=false->lexLt b a=false->a=b
 | [],[],_,_=>rfl
 | [],_::_,h,_=>by cases h
 | _::_,[],_,h=>by cases h
 | x::a,y::b,h1,h2=>by
  rw[zK] at h1 h2
  by_cases e:x=y
  ·subst e
   rw[if_pos rfl] at h1 h2;rw[zho h1 h2]
  ·rw[if_neg e] at h1
   rw[if_neg (Ne.symm e)] at h2;have:=of_decide_eq_false h1;have:=of_decide_eq_false h2;omega
def rk (ls:List (List Int)) (l:List Int):Int:=((ls.filter fun m=>lexLt m l).length:Nat)
def zma {ls:List (List Int)}{l m:List Int} (hl:l∈ls) (hm:m∈ls):decide (rk ls l<rk ls m)=lexLt l m:=by
 have mono:∀{a b:List Int},(∀x,lexLt x a=true->lexLt x b=true)->∀k:List (List Int),(k.filter fun x=>lexLt x a).length<=(k.filter fun x=>lexLt x b).length:=by
  intro a b eM k
  induction k with
  | nil=>exact Af _
  | cons x k ih=>
   rw[List.filter_cons,List.filter_cons]
   by_cases q:lexLt x a=true
   ·rw[if_pos q,if_pos (eM x q),Ap,Ap]; omega
   ·rw[if_neg q]
    split
    ·rw[Ap]; omega
    ·exact ih
 have strict:∀{a b:List Int},(∀x,lexLt x a=true->lexLt x b=true)->lexLt a b=true->∀k:List (List Int),a∈k->(k.filter fun x=>lexLt x a).length<(k.filter fun x=>lexLt x b).length:=by
  intro a b eM h k
  induction k with
  | nil=>intro q; cases q
  | cons x k ih=>
   intro hk;rw[List.filter_cons,List.filter_cons];rcases List.mem_cons.mp hk with e | e
   ·subst e
    rw[if_neg (by rw[zes]; exact Ao),if_pos h,Ap];have:=mono eM k;omega
   ·have:=ih e
    by_cases q:lexLt x a=true
    ·rw[if_pos q,if_pos (eM x q),Ap,Ap]; omega
    ·rw[if_neg q]
     split
     ·rw[Ap]; omega
     ·exact this
 unfold rk;cases q:lexLt l m with
 | true=>
  have:=strict (a:=l) (b:=m) (fun x hx=>zap hx q) q ls hl;exact decide_eq_true (by omega)
 | false=>
  have:=mono (a:=m) (b:=l) (fun x hx=>by
   cases z:lexLt x l with
   | true=>rfl
   | false=>
    cases z2:lexLt l x with
    | true=>rw[zap z2 hx] at q; cases q
    | false=>rw[zho z z2] at hx; rw[hx] at q; cases q) ls
  exact decide_eq_false (by omega)
structure By (prog:Program) (w:World) (A:Around) (good:Heap->Prop) (us:List Value) (ls:List (List Int)):Prop where
 len:us.length=ls.length
 fn:∀(i j:Nat) u l m,us[i]?=some u->us[j]?=some u->ls[i]?=some l->ls[j]?=some m->l=m
 ask:2<=us.length->∃κ:SortKind,(∀(s:Shared) (Q:SortKind->Shared->Prop) (E:Value->Shared->Prop),good s.heap->Q κ s->wpAny (model prog w) A (keyKind' us.toArray) Q E s)/\
  ∀(i j:Nat) u v l m,us[i]?=some u->us[j]?=some v->ls[i]?=some l->ls[j]?=some m->∀(s:Shared) (Q:Bool->Shared->Prop) (E:Value->Shared->Prop),good s.heap->Q (lexLt l m) s->wpAny (model prog w) A (keyLt' κ u v) Q E s
open Classical in
noncomputable def lof (us:List Value) (ls:List (List Int)) (u:Value):List Int:=if h:∃l,∃i:Nat,us[i]?=some u/\ls[i]?=some l then h.choose else []
def zdP {us:List Value}{ls:List (List Int)} (fn:∀(i j:Nat) u l m,us[i]?=some u->us[j]?=some u->ls[i]?=some l->ls[j]?=some m->l=m) {i:Nat}{u:Value}{l:List Int} (h1:us[i]?=some u) (h2:ls[i]?=some l):lof us ls u=l:=by
 unfold lof;have h:∃l,∃i:Nat,us[i]?=some u/\ls[i]?=some l:=⟨l,i,h1,h2⟩;rw[dif_pos h];obtain⟨j,e1,e2⟩:=h.choose_spec;exact fn j i u _ l e1 h1 e2 h2
noncomputable def zgC (us:List Value) (ls:List (List Int)) (p:Keyed):Int:=rk ls (lof us ls p.1)
section
variable {prog:Program}{w:World}{A:Around}{E:Value->Shared->Prop}{s:Shared}{good:Heap->Prop}{us vs:List Value}{ls:List (List Int)}
def zfg (h:us.length=vs.length) {p:Keyed} (hp:p∈(us.toArray.zip vs.toArray).toList):∃i:Nat,us[i]?=some p.1/\vs[i]?=some p.2:=by
 have e:(us.toArray.zip vs.toArray).toList=us.zip vs:=by simp
 rw[e] at hp;obtain⟨i,hi,e2⟩:=List.mem_iff_getElem.mp hp;rw[List.getElem_zip] at e2;rw[List.length_zip] at hi;refine⟨i,?_,?_⟩
 ·rw[Ah (by omega),<- e2]
 ·rw[Ah (by omega),<- e2]
def zmw (B:By prog w A good us ls) (hl:us.length=vs.length) (hg:good s.heap) {κ:SortKind} (h2:2<=us.length) (h64:us.length<64)
  (hk:∀(i j:Nat) u v l m,us[i]?=some u->us[j]?=some v->ls[i]?=some l->ls[j]?=some m->∀(s:Shared) (Q:Bool->Shared->Prop) (E:Value->Shared->Prop),good s.heap->Q (lexLt l m) s->wpAny (model prog w) A (keyLt' κ u v) Q E s)
  {Q:Unit->SortSt->Prop} (h:∀ak,(arrOf ak).Perm (us.toArray.zip vs.toArray)->failedOf ak=none->Tim.Srt (zgC us ls) (arrOf ak) 0 vs.length->Q () ak) :
  wpS (model prog w) A E s sortRuns' Q (SortSt.mk' κ (us.toArray.zip vs.toArray) #[] 7 none):=by
 have hz:(us.toArray.zip vs.toArray).size=vs.length:=by simp; omega
 refine Tim.zej (κ:=κ) (a₀:=us.toArray.zip vs.toArray) (ρ:=zgC us ls) ⟨fun x y hx hy Q' E' hq=>?_⟩ ⟨Array.Perm.refl _,rfl,rfl⟩ rfl (by rw[hz]; omega) (by rw[hz]; omega) fun ak b sr=>h ak b.perm b.failed (by rw[<- hz]; exact sr);obtain⟨i,e1,_⟩:=zfg hl hx;obtain⟨j,e2,_⟩:=zfg hl hy;have hi:i<ls.length:=by rw[<- B.len]; exact (List.getElem?_eq_some_iff.mp e1).1
 have hj:j<ls.length:=by rw[<- B.len]; exact (List.getElem?_eq_some_iff.mp e2).1
 have f1:ls[i]?=some ls[i]:=Ah hi;have f2:ls[j]?=some ls[j]:=Ah hj;refine hk i j _ _ _ _ e1 e2 f1 f2 s Q' E' hg ?_;unfold zgC at hq;rw[zdP B.fn e1 f1,zdP B.fn e2 f2,zma (List.getElem_mem hi) (List.getElem_mem hj)] at hq;exact hq
def zipget {α β:Type}:∀(l:List α) (m:List β) (i:Nat),(l.zip m)[i]?=(l[i]?).bind fun x=>(m[i]?).map fun y=>(x,y)
 | [],m,i=>by simp
 | x::l,[],i=>by cases h:(x::l)[i]? <;> simp
 | x::l,y::m,0=>rfl
 | x::l,y::m,i+1=>by
  rw[List.zip_cons_cons,List.getElem?_cons_succ,List.getElem?_cons_succ,List.getElem?_cons_succ];exact zipget l m i
def znz (B:By prog w A good us ls) (hl:us.length=vs.length) {xs:Array Keyed} (hp:xs.Perm (us.toArray.zip vs.toArray)) (hs:Tim.Srt (zgC us ls) xs 0 vs.length) :
  ∃ps:List (List Int×Value),ps.Perm (ls.zip vs)/\xs.toList.map (·.2)=ps.map (·.2)/\ps.Pairwise fun (a b:List Int×Value)=>HT.lexLt b.1 a.1=false:=by
 have pl:xs.toList.Perm (us.zip vs):=by
  have:=Array.perm_iff_toList_perm.mp hp
  simpa using this
 refine⟨xs.toList.map fun p=>(lof us ls p.1,p.2),?_,by rw[Az]; rfl,?_⟩
 ·have e:(us.zip vs).map (fun p:Keyed=>(lof us ls p.1,p.2))=ls.zip vs:=by
   apply List.ext_getElem?;intro i;rw[Am,zipget,zipget];cases e1:us[i]? with
   | none=>
    have:ls[i]?=none:=List.getElem?_eq_none (by rw[<- B.len]; exact List.getElem?_eq_none_iff.mp e1);rw[this]; rfl
   | some u=>
    have hi:i<ls.length:=by rw[<- B.len]; exact (List.getElem?_eq_some_iff.mp e1).1
    have f1:ls[i]?=some ls[i]:=Ah hi;rw[f1];cases e2:vs[i]? with
    | none=>rfl
    | some v=>
     show some (lof us ls u,v)=some (ls[i],v);rw[zdP B.fn e1 f1]
  rw[<- e];exact pl.map _
 ·rw[List.pairwise_map,List.pairwise_iff_getElem]
  intro i j hi hj hij;have hsz:xs.size=vs.length:=by
   have:=pl.length_eq;rw[AS,List.length_zip] at this;omega
  rw[AS] at hi hj;have q:=hs i j (AQ _) (Nat.le_of_lt hij) (by omega);have a1:xs[i]?=some xs[i]:=getElem?_pos xs i hi;have a2:xs[j]?=some xs[j]:=getElem?_pos xs j hj;rw[Tim.R_at a1,Tim.R_at a2] at q;simp only[Array.getElem_toList];obtain⟨i',g1,_⟩:=zfg hl (p:=xs[i]) (by
   have:=pl.mem_iff.mp (show xs[i]∈xs.toList by simp)
   simpa using this)
  obtain⟨j',g2,_⟩:=zfg hl (p:=xs[j]) (by
   have:=pl.mem_iff.mp (show xs[j]∈xs.toList by simp)
   simpa using this)
  have hi':i'<ls.length:=by rw[<- B.len]; exact (List.getElem?_eq_some_iff.mp g1).1
  have hj':j'<ls.length:=by rw[<- B.len]; exact (List.getElem?_eq_some_iff.mp g2).1
  have f1:ls[i']?=some ls[i']:=Ah hi';have f2:ls[j']?=some ls[j']:=Ah hj';unfold zgC at q;rw[zdP B.fn g1 f1,zdP B.fn g2 f2] at q ⊢;have:=zma (ls:=ls) (List.getElem_mem hj') (List.getElem_mem hi');rw[<- this];exact decide_eq_false (by omega)
end
end Srt
end
section
namespace Srt
open PySem PyProof.Rows PySem.W
section
variable {prog:Program}{w:World}{A:Around}{E:Value->Shared->Prop}{s:Shared}{good:Heap->Prop}{us vs:List Value}{ls:List (List Int)}
def zls {ns:List Int} (hi:IntsAre us ns):By prog w A (fun _=>True) us (ns.map fun n=>[n]):=by
 have hlen:=hi.length;have at_:∀(i:Nat) u l,us[i]?=some u->(ns.map fun n=>[n])[i]?=some l->∃n t,u=.int n t/\l=[n]:=fun i u l h1 h2=>by
  obtain⟨t,e⟩:=IntsAre.int_at hi i u h1;rw[Am] at h2;cases e2:ns[i]? with
  | none=>rw[e2] at h2; cases h2
  | some n=>
   rw[e2] at h2;have e3:ns.getD i 0=n:=by rw[AL,e2]; rfl
   rw[e3] at e;exact⟨n,t,e,(Al h2).symm⟩
 refine⟨by rw[Ab,hlen],fun i j u l m h1 h2 h3 h4=>?_,fun h2=>⟨oneType',fun s Q E _ hq=>?_,fun i j u v l m h1 h2 h3 h4 s Q E _ hq=>?_⟩⟩
 ·obtain⟨n,t,e1,rfl⟩:=at_ i u l h1 h3
  obtain⟨n',t',e2,rfl⟩:=at_ j u m h2 h4;rw[e1] at e2;cases e2
  rfl
 ·match us,hi,h2 with
  | [],_,h2=>simp at h2
  | [_],_,h2=>simp at h2
  | v₁::v₂::rest,hi,_=>
   rw[keyKind_ints hi];exact Ac hq
 ·obtain⟨n,t,rfl,rfl⟩:=at_ i u l h1 h3
  obtain⟨n',t',rfl,rfl⟩:=at_ j v m h2 h4;refine kat_lt_int ?_;have:HT.lexLt [n] [n']=decide (n<n'):=by
   rw[HT.zK]
   by_cases e:n=n'
   ·rw[if_pos e,HT.zbm]; exact (decide_eq_false (by omega)).symm
   ·rw[if_neg e]
  rw[this] at hq;exact hq
def IsPr (h:Heap) (u:Value) (l:List Int):Prop:=∃(a b:Addr) (n:Int) (t:Tok) (ah:List Value) (ps:List Int),u=.ref a/\l=n::ps/\IsTup h a #[.int n t,.ref b]/\IsTup h b ah.toArray/\IntsAre ah ps
def IsTup.inj {h:Heap}{a:Addr}{xs ys:Array Value} (h1:IsTup h a xs) (h2:IsTup h a ys):xs=ys:=by
 obtain⟨o,e,_,n,d⟩:=h1;obtain⟨o',e',_,n',d'⟩:=h2;rw[e] at e'; cases e';rw[d] at d';injection d'
def IntsAre.inj {vs:List Value}{ns ms:List Int} (h:IntsAre vs ns) (g:IntsAre vs ms):ns=ms:=by
 induction h generalizing ms with
 | nil=>cases g; rfl
 | cons n t h ih=>cases g with | cons _ _ h'=>rw[ih h']
def IsPr.inj {h:Heap}{u:Value}{l m:List Int} (h1:IsPr h u l) (h2:IsPr h u m):l=m:=by
 obtain⟨a,b,n,t,ah,ps,rfl,rfl,t1,t2,i1⟩:=h1;obtain⟨a',b',n',t',its',gC,e,rfl,nq,kU,kf⟩:=h2;cases e;have:=Srt.IsTup.inj t1 nq;cases this;have e2:=Srt.IsTup.inj t2 kU;have e3:ah=its':=by simpa using e2
 subst e3;rw[IntsAre.inj i1 kf]
def znL {x y:Value}{l m:List Int}{Q:Bool->Shared->Prop} (h1:IsPr s.heap x l) (h2:IsPr s.heap y m) (hu:A.units<cLine) (hq:Q (HT.lexLt l m) s):wpAny (model prog w) A (keyLt' (tuples' true) x y) Q E s:=by
 obtain⟨a,b,n,t,ah,ps,rfl,rfl,t1,t2,i1⟩:=h1;obtain⟨a',b',n',t',its',gC,rfl,rfl,nq,kU,kf⟩:=h2;obtain⟨o,e,hc,k,d⟩:=id t1;obtain⟨o',e',fB,k',d'⟩:=id nq;refine kat_lt e d e' d' ?_;show KatLex prog w A true (decide (2<2)) Q [(.int n t,.int n' t'),(.ref b,.ref b')] 0 s;rw[HT.zK] at hq;refine kat_cons (wpAny_mono (SeqAt.EqAt.int_int n t n' t' prog w (fun _ _=>False) _ ⟨rfl,rfl⟩:wpAny (model prog w) A (eqBool (.int n t) (.int n' t')) (fun e s'=>e=(n == n')/\s'=s) (fun _ _=>False) s) (fun e1 s1 he=>?_) fun _ _ z=>z);obtain⟨rfl,rfl⟩:=he
 by_cases en:n=n'
 ·have eb:(n == n')=true:=by simpa using en
  rw[eb];rw[if_pos en] at hq;refine kat_yes (kat_cons ?_);have jS:∀{c:Addr} {cs:List Value} {qs:List Int},IsTup s1.heap c cs.toArray->IntsAre cs qs->AB (L2.zu prog w) s1.heap (qs.map Sum.inl) c:=fun {c cs qs} hc hi=>by
   obtain⟨o,e,hcl,k,d⟩:=hc;refine⟨o,cs.toArray,k,e,hcl,d,?_⟩;have:∀{cs:List Value} {qs:List Int},IntsAre cs qs->ItemsAre (L2.zu prog w) (qs.map Sum.inl) cs:=by
    intro cs qs hi
    induction hi with
    | nil=>exact .nil
    | cons n t h ih=>exact .cons (L2.za6 prog w n t) ih
   simpa using this hi
  refine wpAny_eqBool_tuple (knd:=L2.zu prog w) hu (jS t2 i1) (jS kU kf) ?_
  by_cases ep:ps=gC
  ·subst ep
   rw[decide_eq_true rfl];rw[zes] at hq;exact kat_yes (kat_nil hq)
  ·have:¬ (ps.map Sum.inl:List L2.Key)=gC.map Sum.inl:=fun z=>ep (List.map_inj_right (f:=(Sum.inl:Int->L2.Key)) (fun x y h=>Sum.inl.inj h) |>.mp z)
   rw[decide_eq_false this];refine kat_no ?_;show wpAny (model prog w) A (oneLt' false (.ref b) (.ref b')) Q (fun _ _=>False) s1;exact kat_one _ _ (HT.zf3 t2 kU (by simpa using i1) (by simpa using kf) hu hq)
 ·have eb:(n == n')=false:=by simpa using en
  rw[eb];rw[if_neg en] at hq;refine kat_no ?_;show wpAny (model prog w) A (oneLt' true (.int n t) (.int n' t')) Q (fun _ _=>False) s1;exact oneLt_int hq
def zhh {h:Heap}:∀{us:List Value}{ls:List (List Int)},us.length=ls.length->(∀(i:Nat) u l,us[i]?=some u->ls[i]?=some l->IsPr h u l)->∃fs,KatTups h us fs/\fs.length=us.length/\∀f∈fs,∃n t,f=Value.int n t
 | [],[],_,_=>⟨[],.nil,rfl,fun f hf=>nomatch hf⟩
 | u::us,l::ls,hl,hp=>by
  obtain⟨fs,a1,a2,a3⟩:=zhh (us:=us) (ls:=ls) (by simpa using hl) fun i u l h1 h2=>hp (i+1) u l (by simpa using h1) (by simpa using h2);obtain⟨a,b,n,t,ah,ps,rfl,rfl,t1,t2,i1⟩:=hp 0 u l rfl rfl;obtain⟨o,e,hc,k,d⟩:=id t1;refine⟨.int n t::fs,.cons e hc d rfl a1,by simp[a2],fun f hf=>?_⟩;rcases List.mem_cons.mp hf with rfl | hf
  ·exact⟨n,t,rfl⟩
  ·exact a3 f hf
 | [],_::_,h,_=>by simp at h
 | _::_,[],h,_=>by simp at h
def zkC (hl:us.length=ls.length) (hu:A.units<cLine) (hg:∃h,good h) (hp:∀h,good h->∀(i:Nat) u l,us[i]?=some u->ls[i]?=some l->IsPr h u l):By prog w A good us ls:=by
 refine⟨hl,fun i j u l m h1 h2 h3 h4=>?_,fun h2=>⟨tuples' true,fun s Q E gs hq=>?_,fun i j u v l m h1 h2 h3 h4 s Q E gs hq=>?_⟩⟩
 ·obtain⟨h,gh⟩:=hg
  exact (hp h gh i u l h1 h3).inj (hp h gh j u m h2 h4)
 ·obtain⟨fs,a1,a2,a3⟩:=zhh hl (hp _ gs)
  refine kat_kind (T:=.type "int") a1 (by omega) (fun f hf=>?_) (by decide) hq;obtain⟨n,t,rfl⟩:=a3 f hf;exact Looks.of_pure rfl
 ·exact znL (hp _ gs i u l h1 h3) (hp _ gs j v m h2 h4) hu hq
end
def Out (ls:List (List Int)) (vs a_:List Value):Prop:=∃ps:List (List Int×Value),ps.Perm (ls.zip vs)/\a_=ps.map (·.2)/\ps.Pairwise fun (a b:List Int×Value)=>HT.lexLt b.1 a.1=false
section
variable {prog:Program}{w:World}{A:Around}{E:Value->Shared->Prop}{s:Shared}{good:Heap->Prop}{us vs:List Value}{ls:List (List Int)}
def zgL (hl:ls.length=vs.length) (hu:us.length=vs.length) (h2:vs.length<2):Out ls vs ((us.toArray.zip vs.toArray).map (·.2)).toList:=by
 have e:((us.toArray.zip vs.toArray).map (·.2)).toList=vs:=by
  rw[Array.toList_map,show (us.toArray.zip vs.toArray).toList=us.zip vs by simp,List.map_snd_zip (by omega)]
 rw[e];refine⟨ls.zip vs,List.Perm.refl _,by rw[List.map_snd_zip (by omega)],?_⟩;have hz:(ls.zip vs).length<2:=by rw[List.length_zip]; omega
 match ls.zip vs,hz with
 | [],_=>exact List.Pairwise.nil
 | [x],_=>simp
 | _::_::_,h=>simp only[Ap] at h; omega
def zfs (B:By prog w A good us ls) (hl:us.length=vs.length) (h64:vs.length<64) (hg:good s.heap) {P:PySem.Fin->Shared->Prop}{G:Unit×SortSt->Sem PySem.Fin}
  (h:∀ak,Out ls vs ((arrOf ak).map (·.2)).toList->(arrOf ak).size=vs.length->failedOf ak=none->wpAny (model prog w) A (G (PUnit.unit,ak)) P E s) :
  wpAny (model prog w) A (if vs.toArray.size<2 then (pure general' >>= fun kind=>(if vs.toArray.size<2 then pure () else sortRuns').run (SortSt.mk' kind (us.toArray.zip vs.toArray) #[] 7 none) >>= G)
   else (keyKind' us.toArray >>= fun kind=>(if vs.toArray.size<2 then pure () else sortRuns').run (SortSt.mk' kind (us.toArray.zip vs.toArray) #[] 7 none) >>= G)) P E s:=by
 have hzs:(us.toArray.zip vs.toArray).size=vs.length:=by rw[Array.size_zip,Ag,Ag]; omega
 by_cases h2:vs.toArray.size<2
 ·rw[if_pos h2]
  refine Aa (Ac ?_);rw[if_pos h2];rw[StateT.run_pure];refine Aa (Ac ?_)
  try dsimp only
  rw[Ag] at h2;exact h (SortSt.mk' general' (us.toArray.zip vs.toArray) #[] 7 none) (zgL (by rw[<- B.len]; exact hl) hl h2) hzs rfl
 ·rw[if_neg h2,if_neg h2]
  rw[Ag] at h2;obtain⟨κ,k1,k2⟩:=B.ask (by omega);refine Aa (k1 s _ E hg ?_);refine Aa (wpAny_mono (zmw (Q:=fun _ ak=>(arrOf ak).Perm (us.toArray.zip vs.toArray)/\failedOf ak=none/\Tim.Srt (zgC us ls) (arrOf ak) 0 vs.length) B hl hg (by omega) (by omega) k2 fun ak a1 a2 a3=>⟨a1,a2,a3⟩) ?_ fun _ _ e=>e);rintro⟨⟨⟩,ak⟩ s' ⟨rfl,hp,hf,hs⟩
  try dsimp only
  exact h ak (by
   obtain⟨ps,a1,a2,a3⟩:=znz B hl hp hs;exact⟨ps,a1,by rw[Array.toList_map]; exact a2,a3⟩) (by rw[hp.size_eq]; exact hzs) hf
def zd9 {a:Addr}{n:Nat}{P:PySem.Fin->Shared->Prop} (ho:s.heap.get? a=some (seqObj "list" vs.toArray n)) (B:By prog w A good vs ls)
  (hg:∀h',(∀b o,b≠a->s.heap.get? b=some o->h'.get? b=some o)->good h') (hz:vs.length<=sizeLine) (h64:vs.length<64)
  (h:∀a_:Array Value,Out ls vs a_.toList->P (.done (.ret .none)) { s with heap:=sortedHeap s.heap a vs a_ }) :
  wpAny (model prog w) A (Builtin.«list.sort» ⟨[.ref a],[]⟩) P E s:=by
 rw[list_sort_plain];have ha:a<s.heap.objs.size:=Aj ho;refine Aa (listItems_at ho rfl ?_);refine Aa (listUpdate_at ho rfl ?_ (by rw[Ag]; exact hz) (AQ _));obtain⟨e1,fe⟩:∃e1,(s.heap.update a (Ax fun _=>#[])).get? a=some (seqObj "list" #[] e1):=⟨_,get?_update_seq ho (fun _=>#[])⟩;refine Aa (seqEpoch_at fe rfl ?_);refine Aa (wpAny_newTuple ?_ (by show vs.length<=_; exact hz));refine Aa (wpAny_newList ?_ (AQ _));refine AM ?_;have qE:(((s.heap.update a (Ax fun _=>#[])).push (seqObj "tuple" vs.toArray 0)).push (seqObj "list" #[] 0)).get? a=some (seqObj "list" #[] e1):=by
  rw[Heap.get?_push_ne _ _ _ (by rw[size_push',A0]; exact As (Nat.lt_succ_of_lt ha)),Heap.get?_push_ne _ _ _ (by rw[A0]; exact As ha)];exact fe
 show wpAny (model prog w) A _ P E { s with heap:=((s.heap.update a (Ax fun _=>#[])).push (seqObj "tuple" vs.toArray 0)).push (seqObj "list" #[] 0) };dsimp only;refine zfs (s:={ s with heap:=((s.heap.update a (Ax fun _=>#[])).push (seqObj "tuple" vs.toArray 0)).push (seqObj "list" #[] 0) }) B rfl h64 (hg _ fun b o hb e=>Ae _ (Ae _ (by rw[Heap.get?_update_ne _ _ _ _ hb]; exact e))) fun ak ho hsz hf=>?_;dsimp only;refine Aa (seqEpoch_at qE rfl ?_);refine Aa (listUpdate_at qE rfl ?_ (AQ _) (AA (Nat.le_of_eq ((Array.size_map ..).trans hsz)) (Nat.le_succ_of_le hz)));rw[hf];simp only[bne_self_eq_false,Ai,if_false];exact Ac (h _ ho)
def zd1 {l:Addr}{Q:Value->Shared->Prop} (hl:s.heap.IsList l vs.toArray) (B:By prog w A.in1.in1 good vs ls)
  (hg:∀h',(∀b o,s.heap.get? b=some o->h'.get? b=some o)->good h') (hz:vs.length<=sizeLine) (h64:vs.length<64)
  (h:∀a_:Array Value,Out ls vs a_.toList->Q (.ref (s.heap.objs.size+1)) { s with heap:=sortedAll s.heap vs a_ }) :
  wpAny (model prog w) A (call (.builtin "sorted") [.ref l]) Q E s:=by
 refine Calls.call_function_entry kind_sorted plain_sorted entry_sorted (args_sorted1 _) ?_;unfold Builtin.«sorted»;refine Aa (m:=checkCount "sorted" 1 1 _) (Ac ?_);refine Aa (collect_list hl ?_ hz);refine Aa (wpAny_newList ?_ hz);have hsz:((s.heap.push (seqObj "list" #[] 0)).update s.heap.objs.size (Ax (·++vs.toArray))).objs.size=s.heap.objs.size+1:=by
  rw[A0,size_push']
 have hoL:(((s.heap.push (seqObj "list" #[] 0)).update s.heap.objs.size (Ax (·++vs.toArray))).push (seqObj "list" vs.toArray 0)).get? (s.heap.objs.size+1)=some (seqObj "list" vs.toArray 0):=by
  rw[<- hsz]; exact Ak _ rfl
 have keep:∀b o,s.heap.get? b=some o->(((s.heap.push (seqObj "list" #[] 0)).update s.heap.objs.size (Ax (·++vs.toArray))).push (seqObj "list" vs.toArray 0)).get? b=some o:=fun b o q=>by
  have hlt:b<s.heap.objs.size:=Aj q;rw[Heap.get?_push_ne _ _ _ (by rw[hsz]; exact As (Nat.lt_succ_of_lt hlt)),Heap.get?_update_ne _ _ _ _ (As hlt),Heap.get?_push_ne _ _ _ (As hlt)];exact q
 show wpAny _ _ _ _ _ { s with heap:=((s.heap.push (seqObj "list" #[] 0)).update s.heap.objs.size (Ax (·++vs.toArray))).push (seqObj "list" vs.toArray 0) };rw[hsz];refine Aa (AM (AV slot_list_sort ⟨_,hoL,rfl⟩ entry_list_sort (zd9 (s:={ s with heap:=((s.heap.push (seqObj "list" #[] 0)).update s.heap.objs.size (Ax (·++vs.toArray))).push (seqObj "list" vs.toArray 0) }) hoL B (fun h' hk=>hg h' fun b o q=>hk b o (As (Nat.lt_succ_of_lt (Aj q))) (keep b o q)) hz h64 fun a_ ho=>⟨_,rfl,?_⟩) (args_list_sort _)));exact Ac ⟨_,rfl,h a_ ho⟩
def zlp {a kS:Addr}{keys:Array Value}{e e1:Nat}{st:SortSt}{P:PySem.Fin->Shared->Prop} (nk:s.heap.get? kS=some (seqObj "list" keys e)) (na:s.heap.get? a=some (seqObj "list" #[] e1)) (o7:kS≠a)
  (bP:keys.size<=sizeLine) (ho:Out ls vs ((arrOf st).map (·.2)).toList) (hsz:(arrOf st).size=vs.length) (hz:vs.length<=sizeLine) (kW:failedOf st=none)
  (h:∀h' a_ c,(∀b o,b≠kS->b≠a->s.heap.get? b=some o->h'.get? b=some o)->h'.get? a=some (seqObj "list" a_ c)->(∃o,h'.get? kS=some o)->Out ls vs a_.toList->h'.objs.size=s.heap.objs.size->P (.done (.ret .none)) { s with heap:=h' }) :
  wpAny (model prog w) A (ksk_tail a false e1 (.ref kS) st) P E s:=by
 have s1:=AG s.heap kS (Ax fun _=>(#[]:Array Value));have nC:(s.heap.update kS (Ax fun _=>(#[]:Array Value))).get? a=some (seqObj "list" #[] e1):=(s1.2 a o7.symm).trans na;have s2:=AG (s.heap.update kS (Ax fun _=>(#[]:Array Value))) a (Ax fun _=>(arrOf st).map (·.2));obtain⟨c2,cH⟩:∃c2,((s.heap.update kS (Ax fun _=>(#[]:Array Value))).update a (Ax fun _=>(arrOf st).map (·.2))).get? a=some (seqObj "list" ((arrOf st).map (·.2)) c2):=
  ⟨_,get?_update_seq nC fun _=>(arrOf st).map (·.2)⟩
 unfold ksk_tail
 try dsimp only
 simp only[Ai,if_false];refine Aa (listUpdate_at nk rfl ?_ bP (AQ _));refine Aa (wpAny_letGo ?_);refine Aa (seqEpoch_at nC rfl ?_);refine Aa (listUpdate_at nC rfl ?_ (AQ _) (AA (Nat.le_of_eq ((Array.size_map ..).trans hsz)) (Nat.le_succ_of_le hz)));rw[kW];simp only[bne_self_eq_false,Ai,if_false];refine Ac (h _ _ c2 (fun b o h1 h2 q=>(s2.2 b h2).trans ((s1.2 b h1).trans q)) cH ⟨_,(s2.2 kS o7).trans (get?_update_seq nk fun _=>#[])⟩ ho (by rw[A0,A0]))
end
end Srt
end
section
namespace L2
open PySem PySem.Spec PyProof.Rows
def clOf (cells:List (Str×Addr)):List (Str×NameKind)->List (Str×Addr)->List (Str×Addr)
 | [],acc=>acc
 | (n,k)::r,acc=>if (k == .free)=true then clOf cells r ((n,(cells.lookup n).getD 0)::acc) else clOf cells r acc
def ziA {env:Env}:∀(names:List (Str×NameKind)) (acc:List (Str×Addr)),(∀x∈names,x.2=.free->∃c,env.cells.lookup x.1=some c)->
  (forIn names acc fun x (r:List (Str×Addr))=>if (x.2 == .free)=true then do let c <- cellOf env x.1; pure (ForInStep.yield ((x.1,c)::r)) else pure (ForInStep.yield r):Sem (List (Str×Addr)))=pure (clOf env.cells names acc)
 | [],acc,_=>rfl
 | (n,k)::r,acc,h=>by
  rw[List.forIn_cons];have ih:=fun a=>ziA (env:=env) r a fun x hx=>h x (Aw _ hx);unfold clOf
  by_cases hk:(k == NameKind.free)=true
  ·have hk':k=.free:=by cases k <;> first | rfl | cases hk
   obtain⟨c,hc⟩:=h (n,k) Au hk';simp only[hk,if_true];unfold cellOf;rw[hc];simp only[pure_bind,Option.getD_some];exact ih _
  ·simp only[hk,Ai,if_false,pure_bind]
   exact ih _
def zf1 {scope:Scope}{env:Env} (h:∀x∈scope.names,x.2=.free->∃c,env.cells.lookup x.1=some c):closureFor scope env=pure (clOf env.cells scope.names []):=by
 rw[<- ziA scope.names [] h];unfold closureFor;simp
def zeA {cells:List (Str×Addr)}{x:Str}{c:Addr}:∀{names:List (Str×NameKind)}{acc:List (Str×Addr)},(∀y∈names,y.2=.free->∃d,cells.lookup y.1=some d)->(∀p∈acc,cells.lookup p.1=some p.2)->(clOf cells names acc).lookup x=some c->cells.lookup x=some c
 | [],acc,_,ha,h=>ha (x,c) (PySem.mem_of_lookup h)
 | (n,k)::r,acc,hn,ha,h=>by
  unfold clOf at h;have fU:∀y∈r,y.2=.free->∃d,cells.lookup y.1=some d:=fun y hy=>hn y (Aw _ hy)
  by_cases hk:(k == NameKind.free)=true
  ·have hk':k=.free:=by cases k <;> first | rfl | cases hk
   obtain⟨d,hd⟩:=hn (n,k) Au hk';rw[if_pos hk] at h;refine zeA fU (fun p hp=>?_) h;rcases List.mem_cons.mp hp with rfl | hp
   ·show cells.lookup n=some ((cells.lookup n).getD 0)
    have hd':cells.lookup n=some d:=hd;rw[hd']; rfl
   ·exact ha p hp
  ·rw[if_neg hk] at h
   exact zeA fU ha h
def zW {x:Str}{c:Addr}:∀{l:List (Str×Addr)},(x,c)∈l->∃d,l.lookup x=some d
 | [],h=>nomatch h
 | (y,d)::l,h=>by
  rw[A4]
  by_cases e:x=y
  ·subst e; exact⟨d,by simp⟩
  ·have hb:(x == y)=false:=by simpa using e
   rw[hb];rcases List.mem_cons.mp h with q | q
   ·cases q; exact absurd rfl e
   ·exact zW q
def zbR {cells:List (Str×Addr)}{x:Str}:∀{names:List (Str×NameKind)}{acc:List (Str×Addr)},((x,NameKind.free)∈names \/ ∃c,(x,c)∈acc)->∃c,(x,c)∈clOf cells names acc
 | [],acc,h=>h.elim (fun q=>nomatch q) id
 | (n,k)::r,acc,h=>by
  unfold clOf
  by_cases hk:(k == NameKind.free)=true
  ·rw[if_pos hk]
   refine zbR ?_;rcases h with h | ⟨c,h⟩
   ·rcases List.mem_cons.mp h with q | q
    ·cases q; exact .inr ⟨_,Au⟩
    ·exact .inl q
   ·exact .inr ⟨c,Aw _ h⟩
  ·rw[if_neg hk]
   refine zbR ?_;rcases h with h | h
   ·rcases List.mem_cons.mp h with q | q
    ·cases q; exact absurd rfl hk
    ·exact .inl q
   ·exact .inr h
def cxC (X:Cx) (scope:Scope) (N:List Str) (cl:List (Str×Addr)) (C:Addr) (s₀:Shared) (H₀:Hp) (ex:List Addr):Cx where
 prog:=X.prog
 w:=X.w
 K:=X.K
 mg:=X.mg
 base:=X.base
 A:=X.A
 N:=N
 s₀:=s₀
 H₀:=H₀
 env:=compEnvC scope cl C X.env
 outer:=X.stack
 stack:=X.stack
 ex:=ex
 fn:=fun _=>false
 calm:=X.calm
 pn:=X.pn
 xe:=fun _ _=>False
def PTL (X:Cx) (bz:List Expr) (t:TT):Prop:=
 ∀(aa:List (Addr×Obj)) (s:Shared) (σ:St) (H:Hp) (Q:Bool->Hp->Prop),Inv X aa σ H s->t σ H Q->
  wpAny (model X.prog X.w) X.A (forIn bz true fun c r=>if r=true then do let ok <- isTrue c X.env (eval c X.env); pure (ForInStep.yield ok) else pure (ForInStep.yield r)) (TP X aa σ Q) X.xe s
def tYes:TT:=fun _ H Q=>Q true H
def zM {X:Cx}:PTL X [] tYes:=fun _ _ _ H _ I h=>wpAny_tests_nil ⟨H,I,h⟩
def zlD {X:Cx}{c:Expr}{t:TT} (h:PT X c t):PTL X [c] t:=fun aa s σ H Q I hw=>wpAny_tests_one (h aa s σ H Q I hw)
def zgP (ar:List (Option Nat)) (σ:St):St:=ar.map fun c=>match c with
 | none=>none
 | some j=>(σ[j]?).getD none
def zaf (J:It) (g:TG) (tc:TT) (te:TE) (σ:St) (H1:Hp) (D:Addr) (Q:VK):Prop:=
 ∃W:Nat->Nat->St->Hp->Prop,(∃m,W 0 m σ (upd H1 D (.lst [])))/\
 ∀i m bf H2,W i m bf H2->(J.stop i H2/\Q (.ref D) H2) \/ (J.go i H2/\∀x H3,J.yld i H2 x H3->g x bf H3 fun av H4=>tc av H4 fun b H5=>
  if b=true then te av H5 fun y H6=>∃ys m',H6 D=some (.lst ys)/\ys.length<sizeLine/\m'<m/\W (i+1) m' av (upd H6 D (.lst (ys++[y])))
  else ∃m',m'<m/\W (i+1) m' av H5)
def tLC (wi:TI) (ar:List (Option Nat)) (g:TG) (tc:TT) (te:TE):TE:=fun σ H Q=>wi σ H fun J H1=>∀D,H1 D=none->zaf J g tc te (zgP ar σ) H1 D Q
def zjy (N N':List Str) (ar:List (Option Nat)) (scope:Scope):Prop:=
 ar.length=N'.length/\∀i j:Nat,ar[i]?=some (some j)->∃x:Str,N'[i]?=some x/\N[j]?=some x/\scope.names.lookup x=some .free
section
variable {X:Cx}{scope:Scope}{N':List Str}{ar:List (Option Nat)}{tg iter bX:Expr}{bz:List Expr}{wi:TI}{g:TG}{tc:TT}{te:TE}{pos:Pos}
def zbB {scope:Scope}{env:Env}{x:Str}:∀{names:List (Str×NameKind)},(names.lookup x=some .free \/ names.lookup x=some .cell)->
  ((names.map fun (n,k)=>if (k == NameKind.free && env.scope.kind == .function && env.kindOf n == some .cell) then (n,NameKind.cell) else (n,k)).lookup x=some .free \/
   (names.map fun (n,k)=>if (k == NameKind.free && env.scope.kind == .function && env.kindOf n == some .cell) then (n,NameKind.cell) else (n,k)).lookup x=some .cell)
 | [],h=>by simp at h
 | (n,k)::r,h=>by
  have ih:=@zbB scope env x r;show List.lookup x ((if (k == NameKind.free && env.scope.kind == .function && env.kindOf n == some .cell)=true then (n,NameKind.cell) else (n,k))::_)=_ \/ List.lookup x ((if (k == NameKind.free && env.scope.kind == .function && env.kindOf n == some .cell)=true then (n,NameKind.cell) else (n,k))::_)=_;cases hx:x == n with
  | true=>
   simp only[A4,hx] at h
   by_cases hc:(k == NameKind.free && env.scope.kind == .function && env.kindOf n == some .cell)=true
   ·rw[if_pos hc]; simp[A4,hx]
   ·rw[if_neg hc]; simp only[A4,hx]; exact h
  | false=>
   simp only[A4,hx] at h
   by_cases hc:(k == NameKind.free && env.scope.kind == .function && env.kindOf n == some .cell)=true
   ·rw[if_pos hc]; simp only[A4,hx]; exact ih h
   ·rw[if_neg hc]; simp only[A4,hx]; exact ih h
def zbq {env:Env}{x:Str}{kd:NameKind}:∀{names:List (Str×NameKind)},(names.map fun (n,k)=>if (k == NameKind.free && env.scope.kind == .function && env.kindOf n == some .cell) then (n,NameKind.cell) else (n,k)).lookup x=some kd->
  ∃k',names.lookup x=some k'/\(kd=k' \/ (k'=.free/\kd=.cell))
 | [],h=>by simp at h
 | (n,k)::r,h=>by
  have ih:=@zbq env x kd r;have h':List.lookup x ((if (k == NameKind.free && env.scope.kind == .function && env.kindOf n == some .cell)=true then (n,NameKind.cell) else (n,k))::_)=some kd:=h;cases hx:x == n with
  | true=>
   simp only[A4,hx]
   by_cases hc:(k == NameKind.free && env.scope.kind == .function && env.kindOf n == some .cell)=true
   ·rw[if_pos hc] at h'
    simp only[A4,hx] at h';cases h';have hk:k=.free:=by
     rw[AF,AF] at hc;cases k <;> first | rfl | exact absurd hc.1.1 (by decide)
    exact⟨k,rfl,.inr ⟨hk,rfl⟩⟩
   ·rw[if_neg hc] at h'
    simp only[A4,hx] at h';cases h';exact⟨_,rfl,.inl rfl⟩
  | false=>
   simp only[A4,hx]
   by_cases hc:(k == NameKind.free && env.scope.kind == .function && env.kindOf n == some .cell)=true
   ·rw[if_pos hc] at h'; simp only[A4,hx] at h'; exact ih h'
   ·rw[if_neg hc] at h'; simp only[A4,hx] at h'; exact ih h'
structure Left (X:Cx) (aa:List (Addr×Obj)) (σ:St) (H':Hp) (s4:Shared) (C:Addr):Prop where
 ns:∃m,s4.heap.Ns C m
 far:X.s₀.heap.objs.size<=C
 nl:C≠X.env.locals
 nc:∀x c,X.env.cells.lookup x=some c->c≠C
 np:∀p∈X.pn++aa,p.1≠C
 no:H' C=none
 back:∀h',AC C s4.heap h'->Inv X aa σ H' { s4 with heap:=h' }
def zdG {use:Option (Value->Sem Unit)}{R:Value->Shared->Prop}{pp:Pos} (hc:X.calm=true) (hk:scope.kind=.function) (aD:∀y∈scope.names,y.2≠.cell) (aJ:∀y∈scope.names,y.2=.local->scope.names.lookup y.1=some .local)
  (hfr:∀y∈scope.names,y.2=.free->X.env.kindOf y.1=some .cell \/ X.env.kindOf y.1=some .free) (bM:zjy X.N N' ar scope)
  (hi:PI X tg iter wi) (hg:∀cl C s₀ H₀ ex,PG (cxC X scope N' cl C s₀ H₀ ex) tg g) (ht:∀cl C s₀ H₀ ex,PTL (cxC X scope N' cl C s₀ H₀ ex) bz tc) (he:∀cl C s₀ H₀ ex,PE (cxC X scope N' cl C s₀ H₀ ex) bX te)
  (hs:∀x,foldedSetIterable iter X.env x=pure x) {aa:List (Addr×Obj)} {s:Shared} {σ:St} {H:Hp} {Q:VK} (I:Inv X aa σ H s) (h:tLC wi ar g tc te σ H Q)
  (fin:∀(D C:Addr) (H':Hp) (s4:Shared) (f:Flow),Left X aa σ H' s4 C->Q (.ref D) H'->compPost (model X.prog X.w) X.A X.xe use R (.ref D) C (.ok f) s4) :
  wpAny (model X.prog X.w) X.A (comprehension (.ListComp bX [⟨tg,iter,bz,0⟩] scope pos) scope X.env pp (newList []) (firstAsync [⟨tg,iter,bz,0⟩]) (firstIter [⟨tg,iter,bz,0⟩] X.env) use) R X.xe s:=by
 have hcl:∀y∈scope.names,y.2=.free->∃c,X.env.cells.lookup y.1=some c:=fun y hy e=>I.ok.has y.1 (hfr y hy e);refine wpAny_comprehension_free (use:=use) rfl hs (zf1 hcl) hk aJ ?_;refine thn (hi aa s σ H _ I h) fun xv s1 h1=>thn h1 fun nh s2 h2=>?_;obtain⟨it,fp,tn,J,H2,e,I2,T,d_,f2,q⟩:=h2;subst e;have kH:H2 s2.heap.objs.size=none:=I2.hok.fresh (Af _);obtain⟨W,⟨m0,w0⟩,turn⟩:=q s2.heap.objs.size kH;refine AI (wpAny_newFunctionEnv aD (by intro y hy; simp at hy) (fun aq cX cR=>?_) hk);dsimp only at cX cR ⊢;generalize hD:s2.heap.objs.size=D at *;obtain⟨s3,e3⟩:∃s3:Shared,s3={ s2 with heap:=s2.heap.push { cls:=.type "list",dict:=none,data:=.seq ([]:List Value).toArray } }:=⟨_,rfl⟩;have h3:s3.heap=s2.heap.push { cls:=.type "list",dict:=none,data:=.seq ([]:List Value).toArray }:=by rw[e3]
 rw[<- h3] at cX cR ⊢;have aj:s3.heap.objs.size=D+1:=by rw[h3,Heap.size_push,hD]
 have I3:Inv X aa σ (upd H2 D (.lst [])) s3:=by
  rw[e3,<- hD];exact I2.lnew (t':=s2.toks) (ys:=[]) .nil (AQ _)
 obtain⟨Xc,eX⟩:∃Xc,Xc=cxC X scope N' (clOf X.env.cells scope.names []) s3.heap.objs.size s3 (upd H2 D (.lst [])) fp:=⟨_,rfl⟩;have lM:PG Xc tg g:=by rw[eX]; exact hg _ _ _ _ _
 have ht':PTL Xc bz tc:=by rw[eX]; exact ht _ _ _ _ _
 have he':PE Xc bX te:=by rw[eX]; exact he _ _ _ _ _
 have xP:Xc.prog=X.prog:=by rw[eX]; rfl
 have xw:Xc.w=X.w:=by rw[eX]; rfl
 have xK:Xc.K=X.K:=by rw[eX]; rfl
 have xA:Xc.A=X.A:=by rw[eX]; rfl
 have xc:Xc.calm=true:=by rw[eX]; exact hc
 have xe:Xc.env=compEnvC scope (clOf X.env.cells scope.names []) s3.heap.objs.size X.env:=by rw[eX]; rfl
 have xE:Xc.xe=fun _ _=>False:=by rw[eX]; rfl
 have hcin:∀x c,(clOf X.env.cells scope.names []).lookup x=some c->X.env.cells.lookup x=some c:=fun x c e=>zeA hcl (fun p hp=>absurd hp (by simp)) e;have n6:∀b∈fp,b≠D/\b<D:=fun b hb=>by
  obtain⟨ob,eb,_⟩:=T.obj 0 _ d_ b hb;have:=Aj eb;rw[hD] at this;exact⟨As this,this⟩
 have hfs:∀b∈frs X.stack,b<D:=fun b hb=>by
  obtain⟨_,ob,eb,_⟩:=I2.stack.mem hb;have:=Aj eb;rw[hD] at this;exact this
 have hold:∀b o,s3.heap.get? b=some o->aq.get? b=some o:=fun b o e=>by
  have hb:b≠s3.heap.objs.size:=As (Aj e);exact (cR.2 b hb).trans (Ae _ e)
 have hCf:(upd H2 D (.lst [])) s3.heap.objs.size=none:=I3.hok.fresh (Af _);have Ic:Inv Xc aa (zgP ar σ) (upd H2 D (.lst [])) { s3 with heap:=aq }:=by
  have okc:Xc.Ok:=by
   rw[eX];refine⟨I.ok.mod,hk,I.ok.glob,I.ok.blt,Af _,fun x y c a b=>I.ok.inj x y c (hcin x c a) (hcin y c b),fun x hx=>?_,(fun x c a=>absurd a Ao),I.ok.hd,I.ok.frames,.inl rfl,fun b hb=>⟨?_,fun x c e=>?_⟩,fun b o e=>?_,?_,fun b o e z=>?_,fun b hb z=>?_,?_,fun b hb=>?_⟩
   ·have hx':(relabel scope X.env).names.lookup x=some .cell \/ (relabel scope X.env).names.lookup x=some .free:=hx
    have key:∃k',scope.names.lookup x=some k'/\(k'=.free \/ k'=.cell):=by
     rcases hx' with q | q
     ·obtain⟨k',e1,e2⟩:=zbq q
      rcases e2 with e2 | ⟨e2,_⟩
      ·exact⟨k',e1,.inr e2.symm⟩
      ·exact⟨k',e1,.inl e2⟩
     ·obtain⟨k',e1,e2⟩:=zbq q
      rcases e2 with e2 | ⟨e2,_⟩
      ·exact⟨k',e1,.inl e2.symm⟩
      ·exact⟨k',e1,.inl e2⟩
    obtain⟨k',e1,e2⟩:=key;have hm:=PySem.mem_of_lookup e1;rcases e2 with rfl | rfl
    ·obtain⟨c,fB⟩:=zbR (cells:=X.env.cells) (acc:=[]) (.inl hm)
     exact zW fB
    ·exact absurd rfl (aD _ hm)
   ·show b≠s3.heap.objs.size
    exact As (by rw[aj]; exact Nat.lt_succ_of_lt (n6 b hb).2)
   ·exact (f2 b hb).2.2.2.2.1 x c (hcin x c e)
   ·exact I3.bs b o e
   ·exact AA I.ok.bsz I3.sz
   ·obtain⟨f,_,_,fx,_,_⟩:=f2 b z
    rcases fx with fx | fx
    ·exact I.ok.noex b o e fx
    ·have:=Ay (Aj e) I.ok.bsz
     omega
   ·rcases List.mem_cons.mp (I2.stkSub b z) with r | r
    ·exact (f2 b hb).2.1 r
    ·exact (f2 b hb).2.2.1 r
   ·exact I3.stack
   ·exact I3.stkFree b hb
  refine⟨okc,(by rw[eX]; rfl),I3.bare,?_,?_,fun x c e=>?_,?_,fun x c e=>?_,fun p hp=>?_,?_,?_⟩
  ·rw[eX]
   exact Un.kept hold
  ·rw[xe]
   refine⟨_,cX,fun i x v e1 e2 e3=>?_⟩;obtain⟨c1,c2⟩:=bM;unfold zgP at e2;rw[Am] at e2;cases e4:ar[i]? with
   | none=>rw[e4] at e2; cases e2
   | some cc=>
    rw[e4] at e2;cases cc with
    | none=>cases e2
    | some j=>
     obtain⟨y,d1,d2,d3⟩:=c2 i j e4;have cw:N'[i]?=some x:=by rw[eX] at e1; exact e1
     rw[d1] at cw;have wQ:y=x:=Al cw;subst wQ;have e5:σ[j]?=some (some v):=by
      simp only[Option.map_some,Option.some.injEq] at e2;cases e6:σ[j]? with
      | none=>rw[e6] at e2; cases e2
      | some ov=>rw[e6] at e2; simp only[Option.getD_some] at e2; rw[e2]
     have hm:=PySem.mem_of_lookup d3;have vy:Vis X.env.scope y:=by
      rcases hfr _ hm rfl with q | q
      ·exact .inr (.inl q)
      ·exact .inr (.inr q)
     obtain⟨m,_,hl⟩:=I3.loc;obtain⟨u,ru,lk⟩:=hl j y v d2 e5 vy;refine⟨u,ru,?_⟩;have uI:∃c,X.env.cells.lookup y=some c/\s3.heap.IsCell c (some u):=by
      rcases lk with ⟨k1,_⟩ | ⟨_,c,k2,k3⟩
      ·rcases hfr _ hm rfl with q | q
       ·rw[k1] at q; cases q
       ·rw[k1] at q; cases q
      ·exact⟨c,k2,k3⟩
     obtain⟨c,k2,k3⟩:=uI;obtain⟨d,hd'⟩:=zbR (cells:=X.env.cells) (acc:=[]) (.inl hm);obtain⟨d',ax⟩:=zW hd';have:c=d':=by
      have:=hcin y d' ax;rw[k2] at this;exact Al this
     subst this;refine .inr ⟨?_,c,ax,k3.keeps hold⟩;have rl:=zbB (scope:=scope) (env:=X.env) (x:=y) (names:=scope.names) (.inl d3);rcases rl with q | q
     ·exact .inr q
     ·exact .inl q
  ·rw[xe] at e
   obtain⟨v,k3⟩:=I3.cell x c (hcin x c e);exact⟨v,k3.keeps hold⟩
  ·rw[xe]; exact hCf
  ·rw[xe] at e
   exact I3.freeC x c (hcin x c e)
  ·have cz:p∈X.pn++aa:=by rw[eX] at hp; exact hp
   obtain⟨a1,a2,a3,a4,a5⟩:=I3.pin p cz;refine⟨hold _ _ a1,a2,?_,?_,a5⟩
   ·rw[xe]
    show p.1≠s3.heap.objs.size;exact As (Aj a1)
   ·rw[eX]
    intro z;rcases List.mem_cons.mp (I3.stkSub p.1 z) with r | r
    ·exact a3 r
    ·exact a4 r
  ·rw[xP,xw]
   exact I3.hok.kept hold
  ·unfold zgP
   rw[Ab,bM.1,eX]
   rfl
 have leave:∀{ao:St} {H':Hp} {s4:Shared} {h':Heap},Inv Xc aa ao H' s4->AC s3.heap.objs.size s4.heap h'->Inv X aa σ H' { s4 with heap:=h' }:=fun {ao H' s4 h'} I4 hs'=>by
  have hlt:∀b o,s2.heap.get? b=some o->b≠D/\b≠s3.heap.objs.size:=fun b o e=>by
   have hb:=Aj e;rw[hD] at hb;exact⟨As hb,As (by rw[aj]; exact Nat.lt_succ_of_lt hb)⟩
  have up3:∀b o,s2.heap.get? b=some o->s3.heap.get? b=some o:=fun b o e=>by rw[h3]; exact Ae _ e
  have base:Un (frs X.stack) fp (upd H2 D (.lst [])) H' s3.heap s4.heap:=by
   have:=I4.base;rw[eX] at this;exact this
  have hCn:H' s3.heap.objs.size=none:=by
   have:=I4.free;rw[xe] at this;exact this
  have os4:s4.os=s2.os:=by
   have:=I4.os;rw[eX] at this;rw[this];show s3.os=s2.os;rw[e3]
  refine I2.call' (s':={ s4 with heap:=h' }) (ch:=fp) os4 ⟨fun b o q n hb hx=>?_,fun b o q n hb hx=>?_,fun b o q n hx=>?_,fun b o q hx=>?_,fun b xs q=>?_,fun b o u q=>?_,fun b ps q=>?_⟩ ?_ I4.bare fun b hb=>?_
  ·obtain⟨n1,n2⟩:=hlt b o q
   exact (hs'.2 b n2).trans (base.keep b o (up3 b o q) (by rw[zh n1]; exact n) hb hx)
  ·obtain⟨n1,n2⟩:=hlt b o q
   obtain⟨sl,e⟩:=base.slot b o (up3 b o q) (by rw[zh n1]; exact n) hb hx;exact⟨sl,(hs'.2 b n2).trans e⟩
  ·obtain⟨n1,n2⟩:=hlt b o q
   exact base.free b o (up3 b o q) (by rw[zh n1]; exact n) hx
  ·obtain⟨n1,n2⟩:=hlt b o q
   obtain⟨o',e⟩:=base.there b o (up3 b o q) hx;exact⟨o',(hs'.2 b n2).trans e⟩
  ·exact base.tups b xs (by rw[zh (zg q kH)]; exact q)
  ·exact base.frzs b o u (by rw[zh (zg q kH)]; exact q)
  ·exact base.tbls b ps (by rw[zh (zg q kH)]; exact q)
  ·intro b u e
   have kB:=I4.hok b u e;rw[xP,xw] at kB;refine kB.stay (fun c v hc q=>(hs'.2 c ?_).trans q) (fun _ q=>q) fun _ _ q=>q;rintro rfl;rcases hc with z | z
   ·rw[<- z,hCn] at e; cases e
   ·rw[hCn] at z; cases z
  ·obtain⟨f0,f1,f3,f4,f5,f6⟩:=f2 b hb
   exact⟨f4,f1,f5,f6⟩
 have stat:∀{H':Hp},(∀b∈fp,H' b=none)->∀b∈fp,FpOk Xc aa H' b:=fun {H'} hn b hb=>by
  obtain⟨f0,f1,f3,f4,f5,f6⟩:=f2 b hb;refine⟨hn b hb,?_,?_,.inl (by rw[eX]; exact hb),fun x c e=>?_,fun p hp=>?_⟩
  ·rw[xe]
   show b≠s3.heap.objs.size;exact As (by rw[aj]; exact Nat.lt_succ_of_lt (n6 b hb).2)
  ·rw[eX]
   intro z;rcases List.mem_cons.mp (I2.stkSub b z) with r | r
   ·exact f1 r
   ·exact f3 r
  ·rw[xe] at e
   exact f5 x c (hcin x c e)
  ·rw[eX] at hp
   exact f6 p hp
 subst eX;have i8:∀n s',(∃i ao H',Inv (cxC X scope N' (clOf X.env.cells scope.names []) s3.heap.objs.size s3 (upd H2 D (.lst [])) fp) aa ao H' s'/\tn i s'.heap/\(∀b∈fp,H' b=none)/\W i n ao H')->
   codeAny (model X.prog X.w) X.A (.compLoop (.ListComp bX [⟨tg,iter,bz,0⟩] scope pos) 0 (.ref it) (.ref D) (compEnvC scope (clOf X.env.cells scope.names []) s3.heap.objs.size X.env)) (compPost (model X.prog X.w) X.A X.xe use R (.ref D) s3.heap.objs.size) s':=by
  intro n0 yP wW;refine codeAny_loop rfl (fun n s'=>∃i ao H',Inv (cxC X scope N' (clOf X.env.cells scope.names []) s3.heap.objs.size s3 (upd H2 D (.lst [])) fp) aa ao H' s'/\tn i s'.heap/\(∀b∈fp,H' b=none)/\W i n ao H') (fun n s' hI=>?_) n0 wW;obtain⟨i,ao,H',I',ak,p8,w'⟩:=hI;show wpAny _ X.A ((compTurn (.ListComp bX [⟨tg,iter,bz,0⟩] scope pos) 0 (.ref it) (.ref D) (compEnvC scope (clOf X.env.cells scope.names []) s3.heap.objs.size X.env)).onRaise (fun x=>do noteFrame x (compEnvC scope (clOf X.env.cells scope.names []) s3.heap.objs.size X.env); theTreesLotGoes x)) _ _ s';refine wpAny_noted ?_;rw[compTurn_list];refine Aa (wpAny_standAt (Aa ?_));rcases turn i n ao H' w' with ⟨stop,qn⟩ | ⟨go,step⟩
  ·refine thn (T.done (cxC X scope N' (clOf X.env.cells scope.names []) s3.heap.objs.size s3 (upd H2 D (.lst [])) fp) rfl rfl rfl hc i aa s' ao H' _ I' (stat p8) ak stop) fun r s4 ⟨hr,I4⟩=>?_
   subst hr;refine Ac ?_;obtain⟨m,hn,_⟩:=id I4.loc;refine fin D _ H' s4 _ ⟨⟨m,hn⟩,I3.sz,fun e=>?_,fun x c e=>?_,fun p hp=>As (Aj (I3.pin p hp).1),I4.free,fun h' hs'=>leave I4 hs'⟩ qn
   ·obtain⟨m3,xb,_⟩:=I3.loc
    obtain⟨o3,_,_,n9,_⟩:=xb;exact absurd e.symm (As (Aj n9))
   ·obtain⟨v,hv⟩:=I3.cell x c e
    obtain⟨o3,n9,_⟩:=hv;exact As (Aj n9)
  ·refine thn (T.item (cxC X scope N' (clOf X.env.cells scope.names []) s3.heap.objs.size s3 (upd H2 D (.lst [])) fp) rfl rfl rfl hc i aa s' ao H' _ I' (stat p8) ak go) fun r s4 ⟨u,hr,h4⟩=>?_
   subst hr;refine Aa (thn h4 fun _ s5 ⟨x,H5,I5,r5,y5,st5,fr5⟩=>?_);have me:=I5.pinned (stat fr5) (T.obj _ _ st5);refine Aa (wpAny_mono (lM _ s5 ao H5 x u _ me r5 (step x H5 y5)) (fun _ s6 h6=>?_) fun _ _ z=>z.elim);obtain⟨jQ,H6,I6,q6⟩:=h6;refine Aa (wpAny_mono (ht' _ s6 jQ H6 _ I6 q6) (fun ok s7 h7=>?_) fun _ _ z=>z.elim);obtain⟨H7,I7,q7⟩:=h7;have again:∀{kP:St} {H8:Hp} {s8:Shared} {m':Nat},Inv (cxC X scope N' (clOf X.env.cells scope.names []) s3.heap.objs.size s3 (upd H2 D (.lst [])) fp) (aa++zdz fp s5.heap) kP H8 s8->m'<n->W (i+1) m' kP H8->
     ∃m,m<n/\∃i ao H',Inv (cxC X scope N' (clOf X.env.cells scope.names []) s3.heap.objs.size s3 (upd H2 D (.lst [])) fp) aa ao H' s8/\tn i s8.heap/\(∀b∈fp,H' b=none)/\W i m ao H':=fun {kP H8 s8 m'} I8 hm w8=>by
    refine⟨m',hm,i+1,kP,H8,I8.unpinned,T.keep _ _ _ st5 fun b hb o e=>(I8.pin (b,o) (AT _ (AT _ (zaS hb e)))).1,fun b hb=>?_,w8⟩;obtain⟨o,e,d⟩:=T.obj _ _ st5 b hb;exact (I8.pin (b,o) (AT _ (AT _ (zaS hb e)))).2.1
   cases ok with
   | false=>
    obtain⟨m',hm,w7⟩:=q7;exact Ac ⟨rfl,again I7 hm w7⟩
   | true=>
    refine Aa (Aa (wpAny_mono (he' _ s7 jQ H7 _ I7 q7) (fun v s8 h8=>?_) fun _ _ z=>z.elim));obtain⟨y,H8,I8,r8,ys,m',lf,uC,ui,w8⟩:=h8;refine Aa (wpAny_mono (zai (X:=cxC X scope N' (clOf X.env.cells scope.names []) s3.heap.objs.size s3 (upd H2 D (.lst [])) fp) _ s8 jQ H8 (.ref D) [y] (.ref D) [v] (fun _ H9=>H9=upd H8 D (.lst (ys++[y]))) I8 rfl (.cons r8 .nil) ⟨D,ys,y,rfl,rfl,lf,uC,rfl⟩) (fun _ s9 h9=>?_) fun _ _ z=>z.elim);obtain⟨_,H9,I9,_,e9⟩:=h9;subst e9;exact Ac (Ac ⟨rfl,again I9 ui w8⟩)
 have start:∃i ao H',Inv (cxC X scope N' (clOf X.env.cells scope.names []) s3.heap.objs.size s3 (upd H2 D (.lst [])) fp) aa ao H' { s3 with heap:=aq }/\tn i ({ s3 with heap:=aq }:Shared).heap/\(∀b∈fp,H' b=none)/\W i m0 ao H':=by
  refine⟨0,zgP ar σ,upd H2 D (.lst []),Ic,T.keep 0 _ _ d_ fun b hb o e=>hold b o (by rw[h3]; exact Ae _ e),fun b hb=>?_,w0⟩;rw[zh (n6 b hb).1];exact (f2 b hb).1
 have es:({ s2 with heap:=aq,toks:=s2.toks+([]:List (Str×Value)).length }:Shared)={ s3 with heap:=aq }:=by rw[e3]; rfl
 show codeAny (model X.prog X.w) X.A _ _ ({ s2 with heap:=aq,toks:=s2.toks+([]:List (Str×Value)).length }:Shared);rw[es];refine codeAny_compStart_list (i8 m0 _ start) (T.self _ 0 _ _ _ ?_ (i8 m0 _ start));exact T.keep 0 _ _ d_ fun b hb o e=>hold b o (by rw[h3]; exact Ae _ e)
def zkZ (hc:X.calm=true) (hk:scope.kind=.function) (aD:∀y∈scope.names,y.2≠.cell) (aJ:∀y∈scope.names,y.2=.local->scope.names.lookup y.1=some .local)
  (hfr:∀y∈scope.names,y.2=.free->X.env.kindOf y.1=some .cell \/ X.env.kindOf y.1=some .free) (bM:zjy X.N N' ar scope)
  (hi:PI X tg iter wi) (hg:∀cl C s₀ H₀ ex,PG (cxC X scope N' cl C s₀ H₀ ex) tg g) (ht:∀cl C s₀ H₀ ex,PTL (cxC X scope N' cl C s₀ H₀ ex) bz tc) (he:∀cl C s₀ H₀ ex,PE (cxC X scope N' cl C s₀ H₀ ex) bX te)
  (hs:∀x,foldedSetIterable iter X.env x=pure x:=by intro _; rfl):PE X (.ListComp bX [⟨tg,iter,bz,0⟩] scope pos) (tLC wi ar g tc te):=by
 intro aa s σ H Q I h;rw[eval_ListComp];refine zdG (use:=none) hc hk aD aJ hfr bM hi hg ht he hs I h fun D C H' s4 f L q=>?_;obtain⟨m,hn⟩:=L.ns;exact⟨m,hn,fun h' hs'=>⟨.ref D,H',L.back h' hs',rfl,q⟩⟩
end
end L2
end
section
namespace Zp
open PySem PySem.Spec PyProof.Rows
section
variable {prog:Program}{w:World}{A:Around}{E:Value->Shared->Prop}{s:Shared}
def zjC {it t:Addr}{i:Nat}{af:Array Value}{x:Value}{Q:Value->Shared->Prop} (aw:s.heap.IsTupleIter it t i) (ht:s.heap.IsTuple t af) (hx:af[i]?=some x)
  (hQ:∀h',h'.IsTupleIter it t (i+1)->AC it s.heap h'->Q x { s with heap:=h' }):wpAny (model prog w) A (Builtin.SmallTypes.nextOf (.ref it)) Q E s:=by
 obtain⟨o,ho,hc,hd⟩:=id aw;obtain⟨ol,iB,_,nl,gv⟩:=ht;unfold Builtin.SmallTypes.nextOf;refine Aa (AO (name:=A3 "__next__") aw.typeIs F.slot_tuple_iterator_next (AV F.slot_tuple_iterator_next aw.typeIs F.entry_tuple_iterator_next ?_ (F.args_tuple_iterator_next_1 _)));show wpAny _ _ (field (.ref it) 0 >>= _) _ _ s;refine Aa (AN ho hd (x:=.ref t) rfl ?_);show wpAny _ _ (if (Value.ref t == Value.none)=true then _ else _) _ _ s;rw[if_neg (show ¬ ((Value.ref t == Value.none)=true) from Ao)];show wpAny _ _ (field (.ref it) 1 >>= _) _ _ s;refine Aa (AN ho hd (x:=.int i 0) rfl ?_);show wpAny _ _ (seqItems? (.ref t) >>= _) _ _ s;refine Aa (wpAny_seqItems iB gv ?_);simp only[Int.toNat_natCast,hx];refine Aa (wpAny_setField ho hd (by simp) (Ac ⟨x,rfl,Ac (hQ _ ?_ (AG ..))⟩));exact⟨_,AU _ ho (Obj.isFreed_of_fields (Obj.data_mapFields hd _)),(Obj.cls_mapFields ..).trans hc,by
  rw[Obj.data_mapFields hd]; simp[rawInt]⟩
def zk2 {it t:Addr}{i:Nat}{af:Array Value}{Q:Value->Shared->Prop} (hh:A.handled=none) (aw:s.heap.IsTupleIter it t i) (ht:s.heap.IsTuple t af) (hx:af[i]?=none)
  (hE:∀h' e,Heap.ExtBut it s.heap h'->(∃o,h'.get? e=some o/\o.cls=.type "StopIteration")->E (.ref e) { s with heap:=h' }):wpAny (model prog w) A (Builtin.SmallTypes.nextOf (.ref it)) Q E s:=by
 obtain⟨o,ho,hc,hd⟩:=id aw;obtain⟨ol,iB,_,nl,gv⟩:=ht;unfold Builtin.SmallTypes.nextOf;refine Aa (AO (name:=A3 "__next__") aw.typeIs F.slot_tuple_iterator_next (AV F.slot_tuple_iterator_next aw.typeIs F.entry_tuple_iterator_next ?_ (F.args_tuple_iterator_next_1 _)));show wpAny _ _ (field (.ref it) 0 >>= _) _ _ s;refine Aa (AN ho hd (x:=.ref t) rfl ?_);show wpAny _ _ (if (Value.ref t == Value.none)=true then _ else _) _ _ s;rw[if_neg (show ¬ ((Value.ref t == Value.none)=true) from Ao)];show wpAny _ _ (field (.ref it) 1 >>= _) _ _ s;refine Aa (AN ho hd (x:=.int i 0) rfl ?_);show wpAny _ _ (seqItems? (.ref t) >>= _) _ _ s;refine Aa (wpAny_seqItems iB gv ?_);simp only[Int.toNat_natCast,hx];refine Aa (wpAny_rule (Aa (wpAny_setField ho hd (by simp) ?_)));show wpAny _ _ (newExc (.type "StopIteration") [] >>= _) _ _ _;refine Aa ?_;simp only[newExc,newTuple];refine Aa (AI ?_ (by size_fits));refine Aa (m:=firstArgMember _ _) (wpAny_of_eq (a:=Value.none) (by first | rfl | (simp only[firstArgMember]; rfl)) ?_);refine AI ?_ (by size_fits);simp only[raiseNew];refine Aa (wpAny_handled ?_)
 first | rw[show A.in1.handled=none from hh] | rw[hh]
 refine Aa (Ac (wpAny_throw ?_));exact hE _ _ (((AG ..).extBut.push _).push _) ⟨_,Ak _ rfl,rfl⟩
end
def ziQ {h h':Heap}{a:Addr}{af:Array Value} (x:h.IsTuple a af) (e:∀o,h.get? a=some o->h'.get? a=some o):h'.IsTuple a af:=let ⟨o,ho,r⟩:=x; ⟨o,e o ho,r⟩
def zd2 {prog:Program}{w:World}{A:Around} (hh:A.handled=none) (it t:Addr) (hne:t≠it) (af:Array Value) :
  Draws prog w A it [it,t] af.size (fun i v=>af[i]?=some v) (fun i h=>h.IsTupleIter it t i/\h.IsTuple t af) where
 live:=fun _ _ st=>let ⟨o,ho,_⟩:=st.1; ⟨o,ho⟩
 frame:=fun _ _ _ st hk=>⟨st.1.at fun o e=>hk it (by simp) o e,ziQ st.2 fun o e=>hk t (by simp) o e⟩
 item:=fun i s Q E hi st hQ=>by
  refine zjC st.1 st.2 (x:=af[i]) (by simp[hi]) fun h' cr hs'=>?_;exact hQ _ h' s.toks (by simp[hi]) ⟨cr,st.2.extBut hs'.extBut hne⟩ hs'
 done:=fun s Q E st hE=>zk2 hh st.1 st.2 (by simp) hE
structure Apart (z TI TO i1 i2:Addr) (b_ bY:List Addr):Prop where
 z1:z∉b_
 z2:z∉bY
 o1:TO∉b_
 o2:TO∉bY
 m1:i1∈b_
 m2:i2∈bY
 x12:i1∉bY
 x21:i2∉b_
 TIz:TI≠z
 TOz:TO≠z
 TITO:TI≠TO
 TIi1:TI≠i1
 TIi2:TI≠i2
section
variable {prog:Program}{w:World}{A:Around}{E:Value->Shared->Prop}{s:Shared}{z TI TO i1 i2:Addr}{b_ bY:List Addr}{n1 n2 i:Nat}{P1 P2:Nat->Value->Prop}{S1 S2:Nat->Heap->Prop}{a b:Value}
def zjW {Q:Value->Shared->Prop} (D1:Draws prog w A i1 b_ n1 P1 S1) (D2:Draws prog w A i2 bY n2 P2 S2) (D:Apart z TI TO i1 i2 b_ bY)
  (hz:IsZip s.heap z TI TO .none) (dM:IsPair s.heap TI (.ref i1) (.ref i2)) (dD:IsPair s.heap TO a b) (h1:S1 i s.heap) (h2:S2 i s.heap) (l1:i<n1) (l2:i<n2)
  (hQ:∀x y h' tk,P1 i x->P2 i y->IsZip h' z TI TO (rawInt s.heap.objs.size)->IsPair h' TO x y->S1 (i+1) h'->S2 (i+1) h'->IsPair h' s.heap.objs.size x y->h'.objs.size=s.heap.objs.size+1->
   (∀c o,c≠z->c≠TO->c≠i1->c≠i2->s.heap.get? c=some o->h'.get? c=some o)->Q (.ref s.heap.objs.size) { s with heap:=h',toks:=tk }) :
  wpAny (model prog w) A (Builtin.«zip.__next__» ⟨[.ref z],[]⟩) (fun fin s'=>∃v,fin=.done (.ret v)/\Q v s') E s:=by
 have ne1:∀c∈b_,c≠z:=fun c hc e=>D.z1 (e ▸ hc);have iJ:∀c∈bY,c≠z:=fun c hc e=>D.z2 (e ▸ hc);have jP:∀c∈b_,c≠TO:=fun c hc e=>D.o1 (e ▸ hc);have jr:∀c∈bY,c≠TO:=fun c hc e=>D.o2 (e ▸ hc);have mT:∀c∈bY,c≠i1:=fun c hc e=>D.x12 (e ▸ hc);have vn:∀c∈b_,c≠i2:=fun c hc e=>D.x21 (e ▸ hc);have j5:i1≠z:=ne1 _ D.m1;have lG:i2≠z:=iJ _ D.m2;have ig:TO≠i1:=(jP _ D.m1).symm;have lR:TO≠i2:=(jr _ D.m2).symm;show wpAny _ _ (field (.ref z) 2 >>= _) _ _ _;refine Aa (AN hz rfl (x:=.bool false) rfl ?_);show wpAny _ _ (field (.ref z) 3 >>= _) _ _ _;refine Aa (AN hz rfl (x:=.ref TI) rfl ?_);refine Aa (wpAny_seqItems dM rfl ?_);show wpAny _ _ (Builtin.SmallTypes.ownedTupleIsFree (.ref z) >>= _) _ _ _;refine Aa ?_;unfold Builtin.SmallTypes.ownedTupleIsFree;refine Aa (AN hz rfl (x:=.none) rfl (Ac ?_));simp only[if_true];refine Aa (wpAny_rule ?_);refine Aa (AN hz rfl (x:=.ref TO) rfl ?_);refine Aa (A2 hz (by simp) fun g1 hz1 k1=>?_);replace hz1:IsZip g1 z TI TO .ellipsis:=hz1;refine Aa ?_;simp only[List.zipIdx_cons,List.zipIdx_nil,List.forIn_cons,List.forIn_nil];refine Aa (Aa (wpAny_onRaise ?_));show wpAny _ _ (Builtin.SmallTypes.nextOf (.ref i1) >>= _) _ _ _;refine Aa (D1.item i _ _ _ l1 (D1.frame _ _ _ h1 fun c hc o e=>k1.extBut c o (ne1 c hc) e) fun x g2 rn px s2 k2=>Ac ?_);have t2:IsPair g2 TO a b:=k2.extBut _ _ ig (k1.extBut _ _ D.TOz dD);refine Aa (wpAny_seqItems t2 rfl ?_);refine Aa (wpAny_updateSeq_pair t2 fun g3 t3 k3=>?_);replace t3:IsPair g3 TO x b:=t3;refine Aa (wpAny_letGo (Ac ?_));refine Aa (Aa (wpAny_onRaise ?_));show wpAny _ _ (Builtin.SmallTypes.nextOf (.ref i2) >>= _) _ _ _;refine Aa (D2.item i _ _ _ l2 (D2.frame _ _ _ h2 fun c hc o e=>k3.extBut c o (jr c hc) (k2.extBut c o (mT c hc) (k1.extBut c o (iJ c hc) e))) fun y g4 yx py s4 k4=>Ac ?_);have t4:IsPair g4 TO x b:=k4.extBut _ _ lR t3;refine Aa (wpAny_seqItems t4 rfl ?_);refine Aa (wpAny_updateSeq_pair t4 fun g5 t5 k5=>?_);replace t5:IsPair g5 TO x y:=t5;refine Aa (wpAny_letGo (Ac (Ac ?_)));refine Aa (wpAny_seqItems t5 rfl ?_);refine Aa (wpAny_newTuple ?_);have hsz:g5.objs.size=s.heap.objs.size:=by rw[k5.1,k4.1,k3.1,k2.1,k1.1]
 have z5:IsZip g5 z TI TO .ellipsis:=k5.extBut _ _ D.TOz.symm (k4.extBut _ _ lG.symm (k3.extBut _ _ D.TOz.symm (k2.extBut _ _ j5.symm hz1)));have kk:∀c o,c≠z->c≠TO->c≠i1->c≠i2->s.heap.get? c=some o->g5.get? c=some o:=fun c o c1 c2 c3 c4 e=>
  k5.extBut _ _ c2 (k4.extBut _ _ c4 (k3.extBut _ _ c2 (k2.extBut _ _ c3 (k1.extBut _ _ c1 e))))
 have d1:S1 (i+1) g5:=D1.frame _ _ _ s2 fun c hc o e=>k5.extBut c o (jP c hc) (k4.extBut c o (vn c hc) (k3.extBut c o (jP c hc) e));have d2:S2 (i+1) g5:=D2.frame _ _ _ s4 fun c hc o e=>k5.extBut c o (jr c hc) e;have qq:z<g5.objs.size:=Aj z5;have e1:∀c∈b_,∀o,g5.get? c=some o->c<g5.objs.size:=fun c _ o e=>Aj e;show wpAny _ _ (Builtin.SmallTypes.ownedTupleHandOut (.ref z) (.ref g5.objs.size) >>= _) _ _ _;refine Aa ?_;unfold Builtin.SmallTypes.ownedTupleHandOut;have z6:IsZip (g5.push { cls:=.type "tuple",data:=.seq #[x,y] }) z TI TO .ellipsis:=Ae _ z5;refine Aa (A2 z6 (by simp) fun g7 z7 k7=>?_);replace z7:IsZip g7 z TI TO (rawInt g5.objs.size):=z7;refine A2 z7 (by simp) fun g8 z8 k8=>?_;replace z8:IsZip g8 z TI TO (rawInt g5.objs.size):=z8;have up:∀c o,c≠z->g5.get? c=some o->g8.get? c=some o:=fun c o c1 e=>k8.extBut _ _ c1 (k7.extBut _ _ c1 (Ae _ e));have T8:IsPair g8 g5.objs.size x y:=k8.extBut _ _ (A1 qq) (k7.extBut _ _ (A1 qq) (Ak _ rfl));have qk:g8.objs.size=g5.objs.size+1:=by rw[k8.1,k7.1,Heap.size_push]
 rw[hsz] at z8 T8 qk;refine Ac ⟨_,rfl,?_⟩;show Q (.ref g5.objs.size) _;rw[hsz];exact hQ x y g8 _ px py z8 (up _ _ D.TOz t5) (D1.frame _ _ _ d1 fun c hc o e=>up c o (ne1 c hc) e) (D2.frame _ _ _ d2 fun c hc o e=>up c o (iJ c hc) e) T8 qk fun c o c1 c2 c3 c4 e=>up c o c1 (kk c o c1 c2 c3 c4 e)
def zlx {Q:Fin->Shared->Prop} (D1:Draws prog w A i1 b_ n1 P1 S1) (D2:Draws prog w A i2 bY n2 P2 S2) (D:Apart z TI TO i1 i2 b_ bY)
  (hz:IsZip s.heap z TI TO .none) (dM:IsPair s.heap TI (.ref i1) (.ref i2)) (dD:IsPair s.heap TO a b) (h1:S1 i s.heap) (h2:S2 i s.heap) (ii:i=n1 \/ (i<n1/\i=n2))
  (hE:∀h' e tk,(∀c o,c≠z->c≠TO->c≠i1->c≠i2->s.heap.get? c=some o->h'.get? c=some o)->(∃o,h'.get? e=some o/\o.cls=.type "StopIteration")->E (.ref e) { s with heap:=h',toks:=tk }) :
  wpAny (model prog w) A (Builtin.«zip.__next__» ⟨[.ref z],[]⟩) Q E s:=by
 have ne1:∀c∈b_,c≠z:=fun c hc e=>D.z1 (e ▸ hc);have iJ:∀c∈bY,c≠z:=fun c hc e=>D.z2 (e ▸ hc);have jP:∀c∈b_,c≠TO:=fun c hc e=>D.o1 (e ▸ hc);have jr:∀c∈bY,c≠TO:=fun c hc e=>D.o2 (e ▸ hc);have mT:∀c∈bY,c≠i1:=fun c hc e=>D.x12 (e ▸ hc);have j5:i1≠z:=ne1 _ D.m1;have lG:i2≠z:=iJ _ D.m2;have ig:TO≠i1:=(jP _ D.m1).symm;show wpAny _ _ (field (.ref z) 2 >>= _) _ _ _;refine Aa (AN hz rfl (x:=.bool false) rfl ?_);show wpAny _ _ (field (.ref z) 3 >>= _) _ _ _;refine Aa (AN hz rfl (x:=.ref TI) rfl ?_);refine Aa (wpAny_seqItems dM rfl ?_);show wpAny _ _ (Builtin.SmallTypes.ownedTupleIsFree (.ref z) >>= _) _ _ _;refine Aa ?_;unfold Builtin.SmallTypes.ownedTupleIsFree;refine Aa (AN hz rfl (x:=.none) rfl (Ac ?_));simp only[if_true];refine Aa (wpAny_rule ?_);refine Aa (AN hz rfl (x:=.ref TO) rfl ?_);refine Aa (A2 hz (by simp) fun g1 hz1 k1=>?_);replace hz1:IsZip g1 z TI TO .ellipsis:=hz1;refine Aa ?_;simp only[List.zipIdx_cons,List.zipIdx_nil,List.forIn_cons,List.forIn_nil];refine Aa (Aa (wpAny_onRaise ?_));have f1:=D1.frame _ _ _ h1 fun c hc o e=>k1.extBut c o (ne1 c hc) e;rcases ii with e0 | ⟨l1,e0⟩
 ·show wpAny _ _ (Builtin.SmallTypes.nextOf (.ref i1) >>= _) _ _ _
  refine Aa (D1.done _ _ _ (e0 ▸ f1) fun g2 e k2 he=>?_);obtain⟨oe,fh,ji⟩:=he;have z2:IsZip g2 z TI TO .ellipsis:=k2 _ _ j5.symm hz1;have ez:e≠z:=fun x=>by subst x; rw[z2] at fh; cases fh; simp at ji
  refine A2 z2 (by simp) fun g3 _ k3=>hE g3 e _ (fun c o c1 _ c3 _ x=>k3.extBut _ _ c1 (k2 _ _ c3 (k1.extBut _ _ c1 x))) ⟨oe,k3.extBut _ _ ez fh,ji⟩
 ·show wpAny _ _ (Builtin.SmallTypes.nextOf (.ref i1) >>= _) _ _ _
  refine Aa (D1.item i _ _ _ l1 f1 fun x g2 rn px s2 k2=>Ac ?_);have t2:IsPair g2 TO a b:=k2.extBut _ _ ig (k1.extBut _ _ D.TOz dD);refine Aa (wpAny_seqItems t2 rfl ?_);refine Aa (wpAny_updateSeq_pair t2 fun g3 t3 k3=>?_);refine Aa (wpAny_letGo (Ac ?_));refine Aa (Aa (wpAny_onRaise ?_));have f2:S2 i g3:=D2.frame _ _ _ h2 fun c hc o e=>k3.extBut c o (jr c hc) (k2.extBut c o (mT c hc) (k1.extBut c o (iJ c hc) e));show wpAny _ _ (Builtin.SmallTypes.nextOf (.ref i2) >>= _) _ _ _;refine Aa (D2.done _ _ _ (e0 ▸ f2) fun g4 e k4 he=>?_);obtain⟨oe,fh,ji⟩:=he;have z4:IsZip g4 z TI TO .ellipsis:=k4 _ _ lG.symm (k3.extBut _ _ D.TOz.symm (k2.extBut _ _ j5.symm hz1));have ez:e≠z:=fun x=>by subst x; rw[z4] at fh; cases fh; simp at ji
  refine A2 z4 (by simp) fun g5 _ k5=>hE g5 e _ (fun c o c1 c2 c3 c4 x=>k5.extBut _ _ c1 (k4 _ _ c4 (k3.extBut _ _ c2 (k2.extBut _ _ c3 (k1.extBut _ _ c1 x))))) ⟨oe,k5.extBut _ _ ez fh,ji⟩
end
def zh7 {prog:Program}{w:World}{A:Around}{z TI TO i1 i2:Addr}{b_ bY:List Addr}{n1 n2:Nat}{P1 P2:Nat->Value->Prop}{S1 S2:Nat->Heap->Prop}
  (D1:Draws prog w A.in1 i1 b_ n1 P1 S1) (D2:Draws prog w A.in1 i2 bY n2 P2 S2) (D:Apart z TI TO i1 i2 b_ bY) :
  WalksT prog w A z (z::TI::TO::(b_++bY)) [z,TO,i1,i2] (min n1 n2) (fun i vals=>∃x y,P1 i x/\P2 i y/\vals=#[x,y])
   (fun i h=>IsZip h z TI TO .none/\IsPair h TI (.ref i1) (.ref i2)/\(∃a b,IsPair h TO a b)/\S1 i h/\S2 i h)
   (fun i T h=>IsZip h z TI TO (rawInt T)/\IsPair h TI (.ref i1) (.ref i2)/\(∃a b,IsPair h TO a b)/\S1 (i+1) h/\S2 (i+1) h/\T≠z/\T≠TO/\T≠i1/\T≠i2) where
 sub:=fun c hc=>by
  simp at hc ⊢;rcases hc with rfl | rfl | rfl | rfl
  ·simp
  ·simp
  ·exact .inr (.inr (.inr (.inl D.m1)))
  ·exact .inr (.inr (.inr (.inr D.m2)))
 frame:=fun i h h' hst hk=>by
  obtain⟨hz,dM,⟨a,b,dD⟩,h1,h2⟩:=hst;exact⟨hk z (by simp) _ hz,hk TI (by simp) _ dM,⟨a,b,hk TO (by simp) _ dD⟩,D1.frame _ _ _ h1 fun c hc o e=>hk c (by simp[hc]) o e,D2.frame _ _ _ h2 fun c hc o e=>hk c (by simp[hc]) o e⟩
 item:=fun i s Q E hi hst hQ=>by
  obtain⟨hz,dM,⟨a,b,dD⟩,h1,h2⟩:=hst;have hT:s.TypeIs (.ref z) "zip":=⟨_,hz,rfl⟩;unfold pyNext;refine Aa (wpAny_attempt (AO (name:=A3 "__next__") hT F.slot_zip_next (AV F.slot_zip_next hT F.entry_zip_next
   (zjW D1 D2 D hz dM dD h1 h2 (Ay hi (Nat.min_le_left ..)) (Ay hi (Nat.min_le_right ..)) fun x y h' tk px py a1 a2 a3 a4 a5 a6 hk=>Ac ?_) (F.args_zip_next_1 _))))
  have lt:∀{c o},s.heap.get? c=some o->s.heap.objs.size≠c:=fun e=>A1 (Aj e);obtain⟨o1,l1⟩:=D1.live _ _ h1;obtain⟨o2,l2⟩:=D2.live _ _ h2;exact hQ s.heap.objs.size #[x,y] h' tk ⟨_,_,px,py,rfl⟩ (Af _) ⟨_,a5,rfl,_,rfl⟩ ⟨a1,hk _ _ D.TIz D.TITO D.TIi1 D.TIi2 dM,⟨_,_,a2⟩,a3,a4,lt hz,lt dD,lt l1,lt l2⟩
   fun c o hc e=>hk c o (fun x=>hc (by simp[x])) (fun x=>hc (by simp[x])) (fun x=>hc (by simp[x])) (fun x=>hc (by simp[x])) e
 go:=fun bH k pos i T s Q E hm hQ=>by
  obtain⟨hz,dM,⟨a,b,dD⟩,h1,h2,_⟩:=hm;refine wpAny_letOwnedTupleGo_zip hz fun h' uM hs'=>hQ h' ⟨uM,hs'.extBut _ _ D.TIz dM,⟨a,b,hs'.extBut _ _ D.TOz dD⟩,
   D1.frame _ _ _ h1 fun c hc o e=>hs'.extBut c o (fun q=>D.z1 (q ▸ hc)) e,D2.frame _ _ _ h2 fun c hc o e=>hs'.extBut c o (fun q=>D.z2 (q ▸ hc)) e⟩ fun c o hc e=>hs'.extBut _ _ (fun x=>hc (by simp[x])) e
 apart:=fun i T h hm hT=>by
  obtain⟨_,_,_,_,_,t1,t2,t3,t4⟩:=hm;simp at hT;rcases hT with rfl | rfl | rfl | rfl
  ·exact t1 rfl
  ·exact t2 rfl
  ·exact t3 rfl
  ·exact t4 rfl
 done:=fun s Q E hst hQ=>by
  obtain⟨hz,dM,⟨a,b,dD⟩,h1,h2⟩:=hst;have hT:s.TypeIs (.ref z) "zip":=⟨_,hz,rfl⟩;have ii:min n1 n2=n1 \/ (min n1 n2<n1/\min n1 n2=n2):=by omega
  unfold pyNext;refine Aa (wpAny_attempt (AO (name:=A3 "__next__") hT F.slot_zip_next
   (AV F.slot_zip_next hT F.entry_zip_next (zlx D1 D2 D hz dM dD h1 h2 ii fun h' e tk hk he=>?_) (F.args_zip_next_1 _))))
  obtain⟨o,ho,hc⟩:=he;refine Aa (wpAny_isInstance (T:="StopIteration") (b:=true) ⟨o,ho,hc⟩ isSubtype_stop ?_);exact Ac (hQ _ tk fun c o hc e=>hk c o (fun x=>hc (by simp[x])) (fun x=>hc (by simp[x])) (fun x=>hc (by simp[x])) (fun x=>hc (by simp[x])) e)
 self:=fun i s Q E hst hQ=>wpAny_pyIter_zip hst.1 hQ
end Zp
end
section
namespace L2
open PySem PySem.Spec PyProof.Rows
section
variable {X:Cx}{aa:List (Addr×Obj)}{σ:St}{H:Hp}{s:Shared}{h':Heap}
def Inv.turneds {t':Nat}{ch:List Addr} (I:Inv X aa σ H s) (hf:∀b∈ch,FpOk X aa H b) (k:∀b o,b∉ch->s.heap.get? b=some o->h'.get? b=some o):Inv X aa σ H { s with heap:=h',toks:=t' }:=by
 have nit:∀b u,H b=some u->b∉ch:=fun b u e z=>by have:=(hf b z).1; rw[this] at e; cases e
 refine I.step (g':=s.gens) (d':=s.drawn) (ch:=ch) (fun b hb=>?_) (fun b o _ _ hc e _=>k b o hc e) (fun b o _ _ hc e _=>⟨o.slots,k b o hc e⟩) (fun _ _ _ _ n=>n)
  (fun b o hc e=>⟨o,k b o hc e⟩) (fun _ _ e=>e) (fun _ _ _ e=>e) (fun b ps e=>⟨#[],by rw[e]; simp⟩) (fun m hm=>?_) (fun b u e=>?_) I.bare
 ·obtain⟨f0,f1,f2,f3,f4,f5⟩:=hf b hb
  exact⟨f3,f1,f4,f5⟩
 ·obtain⟨o,es,ep,ho,r⟩:=hm
  exact⟨o,es,ep,k _ o (fun z=>(hf _ z).2.1 rfl) ho,r⟩
 ·refine (I.hok b u e).stay (fun c v hc q=>k c v ?_ q) (fun _ q=>q) fun _ _ q=>q
  rcases hc with z | z
  ·rw[z]; exact nit b u e
  ·exact nit c _ z
def Inv.adopt {a:Addr}{o:HO} (I:Inv X aa σ H s) (hn:H a=none) (h1:X.s₀.heap.objs.size<=a) (h2:a≠X.env.locals) (h3:∀x c,X.env.cells.lookup x=some c->c≠a) (h4:∀p∈X.pn++aa,p.1≠a)
  (new:zx X.prog X.w (upd H a o) s.heap a o):Inv X aa σ (upd H a o) s:=by
 refine I.step (h':=s.heap) (g':=s.gens) (t':=s.toks) (d':=s.drawn) (ch:=[a]) (fun b hb=>?_) (fun b o _ _ hc e _=>e) (fun b o _ _ hc e _=>⟨o.slots,e⟩) (fun b o hc e n=>?_)
  (fun b o hc e=>⟨o,e⟩) (fun b xs e=>?_) (fun b o u e=>?_) (fun b ps e=>⟨#[],?_⟩) (fun m hm=>hm) (fun b u e=>?_) I.bare
 ·have e:b=a:=by simpa using hb
  subst e;exact⟨.inr h1,h2,h3,h4⟩
 ·rw[zh (fun z=>hc (by simp[z]))]; exact n
 ·rw[zh (zg e hn)]; exact e
 ·rw[zh (zg e hn)]; exact e
 ·rw[zh (zg e hn),e]; simp
 ·by_cases hb:b=a
  ·subst hb; rw[upd_same] at e; cases e; exact new
  ·rw[zh hb] at e
   exact (I.hok b u e).stay (fun _ _ _ q=>q) (fun c q=>by rw[zh (zg q hn)]; exact q) fun c xs q=>by rw[zh (zg q hn)]; exact q
def Inv.grown {t':Nat}{ch:List Addr}{a:Addr}{o:HO} (I:Inv X aa σ H s) (hf:∀b∈ch,FpOk X aa H b) (k:∀b o,b∉ch->s.heap.get? b=some o->h'.get? b=some o) (hp:s.heap.objs.size<=a)
  (new:zx X.prog X.w (upd H a o) h' a o):Inv X aa σ (upd H a o) { s with heap:=h',toks:=t' }:=by
 have I1:Inv X aa σ H { s with heap:=h',toks:=t' }:=I.turneds hf k;obtain⟨f0,f1,f2,f3,f4,f5⟩:=I.fpOk hp (I.hok.fresh hp);exact I1.adopt f0 (AA I.sz hp) f1 f4 f5 new
def zis {b t:Addr}{o:Obj} (I:Inv X aa σ H s) (f:FpOk X aa H b) (hk:X.K.lookup t=some o):t≠b:=by
 intro z;subst z;have e:=I.ok.mod.kin t o hk;rcases f.2.2.2.1 with q | q
 ·exact I.ok.noex t o e q
 ·exact absurd (Ay (Aj (I.ok.bs t o e).1) q) (Nat.lt_irrefl _)
def zks {b t:Addr}{xs:List V} (I:Inv X aa σ H s) (f:FpOk X aa H b) (h:SqT X.K H t xs):t≠b:=by
 rcases h with (h | ⟨o,h⟩) | ⟨o,_,_,hk,_⟩
 ·exact zg h f.1
 ·exact zg h f.1
 ·exact zis I f hk
def zm3 {b t:Addr}{xs:List V} (I:Inv X aa σ H s) (f:FpOk X aa H b) (h:SqL X.K H t xs):t≠b:=by
 rcases h with (h | ⟨o,h⟩) | ⟨o,_,_,hk,_⟩
 ·exact zg h f.1
 ·exact zg h f.1
 ·exact zis I f hk
end
def zeT {P:Program}{w:World}{K:Ad}{J:It}{fp wr:List Addr}{it:Addr}{tn:Nat->Heap->Prop}{bH:List Expr}{k:Nat}{pos:Pos} (mem:it∈fp)
  (obj:∀i h,tn i h->∀b∈fp,∃o,h.get? b=some o/\∀v,o.data≠.cell v) (keep:∀i h h',tn i h->(∀b∈fp,∀o,h.get? b=some o->h'.get? b=some o)->tn i h') (hw:∀b∈wr,b∈fp)
  (W:∀(X:Cx),X.prog=P->X.w=w->X.K=K->X.calm=true->∀(i:Nat) (aa:List (Addr×Obj)) (s:Shared) (σ:St) (H:Hp),Inv X aa σ H s->(∀b∈fp,FpOk X aa H b)->tn i s.heap->(J.go i H \/ J.stop i H)->
   ∃(mD:List Addr) (n:Nat) (Pt:Nat->Array Value->Prop) (S:Nat->Heap->Prop) (nQ:Nat->Addr->Heap->Prop),WalksT P w X.A it mD wr n Pt S nQ/\S i s.heap/\(∀j h,S j h->tn j h)/\
    (J.go i H->i<n/\∀vals,Pt i vals->∃xs:List V,Vals xs vals.toList/\xs.length<=sizeLine/\∀p,H p=none->J.yld i H (.ref p) (upd H p (.tup xs)))/\(J.stop i H->i=n))
  (self:∀(A:Around) (i:Nat) (s:Shared) (Q:Value->Shared->Prop) (E:Value->Shared->Prop),tn i s.heap->Q (.ref it) s->wpAny (model P w) A (pyIter (.ref it)) Q E s) :
  Turn P w K (.Tuple bH k pos) J fp it tn where
 mem:=mem
 obj:=obj
 keep:=keep
 item:=by
  intro X hP jp hK hc i aa s σ H E I hf st hg;obtain⟨mD,n,Pt,S,nQ,WT,ak,oM,g,_⟩:=W X hP jp hK hc i aa s σ H I hf st (.inl hg);obtain⟨hi,hv⟩:=g hg;subst hP jp hK;refine WT.item i s _ _ hi ak fun T vals h' tk hp hT lL hm hk=>⟨.ref T,rfl,?_⟩;obtain⟨xs,rv,hz,hy⟩:=hv vals hp;have I1:Inv X aa σ (upd H T (.tup xs)) { s with heap:=h',toks:=tk }:=I.grown (ch:=wr) (fun b hb=>hf b (hw b hb)) hk hT (show zx X.prog X.w _ h' T (.tup xs) from ⟨hz,vals.toList,rv,by have q:IsTup h' T vals:=lL; simpa using q⟩);have tw:∀b∈fp,b≠T:=fun b hb=>by
   obtain⟨o,e,_⟩:=obj i _ st b hb;exact As (Ay (Aj e) hT)
  have hf1:∀b∈fp,FpOk X aa (upd H T (.tup xs)) b:=fun b hb=>by
   obtain⟨f0,fr⟩:=hf b hb;exact⟨by rw[zh (tw b hb)]; exact f0,fr⟩
  refine WT.go bH k pos i T _ _ _ hm fun fR aA lU=>?_;have I2:Inv X aa σ (upd H T (.tup xs)) { s with heap:=fR,toks:=tk }:=I1.turneds (s:={ s with heap:=h',toks:=tk }) (t':=tk) (ch:=wr) (fun b hb=>hf1 b (hw b hb)) lU;exact⟨.ref T,_,I2,rfl,hy T (I.hok.fresh hT),oM _ _ aA,fun b hb=>(hf1 b hb).1⟩
 done:=by
  intro X hP jp hK hc i aa s σ H E I hf st hg;obtain⟨mD,n,Pt,S,nQ,WT,ak,oM,_,g⟩:=W X hP jp hK hc i aa s σ H I hf st (.inr hg);subst hP jp hK;have e:=g hg;subst e;exact WT.done s _ _ ak fun h' tk hk=>⟨rfl,I.turneds (ch:=wr) (fun b hb=>hf b (hw b hb)) hk⟩
 self:=self
def Itz (K:Ad) (t1 t2:Addr):It:=
 ⟨fun i H=>∃xs ys,SqT K H t1 xs/\SqT K H t2 ys/\i<min xs.length ys.length,
  fun i H v H'=>∃p x y,v=.ref p/\H p=none/\H'=upd H p (.tup [x,y])/\(∀xs,SqT K H t1 xs->xs[i]?=some x)/\∀ys,SqT K H t2 ys->ys[i]?=some y,
  fun i H=>∃xs ys,SqT K H t1 xs/\SqT K H t2 ys/\i=min xs.length ys.length⟩
def two_line:(2:Nat)<=sizeLine:=by rw[sizeLine_eq]; decide
def ziR {P:Program}{w:World}{K:Ad}{bH:List Expr}{k:Nat}{pos:Pos} (t1 t2 z TI TO i1 i2:Addr) (hd:TI≠z/\TO≠z/\TI≠TO/\TI≠i1/\TI≠i2/\z≠i1/\z≠i2/\TO≠i1/\TO≠i2/\i1≠i2) :
  Turn P w K (.Tuple bH k pos) (Itz K t1 t2) [z,TI,TO,i1,i2] z (fun i h=>IsZip h z TI TO .none/\IsPair h TI (.ref i1) (.ref i2)/\(∃a b,IsPair h TO a b)/\h.IsTupleIter i1 t1 i/\h.IsTupleIter i2 t2 i):=by
 obtain⟨d1,d2,d3,d4,d5,d6,d7,d8,d9,j_⟩:=hd;refine zeT (wr:=[z,TO,i1,i2]) (by simp) (fun i h st b hb=>?_) (fun i h h' st kk=>?_) (fun b hb=>?_) (fun X hP hw hK hc i aa s σ H I hf st nF=>?_) fun A i s Q E st h=>wpAny_pyIter_zip st.1 h
 ·obtain⟨a1,a2,⟨a,b',a3⟩,⟨o4,a4,_,e4⟩,⟨o5,a5,_,e5⟩⟩:=st
  simp at hb;rcases hb with rfl | rfl | rfl | rfl | rfl
  ·exact⟨_,a1,fun v z=>by cases z⟩
  ·exact⟨_,a2,fun v z=>by cases z⟩
  ·exact⟨_,a3,fun v z=>by cases z⟩
  ·exact⟨_,a4,fun v z=>by rw[e4] at z; cases z⟩
  ·exact⟨_,a5,fun v z=>by rw[e5] at z; cases z⟩
 ·obtain⟨a1,a2,⟨a,b',a3⟩,a4,a5⟩:=st
  exact⟨kk z (by simp) _ a1,kk TI (by simp) _ a2,⟨a,b',kk TO (by simp) _ a3⟩,a4.at fun o e=>kk i1 (by simp) o e,a5.at fun o e=>kk i2 (by simp) o e⟩
 ·simp at hb ⊢
  rcases hb with rfl | rfl | rfl | rfl <;> simp
 ·subst hP hw hK
  have hd:∃xs ys,SqT X.K H t1 xs/\SqT X.K H t2 ys:=by
   rcases nF with ⟨xs,ys,a,b,_⟩ | ⟨xs,ys,a,b,_⟩
   ·exact⟨xs,ys,a,b⟩
   ·exact⟨xs,ys,a,b⟩
  obtain⟨xs,ys,q1,q2⟩:=hd;obtain⟨us,r1,p1,_⟩:=I.tuple q1;obtain⟨ws,r2,p2,_⟩:=I.tuple q2;have hl1:=r1.length;have bO:=r2.length;have hh:=I.ok.hd hc;obtain⟨a1,a2,a3,a4,a5⟩:=st;have f:=fun b hb=>zks I (hf b hb) q1;have f':=fun b hb=>zks I (hf b hb) q2;have AP:Zp.Apart z TI TO i1 i2 [i1,t1] [i2,t2]:=by
   refine⟨?_,?_,?_,?_,by simp,by simp,?_,?_,d1,d2,d3,d4,d5⟩
   ·simp; exact⟨d6,(f z (by simp)).symm⟩
   ·simp; exact⟨d7,(f' z (by simp)).symm⟩
   ·simp; exact⟨d8,(f TO (by simp)).symm⟩
   ·simp; exact⟨d9,(f' TO (by simp)).symm⟩
   ·simp; exact⟨j_,(f' i1 (by simp)).symm⟩
   ·simp; exact⟨j_.symm,(f i2 (by simp)).symm⟩
  have WZ:=Zp.zh7 (prog:=X.prog) (w:=X.w) (A:=X.A) (Zp.zd2 (A:=X.A.in1) hh i1 t1 (f i1 (by simp)) us.toArray) (Zp.zd2 (A:=X.A.in1) hh i2 t2 (f' i2 (by simp)) ws.toArray) AP;refine⟨_,_,_,_,_,WZ,⟨a1,a2,a3,⟨a4,p1⟩,⟨a5,p2⟩⟩,fun j h st=>⟨st.1,st.2.1,st.2.2.1,st.2.2.2.1.1,st.2.2.2.2.1⟩,fun g=>?_,fun g=>?_⟩
  ·obtain⟨eV,jB,g_,nJ,hi⟩:=g
   have e1:=I.tuple_inj g_ q1;have e2:=I.tuple_inj nJ q2;subst e1 e2;refine⟨by simpa[<- hl1,<- bO] using hi,fun vals hp=>?_⟩;obtain⟨x,y,px,py,rfl⟩:=hp;have oh:us[i]?=some x:=by simpa using px
   have py':ws[i]?=some y:=by simpa using py
   have lx:i<eV.length:=by omega
   have ly:i<jB.length:=by omega
   have gx:eV[i]?=some eV[i]:=by simp[lx]
   have gy:jB[i]?=some jB[i]:=by simp[ly]
   obtain⟨u,e3,ru⟩:=r1.get gx;obtain⟨u',e4,fJ⟩:=r2.get gy;rw[oh] at e3; cases e3;rw[py'] at e4; cases e4;refine⟨[eV[i],jB[i]],.cons ru (.cons fJ .nil),two_line,fun p hp=>⟨p,_,_,rfl,hp,rfl,fun zs hz=>?_,fun zs hz=>?_⟩⟩
   ·rw[I.tuple_inj hz q1]; exact gx
   ·rw[I.tuple_inj hz q2]; exact gy
  ·obtain⟨eV,jB,g_,nJ,hi⟩:=g
   have e1:=I.tuple_inj g_ q1;have e2:=I.tuple_inj nJ q2;subst e1 e2
   simpa[<- hl1,<- bO] using hi
def zjV (l1 l2:Addr) (xs ys:Array Value) :
  Meets (Builtin.«zip.__new__» ⟨[.type "zip",.ref l1,.ref l2],[]⟩) (fun _ R s=>s.heap.IsTuple l1 xs/\s.heap.IsTuple l2 ys/\
   ∀h',IsZip h' (s.heap.objs.size+4) (s.heap.objs.size+2) (s.heap.objs.size+3) .none->IsPair h' (s.heap.objs.size+2) (.ref s.heap.objs.size) (.ref (s.heap.objs.size+1))->
   IsPair h' (s.heap.objs.size+3) .none .none->h'.IsTupleIter s.heap.objs.size l1 0->h'.IsTupleIter (s.heap.objs.size+1) l2 0->
   (∀c o,s.heap.get? c=some o->h'.get? c=some o)->R (.ok (.ret (.ref (s.heap.objs.size+4)))) { s with heap:=h' }):=
 .of_wp fun prog w A R s h=>by
  obtain⟨hp,g,d,tk,os⟩:=s; obtain⟨hl1,bO,h⟩:=h;have aH:=sub_zip;have ka:Heap.IsTuple (Shared.heap ⟨hp,g,d,tk,os⟩) l1 xs:=hl1;have tJ:Heap.IsTuple (Shared.heap ⟨hp.push { cls:=.type "tuple_iterator",data:=.fields #[.ref l1,.int 0 0] },g,d,tk,os⟩) l2 ys:=Heap.IsTuple.push bO _
  wp_walk using wpAny_pyIter_tuple ka,wpAny_pyIter_tuple tJ
  refine⟨_,rfl,?_⟩;dsimp only at h ⊢;have z1:∀(h:Heap) (o:Obj),(h.push o).objs.size=h.objs.size+1:=fun h o=>Heap.size_push ..;simp only[z1,Nat.add_assoc,Nat.reduceAdd];refine h _ ?_ ?_ ?_ ?_ ?_ fun c o x=>Ae _ (Ae _ (Ae _ (Ae _ (Ae _ x))))
  ·exact Heap.get?_push_at (by simp only[z1]) rfl
  ·exact Ae _ (Ae _ (Heap.get?_push_at (by simp only[z1]) rfl))
  ·exact Ae _ (Heap.get?_push_at (by simp only[z1]) rfl)
  ·exact⟨_,Ae _ (Ae _ (Ae _ (Ae _ (Ak _ rfl)))),rfl,rfl⟩
  ·exact⟨_,Ae _ (Ae _ (Ae _ (Heap.get?_push_at (by simp only[z1]) rfl))),rfl,rfl⟩
section
variable {X:Cx}{bH:List Expr}{k:Nat}{d0:Pos}
def iZip (K:Ad) (ta:TA):TI:=fun σ H R=>ta σ H fun vs H1=>∃t1 t2,vs=[.ref t1,.ref t2]/\(∃xs,SqT K H1 t1 xs)/\(∃ys,SqT K H1 t2 ys)/\R (Itz K t1 t2) H1
def zmQ {a b:Expr}{ta:TA}{p pos:Pos} (hg:Gl X "zip") (hm:X.mg "zip"=none) (hv:AW "zip"=some (.type "zip")) (ha:PA X [a,b] ta) (hs:starEach [a,b] X.env=[(false,eval a X.env),(false,eval b X.env)]:=by rfl) (ph:starEach [b] X.env=[(false,eval b X.env)]:=by rfl) :
  PI X (.Tuple bH k d0) (.Call (.Name "zip" p) [a,b] [] pos) (iZip X.K ta):=by
 intro aa s σ H R I h;refine Call_ (zcb I hg hm hv (PyProof.Rows.callWith_type1 (thn (ha pos aa s σ H _ I h) fun us s1 ⟨vs,H1,I1,r1,q1⟩=>?_) (by rw[hs,ph]) (by rw[ph]; rfl)));obtain⟨t1,t2,e,⟨xs,q1⟩,⟨ys,q2⟩,q⟩:=q1;subst e;obtain⟨u,u',rfl,ru,fJ⟩:=vals2 r1;cases ru;cases fJ;obtain⟨p_,_,p1,_⟩:=I1.tuple q1;obtain⟨uy,_,p2,_⟩:=I1.tuple q2;refine callType_new F.called_zip (by decide) (F.typeCall_zip_2 _ _) (F.newCall_zip_2 _ _) (fun obj=>F.args_object_init_3 obj _ _) F.entry_zip_new (zjV t1 t2 p_.toArray uy.toArray) ⟨p1,p2,fun h' a1 a2 a3 a4 a5 kk=>?_⟩;refine⟨⟨_,a1,rfl⟩,wpAny_pyIter_zip a1 ?_⟩;have I2:Inv X aa σ H1 { s1 with heap:=h' }:=I1.kept (t':=s1.toks) kk;refine⟨s1.heap.objs.size+4,[s1.heap.objs.size+4,s1.heap.objs.size+2,s1.heap.objs.size+3,s1.heap.objs.size,s1.heap.objs.size+1],_,_,H1,rfl,I2,ziR t1 t2 _ _ _ _ _ (by refine⟨?_,?_,?_,?_,?_,?_,?_,?_,?_,?_⟩ <;> (intro z; have z':(_:Nat)=_:=z; omega)),⟨a1,a2,⟨_,_,a3⟩,a4,a5⟩,fun b hb=>?_,q⟩;have hb':s1.heap.objs.size<=b:=by
  simp only[List.mem_cons,List.not_mem_nil,or_false] at hb;rcases hb with rfl | rfl | rfl | rfl | rfl
  ·exact Nat.le_add_right _ _
  ·exact Nat.le_add_right _ _
  ·exact Nat.le_add_right _ _
  ·exact Af _
  ·exact Nat.le_add_right _ _
 exact I1.fpOk hb' (I1.hok.fresh hb')
end
def Ite (K:Ad) (a:Addr):It:=
 ⟨fun i H=>∃xs,SqL K H a xs/\i<xs.length,
  fun i H v H'=>∃p x,v=.ref p/\H p=none/\H'=upd H p (.tup [.int i,x])/\∀xs,SqL K H a xs->xs[i]?=some x,
  fun i H=>∃xs,SqL K H a xs/\i=xs.length⟩
def ziF {P:Program}{w:World}{K:Ad}{bH:List Expr}{k:Nat}{pos:Pos} (a e it:Addr) (hd:e≠it) :
  Turn P w K (.Tuple bH k pos) (Ite K a) [e,it] e (fun i h=>(∃dW,IsEnum h e it i dW)/\h.IsListIter it a i):=by
 refine zeT (wr:=[e,it]) (by simp) (fun i h st b hb=>?_) (fun i h h' st kk=>?_) (fun b hb=>hb) (fun X hP hw hK hc i aa s σ H I hf st nF=>?_) fun A i s Q E st h=>?_
 ·obtain⟨⟨dW,a1⟩,⟨o4,a4,_,e4⟩⟩:=st
  simp at hb;rcases hb with rfl | rfl
  ·exact⟨_,a1,fun v z=>by cases z⟩
  ·exact⟨_,a4,fun v z=>by rw[e4] at z; cases z⟩
 ·obtain⟨⟨dW,a1⟩,a4⟩:=st
  exact⟨⟨dW,kk e (by simp) _ a1⟩,a4.at fun o q=>kk it (by simp) o q⟩
 ·subst hP hw hK
  have hd':∃xs,SqL X.K H a xs:=by
   rcases nF with ⟨xs,q,_⟩ | ⟨xs,q,_⟩
   ·exact⟨xs,q⟩
   ·exact⟨xs,q⟩
  obtain⟨xs,q1⟩:=hd';obtain⟨us,r1,p1,_⟩:=I.list q1;have hl1:=r1.length;have hh:=I.ok.hd hc;obtain⟨a1,a4⟩:=st;have f:=fun b hb=>zm3 I (hf b hb) q1;have WZ:=WalksT.enumerateD (prog:=X.prog) (w:=X.w) (A:=X.A) (Draws.list (A:=X.A.in1) hh it a (f it (by simp)) us.toArray) e hd (by simp; exact⟨hd,(f e (by simp)).symm⟩) (by simp);refine⟨_,_,_,_,_,WZ,⟨a1,a4,p1.isList⟩,fun j h st=>⟨st.1,st.2.1⟩,fun g=>?_,fun g=>?_⟩
  ·obtain⟨eV,g_,hi⟩:=g
   have e1:=I.list_inj g_ q1;subst e1;refine⟨by simpa[<- hl1] using hi,fun vals hp=>?_⟩;obtain⟨t,x,px,rfl⟩:=hp;have oh:us[i]?=some x:=by simpa using px
   have gx:eV[i]?=some eV[i]:=by simp[hi]
   obtain⟨u,e3,ru⟩:=r1.get gx;rw[oh] at e3; cases e3;refine⟨[.int i,eV[i]],.cons ⟨_,rfl⟩ (.cons ru .nil),two_line,fun p hp=>⟨p,_,rfl,hp,rfl,fun zs hz=>?_⟩⟩;rw[I.list_inj hz q1]; exact gx
  ·obtain⟨eV,g_,hi⟩:=g
   have e1:=I.list_inj g_ q1;subst e1
   simpa[<- hl1] using hi
 ·obtain⟨⟨dW,a1⟩,_⟩:=st
  exact wpAny_pyIter_enum a1 h
section
variable {X:Cx}{bH:List Expr}{k:Nat}{d0:Pos}
def znX (K:Ad) (ta:TA):TI:=fun σ H R=>ta σ H fun vs H1=>∃a,vs=[.ref a]/\(∃xs,SqL K H1 a xs)/\R (Ite K a) H1
def zlP {a:Expr}{ta:TA}{p pos:Pos} (hg:Gl X "enumerate") (hm:X.mg "enumerate"=none) (hv:AW "enumerate"=some (.type "enumerate")) (ha:PA X [a] ta) (hs:starEach [a] X.env=[(false,eval a X.env)]:=by rfl) :
  PI X (.Tuple bH k d0) (.Call (.Name "enumerate" p) [a] [] pos) (znX X.K ta):=by
 intro aa s σ H R I h;refine Call_ (zcb I hg hm hv (PyProof.Rows.callWith_type1 (thn (ha pos aa s σ H _ I h) fun us s1 ⟨vs,H1,I1,r1,q1⟩=>?_) hs rfl));obtain⟨a',e,⟨xs,q1⟩,q⟩:=q1;subst e;obtain⟨u,rfl,ru⟩:=vals1 r1;cases ru;obtain⟨p_,_,p1,_⟩:=I1.list q1;refine call_enumerate_list p1.isList fun h' a1 a2 a3 kk=>?_;refine wpAny_pyIter_enum a1 ?_;have I2:Inv X aa σ H1 { s1 with heap:=h' }:=I1.kept (t':=s1.toks) kk;refine⟨s1.heap.objs.size+1,[s1.heap.objs.size+1,s1.heap.objs.size],_,_,H1,rfl,I2,ziF a' _ _ (by intro z; have z':(_:Nat)=_:=z; omega),⟨⟨_,a1⟩,a2⟩,fun b hb=>?_,q⟩;have hb':s1.heap.objs.size<=b:=by
  simp only[List.mem_cons,List.not_mem_nil,or_false] at hb;rcases hb with rfl | rfl
  ·exact Nat.le_add_right _ _
  ·exact Af _
 exact I1.fpOk hb' (I1.hok.fresh hb')
def bools_of:∀{bs:List Bool}{us:List Value},Vals (bs.map V.bl) us->LSm.BoolsAre us bs
 | [],_,.nil=>.nil
 | b::bs,_,.cons r t=>by cases r; exact .cons b (bools_of t)
def zbT (hc:X.calm=true):zX X (.builtin "all") (fun xs H Q=>∃(l:Addr) (bs:List Bool),xs=[.ref l]/\SqL X.K H l (bs.map V.bl)/\Q (.bl (bs.all id)) H):=by
 intro aa s σ H xs us Q I r h;obtain⟨l,bs,rfl,hq,q⟩:=h;obtain⟨u,rfl,ru⟩:=vals1 r;cases ru;obtain⟨ah,r1,p1,_⟩:=I.list hq;have hh:=I.ok.hd hc;have hl:=p1.isList;have hb:=bools_of r1;have hlt:l<s.heap.objs.size:=by obtain⟨_,e,_⟩:=hl; exact Aj e
 refine call_all_walk (wpAny_pyIter_list hl ?_);refine⟨s.heap.objs.size,[s.heap.objs.size,l],[s.heap.objs.size],ah.toArray.size,_,_,fun i=>(bs[i]?).getD true,rfl,Walks.list (A:=X.A.in1) hh _ l (As hlt) ah.toArray,
  ⟨⟨_,Ak _ rfl,rfl,rfl⟩,hl.push _⟩,fun i v s' Q' E' hP hQ=>?_,fun h' tk hk=>?_⟩
 ·obtain⟨b,e,rfl⟩:=hb.get i v (by simpa using hP)
  simp only[e,Option.getD_some] at hQ;exact wpAny_truthy_bool hQ
 ·have e:((A6 ah.toArray.size).all fun i=>(bs[i]?).getD true)=bs.all id:=by
   rw[Ag,hb.length]; exact LSm.range_all bs
  rw[e];exact⟨.bl _,H,I.kept (LSm.kept_iter hk),rfl,q⟩
end
section
variable {K:Ad}{a:Addr}{xs:List V}{g:TG}{tc:TT}{te:TE}{σ:St}{H1:Hp}{Q:VK}{D:Addr}
def CWd (n:Nat) (Pv:Nat->St->List V->Hp->Prop) (i m:Nat) (σ:St) (H:Hp):Prop:=m=n - i/\i<=n/\∃ys,ys.length<=i/\Pv i σ ys H
def CPut (n:Nat) (Pv:Nat->St->List V->Hp->Prop) (D:Addr) (i:Nat) (av:St):VK:=fun y H6=>∃ys m',H6 D=some (.lst ys)/\ys.length<sizeLine/\m'<n - i/\CWd n Pv (i+1) m' av (upd H6 D (.lst (ys++[y])))
def CSkip (n:Nat) (Pv:Nat->St->List V->Hp->Prop) (i:Nat) (av:St) (H5:Hp):Prop:=∃m',m'<n - i/\CWd n Pv (i+1) m' av H5
def cput {n:Nat}{Pv:Nat->St->List V->Hp->Prop}{i:Nat}{av:St}{ys:List V}{y:V}{H6:Hp} (hn:n<=sizeLine) (hi:i<n) (hl:ys.length<=i) (e:H6 D=some (.lst ys)) (p:Pv (i+1) av (ys++[y]) (upd H6 D (.lst (ys++[y])))):CPut n Pv D i av y H6:=
 ⟨ys,n - (i+1),e,by omega,by omega,rfl,hi,ys++[y],by simp; omega,p⟩
def cskip {n:Nat}{Pv:Nat->St->List V->Hp->Prop}{i:Nat}{av:St}{ys:List V}{H5:Hp} (hi:i<n) (hl:ys.length<=i) (p:Pv (i+1) av ys H5):CSkip n Pv i av H5:=
 ⟨n - (i+1),by omega,rfl,hi,ys,by omega,p⟩
def zav {J:It} (n:Nat) (Pv:Nat->St->List V->Hp->Prop) (h0:Pv 0 σ [] (upd H1 D (.lst [])))
  (jf:∀σ ys H,Pv n σ ys H->J.stop n H) (vH:∀i σ ys H,i<n->Pv i σ ys H->J.go i H)
  (hs:∀i σ ys H x H',i<n->ys.length<=i->Pv i σ ys H->J.yld i H x H'->g x σ H' fun av H4=>tc av H4 fun b H5=>if b=true then te av H5 (CPut n Pv D i av) else CSkip n Pv i av H5)
  (hd:∀σ ys H,Pv n σ ys H->Q (.ref D) H):zaf J g tc te σ H1 D Q:=by
 refine⟨CWd n Pv,⟨n,by simp,AQ _,[],Af _,h0⟩,?_⟩;rintro i m bf H2 ⟨rfl,hi,ys,hl,p⟩
 by_cases hlt:i<n
 ·exact .inr ⟨vH i bf ys H2 hlt p,fun x H3 y=>hs i bf ys H2 x H3 hlt hl p y⟩
 ·have e:i=n:=by omega
  subst e;exact .inl ⟨jf bf ys H2 p,hd bf ys H2 p⟩
def z0 (Pv:Nat->St->List V->Hp->Prop) (h0:Pv 0 σ [] (upd H1 D (.lst []))) (hl:∀i σ ys H,Pv i σ ys H->SqL K H a xs)
  (hs:∀i σ ys H x,xs[i]?=some x->i<xs.length->ys.length<=i->Pv i σ ys H->g x σ H fun av H4=>tc av H4 fun b H5=>if b=true then te av H5 (CPut xs.length Pv D i av) else CSkip xs.length Pv i av H5)
  (hd:∀σ ys H,Pv xs.length σ ys H->Q (.ref D) H):zaf (Itl K a) g tc te σ H1 D Q:=by
 refine zav xs.length Pv h0 (fun σ ys H p=>⟨xs,hl _ _ _ _ p,Af _⟩) (fun i σ ys H hi p=>⟨xs,xs[i],hl _ _ _ _ p,by simp[hi]⟩) (fun i σ ys H x H' hi hy p y=>?_) hd;obtain⟨e,y⟩:=y;subst e;exact hs i σ ys _ x (y xs (hl _ _ _ _ p)) hi hy p
def zfv (Pv:Nat->St->List V->Hp->Prop) (h0:Pv 0 σ [] (upd H1 D (.lst []))) (hl:∀i σ ys H,Pv i σ ys H->SqT K H a xs)
  (hs:∀i σ ys H x,xs[i]?=some x->i<xs.length->ys.length<=i->Pv i σ ys H->g x σ H fun av H4=>tc av H4 fun b H5=>if b=true then te av H5 (CPut xs.length Pv D i av) else CSkip xs.length Pv i av H5)
  (hd:∀σ ys H,Pv xs.length σ ys H->Q (.ref D) H):zaf (Itt K a) g tc te σ H1 D Q:=by
 refine zav xs.length Pv h0 (fun σ ys H p=>⟨xs,hl _ _ _ _ p,Af _⟩) (fun i σ ys H hi p=>⟨xs,xs[i],hl _ _ _ _ p,by simp[hi]⟩) (fun i σ ys H x H' hi hy p y=>?_) hd;obtain⟨e,y⟩:=y;subst e;exact hs i σ ys _ x (y xs (hl _ _ _ _ p)) hi hy p
def zgy {lo:Int}{n:Nat} (Pv:Nat->St->List V->Hp->Prop) (h0:Pv 0 σ [] (upd H1 D (.lst [])))
  (hs:∀i σ ys H,i<n->ys.length<=i->Pv i σ ys H->g (.int (lo+i)) σ H fun av H4=>tc av H4 fun b H5=>if b=true then te av H5 (CPut n Pv D i av) else CSkip n Pv i av H5)
  (hd:∀σ ys H,Pv n σ ys H->Q (.ref D) H):zaf (Itr lo n) g tc te σ H1 D Q:=by
 refine zav n Pv h0 (fun σ ys H p=>Af _) (fun i σ ys H hi p=>hi) (fun i σ ys H x H' hi hy p y=>?_) hd;obtain⟨e,y⟩:=y;subst e y;exact hs i σ ys _ hi hy p
def zjD {t1 t2:Addr}{ys:List V} (Pv:Nat->St->List V->Hp->Prop) (h0:Pv 0 σ [] (upd H1 D (.lst []))) (hl:∀i σ zs H,Pv i σ zs H->SqT K H t1 xs/\SqT K H t2 ys)
  (hs:∀i σ zs H p x y,xs[i]?=some x->ys[i]?=some y->i<min xs.length ys.length->zs.length<=i->Pv i σ zs H->H p=none->g (.ref p) σ (upd H p (.tup [x,y])) fun av H4=>tc av H4 fun b H5=>if b=true then te av H5 (CPut (min xs.length ys.length) Pv D i av) else CSkip (min xs.length ys.length) Pv i av H5)
  (hd:∀σ zs H,Pv (min xs.length ys.length) σ zs H->Q (.ref D) H):zaf (Itz K t1 t2) g tc te σ H1 D Q:=by
 refine zav (min xs.length ys.length) Pv h0 (fun σ zs H p=>⟨xs,ys,(hl _ _ _ _ p).1,(hl _ _ _ _ p).2,rfl⟩) (fun i σ zs H hi p=>⟨xs,ys,(hl _ _ _ _ p).1,(hl _ _ _ _ p).2,hi⟩) (fun i σ zs H v H' hi hy p y=>?_) hd;obtain⟨pp,x,y',rfl,hp,rfl,y1,y2⟩:=y;exact hs i σ zs H pp x y' (y1 xs (hl _ _ _ _ p).1) (y2 ys (hl _ _ _ _ p).2) hi hy p hp
end
end L2
end
section
namespace Dk
open PySem PySem.Spec PyProof.Rows
def IsD (h:Heap) (d:Addr) (es:Array DictEntry) (ep:Nat):Prop:=∃o,h.get? d=some o/\o.ExactDict/\o.data=.dict es ep
def IsD.at {h h':Heap}{d:Addr}{es:Array DictEntry}{ep:Nat} (x:IsD h d es ep) (k:∀o,h.get? d=some o->h'.get? d=some o):IsD h' d es ep:=let ⟨o,ho,r⟩:=x; ⟨o,k o ho,r⟩
def IsD.lt {h:Heap}{d:Addr}{es:Array DictEntry}{ep:Nat} (x:IsD h d es ep):d<h.objs.size:=let ⟨_,ho,_⟩:=x; Aj ho
section
variable {prog:Program}{w:World}{A:Around}{E:Value->Shared->Prop}{s:Shared}{it d:Addr}{i ep:Nat}{es:Array DictEntry}
def IsD.typeIs (x:IsD s.heap d es ep):s.TypeIs (.ref d) "dict":=let ⟨o,ho,r⟩:=x; ⟨o,ho,r.1.1⟩
def iter {Q:Value->Shared->Prop} (hd:(d == sysModules)=false) (hm:IsD s.heap d es ep)
  (hQ:Q (.ref s.heap.objs.size) { s with heap:=s.heap.push { cls:=.type "dict_keyiterator",data:=.fields #[.ref d,.int 0 0,.int es.size 0,.int ep 0] } }):wpAny (model prog w) A (pyIter (.ref d)) Q E s:=by
 have hT:=hm.typeIs;obtain⟨o,ho,hc,aO⟩:=id hm;refine wpAny_pyIter_slot hT PySem.F.slot_dict_iter (AV PySem.F.slot_dict_iter hT PySem.F.entry_dict_iter ?_ (PySem.F.args_dict_iter_1 _));unfold Builtin.«dict.__iter__»;refine Aa ?_;unfold Builtin.Dict.dictSlotNone;refine Aa (wpAny_notOrdered_dict hT ?_);show wpAny _ _ (pure (Value.ref d)) _ _ s;refine Ac ?_;show wpAny _ _ (Builtin.Dict.showsAll d >>= _) _ _ s;unfold Builtin.Dict.showsAll;rw[if_neg (by rw[hd]; exact Ao)];refine Aa (Ac ?_);refine Aa (AR ho aO ?_);refine Aa (wpAny_dictEpoch ho aO ?_);refine Aa (AI (Ac ⟨_,rfl,"dict_keyiterator",_,⟨_,Ak _ rfl,rfl⟩,PySem.F.slot_dict_keyiterator_next.lookup,?_⟩))
 simpa[rawInt] using hQ
def item {Q:Option Value->Shared->Prop} (aw:s.heap.IsKeyIter it d i es.size ep) (hm:IsD s.heap d es ep) (hx:i<es.size)
  (hQ:∀h',h'.IsKeyIter it d (i+1) es.size ep->AC it s.heap h'->Q (some es[i].key) { s with heap:=h' }):wpAny (model prog w) A (pyNext (.ref it)) Q E s:=by
 obtain⟨o,ho,hc,hd⟩:=id aw;obtain⟨od,cB,bJ,cn⟩:=id hm;unfold pyNext;refine Aa (wpAny_attempt (AO (name:=A3 "__next__") aw.typeIs PySem.F.slot_dict_keyiterator_next
  (AV PySem.F.slot_dict_keyiterator_next aw.typeIs PySem.F.entry_dict_keyiterator_next ?_ (PySem.F.args_dict_keyiterator_next_1 _))))
 refine Aa (Ac ?_);refine Aa ?_;refine Aa ?_
 first | refine Aa (wpAny_typeNameOfWhole_keyiter aw.typeIs (Ac ?_)) | refine Aa (wpAny_typeNameOf_keyiter aw.typeIs (Ac ?_))
 refine Aa (wpAny_fieldsOf ho hd ?_);have aW:Builtin.Dict_items.ownsTuple "dict_keyiterator"=false:=by decide
 simp only[aW,Ai,if_false];show wpAny _ _ (if (Value.ref d == Value.none)=true then _ else _) _ _ s;rw[if_neg (show ¬ ((Value.ref d == Value.none)=true) from Ao)];refine Aa (Ac ?_);refine Aa (AR cB cn ?_);rw[if_neg (by simp)];refine Aa (Ac ?_);refine Aa (wpAny_dictEpoch cB cn ?_);rw[if_neg (by simp)];refine Ac ?_;simp only[show ¬ ((i:Int)<0) from by omega,if_false,Int.toNat_natCast,Array.getElem?_eq_getElem hx];refine Aa ?_
 first | refine Aa (wpAny_typeNameOfWhole_keyiter aw.typeIs (Ac ?_)) | refine Aa (wpAny_typeNameOf_keyiter aw.typeIs (Ac ?_))
 refine Aa (wpAny_isOneOf_keyiter aw.typeIs ?_);show wpAny _ _ (setField (.ref it) 1 (rawInt ((i:Int)+1)) >>= _) _ _ s;refine Aa (wpAny_setField ho hd (by simp) ?_);have cr:(s.heap.update it (Obj.mapFields (·.setIfInBounds 1 (rawInt ((i:Int)+1))))).IsKeyIter it d (i+1) es.size ep:=
  ⟨_,AU _ ho (Obj.isFreed_of_fields (Obj.data_mapFields hd _)),(Obj.cls_mapFields ..).trans hc,by rw[Obj.data_mapFields hd]; simp[rawInt]⟩
 refine Aa (AM ?_);refine Aa (wpAny_isOneOf_keyiter (s:={ s with heap:=s.heap.update it (Obj.mapFields (·.setIfInBounds 1 (rawInt ((i:Int)+1)))) }) cr.typeIs ?_);show wpAny _ _ (pure es[i].key) _ _ _;exact Ac (Ac ⟨_,rfl,Ac (hQ _ cr (AG ..))⟩)
def done {Q:Option Value->Shared->Prop} (hh:A.handled=none) (aw:s.heap.IsKeyIter it d es.size es.size ep) (hm:IsD s.heap d es ep)
  (hQ:∀h',Heap.ExtBut it s.heap h'->Q none { s with heap:=h' }):wpAny (model prog w) A (pyNext (.ref it)) Q E s:=by
 obtain⟨o,ho,hc,hd⟩:=id aw;obtain⟨od,cB,bJ,cn⟩:=id hm;unfold pyNext;refine Aa (wpAny_attempt (AO (name:=A3 "__next__") aw.typeIs PySem.F.slot_dict_keyiterator_next
  (AV PySem.F.slot_dict_keyiterator_next aw.typeIs PySem.F.entry_dict_keyiterator_next ?_ (PySem.F.args_dict_keyiterator_next_1 _))))
 refine Aa (Ac ?_);refine Aa ?_;refine Aa ?_
 first | refine Aa (wpAny_typeNameOfWhole_keyiter aw.typeIs (Ac ?_)) | refine Aa (wpAny_typeNameOf_keyiter aw.typeIs (Ac ?_))
 refine Aa (wpAny_fieldsOf ho hd ?_);have aW:Builtin.Dict_items.ownsTuple "dict_keyiterator"=false:=by decide
 simp only[aW,Ai,if_false];show wpAny _ _ (if (Value.ref d == Value.none)=true then _ else _) _ _ s;rw[if_neg (show ¬ ((Value.ref d == Value.none)=true) from Ao)];refine Aa (Ac ?_);refine Aa (AR cB cn ?_);rw[if_neg (by simp)];refine Aa (Ac ?_);refine Aa (wpAny_dictEpoch cB cn ?_);rw[if_neg (by simp)];refine Ac ?_;simp only[show ¬ ((es.size:Int)<0) from by omega,if_false,Int.toNat_natCast,Array.getElem?_eq_none (Af es.size)];refine Aa ?_
 first | refine Aa (wpAny_typeNameOfWhole_keyiter aw.typeIs (Ac ?_)) | refine Aa (wpAny_typeNameOf_keyiter aw.typeIs (Ac ?_))
 show wpAny _ _ (setField (.ref it) 0 .none >>= _) _ _ s;refine Aa (wpAny_setField ho hd (by simp) ?_);show wpAny _ _ (newExc (.type "StopIteration") [] >>= _) _ _ _;refine Aa ?_;simp only[newExc,newTuple];refine Aa (AI ?_ (by size_fits));refine Aa (m:=firstArgMember _ _) (wpAny_of_eq (a:=Value.none) (by first | rfl | (simp only[firstArgMember]; rfl)) ?_);refine AI ?_ (by size_fits);simp only[raiseNew];refine Aa (wpAny_handled ?_);rw[show A.in1.handled=none from hh];refine Aa (Ac (wpAny_throw ?_));refine Aa (wpAny_isInstance (T:="StopIteration") (b:=true) ⟨_,Ak _ rfl,rfl⟩ isSubtype_stop ?_);exact Ac (hQ _ (((AG ..).extBut.push _).push _))
def walks (hh:A.handled=none) (I d:Addr) (hne:d≠I) (es:Array DictEntry) (ep:Nat) :
  Walks prog w A I [I,d] [I] es.size (fun i v=>∃e,es[i]?=some e/\v=e.key) (fun i h=>h.IsKeyIter I d i es.size ep/\IsD h d es ep) where
 sub:=fun b hb=>by simp at hb ⊢; exact .inl hb
 frame:=fun i h h' st k=>⟨let ⟨o,ho,r⟩:=st.1; ⟨o,k I (by simp) o ho,r⟩,st.2.at fun o e=>k d (by simp) o e⟩
 item:=fun i s Q E hi st hQ=>item st.1 st.2 hi fun h' ak sb=>hQ _ h' s.toks ⟨es[i],by simp[hi],rfl⟩ ⟨ak,st.2.at fun o e=>(sb.2 d hne).trans e⟩ fun b o hb e=>(sb.2 b (fun z=>hb (by simp[z]))).trans e
 done:=fun s Q E st hQ=>done hh st.1 st.2 fun h' eb=>hQ h' s.toks fun b o hb e=>eb b o (fun z=>hb (by simp[z])) e
 self:=fun i s Q E st hQ=>wpAny_pyIter_keyiter st.1 hQ
def src (lo:(d == sysModules)=false):PySem.W.KdlSrc prog w "dict" d d es.size (fun i v=>∃e,es[i]?=some e/\v=e.key) (fun h=>IsD h d es ep) where
 type:=fun _ hm=>hm.typeIs
 there:=fun _ hm=>⟨hm.lt,hm.lt⟩
 keep:=fun _ _ hm hk=>hm.at fun o e=>hk d (.inl rfl) o e
 notList:=by decide
 notTuple:=by decide
 hint:=fun _ _ _ _ hm hq=>PySem.W.kdl_hint_dict hm.typeIs hq
 iter:=fun _ s hh hm=>⟨_,_,(fun _ _ hq=>iter lo hm hq),walks hh _ d (As hm.lt) es ep,⟨⟨_,Ak _ rfl,rfl,rfl⟩,hm.at fun o e=>Ae _ e⟩⟩
end
end Dk
namespace L2
open PySem PySem.Spec PyProof.Rows
section
variable {X:Cx}
def zmV {P:Program}{w:World}{k:Key}{u:Value} (h:(zu P w).is k u=true):RelV (kV k) u:=by
 rcases keyIs_shape h with ⟨i,t,rfl,rfl⟩ | ⟨x,t,rfl,rfl⟩
 ·exact⟨t,rfl⟩
 ·exact⟨t,rfl⟩
def zby (hc:X.calm=true):zX X (.type "list") (fun xs H Q=>∃a kvs,xs=[.ref a]/\H a=some (.dT kvs)/\
  ∀(bs:List Addr),Paired (fun (p:List Key×V) b=>H b=some (.tup (p.1.map kV))) kvs bs->∀l,H l=none->Q (.ref l) (upd H l (.lst (bs.map V.ref)))):=by
 intro aa s σ H xs us Q I r h;obtain⟨a,kvs,rfl,hq,q⟩:=h;obtain⟨u,rfl,ru⟩:=vals1 r;cases ru;obtain⟨z,y,ys,rel,o,es,ep,h1,h2,h3,h4,h5⟩:=(show zx X.prog X.w H s.heap a (.dT kvs) from I.hok a _ hq);have hl:es.size=kvs.length:=by
  have:=congrArg List.length h4;rw[Ab,<- AX rel] at this
  simpa using this
 refine PySem.W.kdl_call (Dk.src (ep:=ep) (es:=es) y) (I.ok.hd hc) ⟨o,h1,h2,h3⟩ (by rw[hl]; exact z) fun h' tk acc c' kk e it=>?_;obtain⟨n1,n2⟩:=it;have pb:Paired (fun (p:List Key×V) b=>H b=some (.tup (p.1.map kV))) kvs (ys.map (·.2.1)):=by
  have:∀{l:List (List Key×V)} {m:List (List Key×Addr×Value)},KT H l m->Paired (fun (p:List Key×V) b=>H b=some (.tup (p.1.map kV))) l (m.map (·.2.1)):=by
   intro l m q
   induction q with
   | nil=>exact .nil
   | cons hq t ih=>exact .cons hq.2.1 ih
  exact this rel
 have ea:acc.toList=(ys.map (·.2.1)).map Value.ref:=by
  apply List.ext_getElem?;intro i;have hy:ys.length=acc.size:=by rw[n1,hl]; exact (AX rel).symm
  by_cases hi:i<acc.size
  ·obtain⟨e',g1,g2⟩:=n2 i acc[i] (by simp[hi])
   have g3:es.toList[i]?=some e':=by simpa using g1
   rw[h4,Am] at g3;have g4:ys[i]?=some ys[i]:=by simp[hy,hi]
   rw[g4] at g3;simp only[Option.map_some,Option.some.injEq] at g3;simp only[Am,g4,Option.map_some,AK,Array.getElem?_eq_getElem hi];rw[g2,<- g3]
   rfl
  ·have g1:acc.toList.length<=i:=by simp; omega
   have g2:((ys.map (·.2.1)).map Value.ref).length<=i:=by simp[hy]; omega
   rw[List.getElem?_eq_none g1,List.getElem?_eq_none g2]
 have vv:Vals ((ys.map (·.2.1)).map V.ref) acc.toList:=by
  rw[ea];generalize ys.map (·.2.1)=bs
  induction bs with
  | nil=>exact .nil
  | cons b bs ih=>exact .cons rfl ih
 refine⟨.ref s.heap.objs.size,_,I.laid kk (Af _) (show zx X.prog X.w _ h' _ (.lst ((ys.map (·.2.1)).map V.ref)) from ⟨?_,acc.toList,c',vv,by simpa using e⟩),rfl,q _ pb _ (I.hok.fresh (Af _))⟩;simp only[Ab];rw[<- AX rel];exact z
def zee (hc:X.calm=true):zX X (.type "list") (fun xs H Q=>∃a kvs,xs=[.ref a]/\H a=some (.dK kvs)/\∀l,H l=none->Q (.ref l) (upd H l (.lst (kvs.map fun kv=>kV kv.1)))):=by
 intro aa s σ H xs us Q I r h;obtain⟨a,kvs,rfl,hq,q⟩:=h;obtain⟨u,rfl,ru⟩:=vals1 r;cases ru;obtain⟨z,y,vs,rel,dd⟩:=zmW I.hok hq;obtain⟨ep,dd⟩:=dd.dictAt;have hl:=rel.length;refine PySem.W.kdl_call (PySem.W.kdl_dict (knd:=zu X.prog X.w) (kvs:=vs) (ep:=ep) y) (I.ok.hd hc) dd (by rw[<- hl]; exact z) fun h' tk acc c' kk e it=>?_;obtain⟨n1,n2⟩:=it;have vv:Vals (kvs.map fun kv=>kV kv.1) acc.toList:=by
  have key:∀{l:List (Key×V)} {m:List (Key×Value)} {as:List Value},KV l m->as.length=m.length->(∀(i:Nat) v,as[i]?=some v->∃k x,m[i]?=some (k,x)/\(zu X.prog X.w).is k v=true)->Vals (l.map fun kv=>kV kv.1) as:=by
   intro l m as q
   induction q generalizing as with
   | nil=>intro h1 _; cases as with
    | nil=>exact .nil
    | cons _ _=>simp at h1
   | @cons p q' ps qs hq t ih=>
    intro h1 h2;cases as with
    | nil=>simp at h1
    | cons v as=>
     obtain⟨k,x,g1,g2⟩:=h2 0 v rfl;simp only[List.getElem?_cons_zero,Option.some.injEq] at g1;refine .cons ?_ (ih (by simpa using h1) fun i v e=>by simpa using h2 (i+1) v (by simpa using e));have:p.1=k:=by rw[hq.1,g1]
     show RelV (kV p.1) v;rw[this];exact zmV g2
  exact key rel (by simpa using n1) fun i v e=>n2 i v (by simpa using e)
 refine⟨.ref s.heap.objs.size,_,I.laid kk (Af _) (show zx X.prog X.w _ h' _ (.lst (kvs.map fun kv=>kV kv.1)) from ⟨?_,acc.toList,c',vv,by simpa using e⟩),rfl,q _ (I.hok.fresh (Af _))⟩
 simpa using z
end
end L2
end
section
namespace L2
open PySem PySem.Spec PyProof.Rows
def Tp (H:Hp) (a:Addr) (ps:List Int):Prop:=H a=some (.tup (ps.map V.int))
abbrev Tps (H:Hp) (as:List Addr) (ae:List (List Int)):Prop:=Paired (fun a ps=>Tp H a ps) as ae
def Same.tp {H H':Hp}{a:Addr}{ps:List Int} (e:Same H H') (h:Tp H a ps):Tp H' a ps:=e _ _ h
def Same.tps {H H':Hp}{as:List Addr}{ae:List (List Int)} (e:Same H H') (h:Tps H as ae):Tps H' as ae:=Paired.mapP h fun _ _ q=>e.tp q
def Same.new {H:Hp}{a:Addr}{o:HO} (h:H a=none):Same H (upd H a o):=fun b u e=>by rw[zh (zg e h)]; exact e
def Same.then {H H1:Hp}{a:Addr}{o:HO} (e:Same H H1) (h:H a=none):Same H (upd H1 a o):=fun b u q=>by rw[zh (zg q h)]; exact e b u q
def Tps.length {H:Hp}{as:List Addr}{ae:List (List Int)} (h:Tps H as ae):as.length=ae.length:=AX h
def Tps.get {H:Hp}:∀{as:List Addr}{ae:List (List Int)}{i:Nat}{a:Addr},Tps H as ae->as[i]?=some a->∃ps,ae[i]?=some ps/\Tp H a ps
 | _,_,_,_,.nil,e=>by simp at e
 | _,_,0,_,.cons r _,e=>by simp at e; subst e; exact⟨_,rfl,r⟩
 | _,_,i+1,a,.cons _ t,e=>by
  obtain⟨u,h1,h2⟩:=Tps.get (i:=i) (a:=a) t (by simpa using e);exact⟨u,by simpa using h1,h2⟩
def Tps.snoc {H:Hp}{as:List Addr}{ae:List (List Int)}{a:Addr}{ps:List Int} (h:Tps H as ae) (q:Tp H a ps):Tps H (as++[a]) (ae++[ps]):=by
 induction h with
 | nil=>exact .cons q .nil
 | cons r t ih=>exact .cons r ih
def Tps.append {H:Hp}{as bs:List Addr}{ae aF:List (List Int)} (h:Tps H as ae) (q:Tps H bs aF):Tps H (as++bs) (ae++aF):=by
 induction h with
 | nil=>exact q
 | cons r t ih=>exact .cons r ih
def Tps.take {H:Hp}:∀{as:List Addr}{ae:List (List Int)} (n:Nat),Tps H as ae->Tps H (as.take n) (ae.take n)
 | _,_,0,_=>.nil
 | _,_,_+1,.nil=>.nil
 | _,_,n+1,.cons r t=>.cons r (Tps.take n t)
def Tps.drop {H:Hp}:∀{as:List Addr}{ae:List (List Int)} (n:Nat),Tps H as ae->Tps H (as.drop n) (ae.drop n)
 | _,_,0,r=>r
 | _,_,_+1,.nil=>.nil
 | _,_,n+1,.cons _ t=>Tps.drop n t
def vals_refs:∀{as:List Addr}{us:List Value},Vals (as.map V.ref) us->us=as.map Value.ref
 | [],_,.nil=>rfl
 | a::as,_,.cons r t=>by cases r; rw[vals_refs t]; rfl
def zeC {α:Type} (f:α->Addr):∀l:List α,Vals (l.map fun q=>V.ref (f q)) (l.map fun q=>Value.ref (f q))
 | []=>.nil
 | a::l=>.cons rfl (zeC f l)
section
variable {X:Cx}
def zfl {prog:Program}{w:World}{h:Heap}{c:Addr}{cs:List Value}{qs:List Int} (hc:IsTup h c cs.toArray) (hi:IntsAre cs qs):AB (zu prog w) h (qs.map Sum.inl) c:=by
 obtain⟨o,e,hcl,k,d⟩:=hc;refine⟨o,cs.toArray,k,e,hcl,d,?_⟩;have:∀{cs:List Value} {qs:List Int},IntsAre cs qs->ItemsAre (zu prog w) (qs.map Sum.inl) cs:=by
  intro cs qs hi
  induction hi with
  | nil=>exact .nil
  | cons n t h ih=>exact .cons (za6 prog w n t) ih
 simpa using this hi
def zar {ps qs:List Int}:(ps.map Sum.inl:List Key)=qs.map Sum.inl ↔ ps=qs:=
 ⟨fun z=>(List.map_inj_right (f:=(Sum.inl:Int->Key)) (fun x y h=>Sum.inl.inj h)).mp z,fun z=>by rw[z]⟩
def zl5 {aa:List (Addr×Obj)}{σ:St}{H:Hp}{s:Shared}{A:Around}{a b:Addr}{ps qs:List Int} (I:Inv X aa σ H s) (ha:Tp H a ps) (hb:Tp H b qs) (hu:A.units<cLine) :
  SeqAt.EqAt A s (.ref a) (.ref b) (decide (ps=qs)):=by
 intro prog w E Q h;obtain⟨ah,r1,p1,_⟩:=I.tuple (SqT.of ha);obtain⟨bx,r2,p2,_⟩:=I.tuple (SqT.of hb);refine wpAny_eqBool_tuple (knd:=zu prog w) hu (zfl p1 (intsAre_of r1)) (zfl p2 (intsAre_of r2)) ?_;rw[show decide ((ps.map Sum.inl:List Key)=qs.map Sum.inl)=decide (ps=qs) from by simp only[zar]];exact h
def zlr:R2:=fun x y H Q=>∃a b xs ys,x=.ref a/\y=.ref b/\H a=some (.tup xs)/\H b=some (.tup ys)/\xs.length+ys.length<=sizeLine/\∀p H',Same H H'->H' p=some (.tup (xs++ys))->Q (.ref p) H'
def zev:OpR X (binaryOp .Add) zlr:=by
 intro aa s σ H x y v u Q I rx ry h;obtain⟨a,b,xs,ys,rfl,rfl,ha,hb,hz,q⟩:=h;cases rx;cases ry;obtain⟨ah,r1,p1,_⟩:=I.tuple (SqT.of ha);obtain⟨bx,r2,p2,_⟩:=I.tuple (SqT.of hb)
 by_cases hx:xs=[]
 ·subst hx
  have e1:=r1.nil_iff.mpr rfl;subst e1;obtain⟨⟨cls,dd,data,sl⟩,ho,hc,n,hd⟩:=id p1;obtain⟨⟨jz,gj,data2,gc⟩,dw,cH,n2,ax⟩:=id p2;simp only at hc hd cH ax;subst hc hd cH ax;exact concat_meets ⟨_,ho,rfl⟩ ⟨_,dw,rfl⟩ noFill_tuple_add seq_tuple_add PySem.F.slot_tuple_add PySem.F.entry_tuple_add (PySem.F.args_tuple_add_2 _ _)
   (tuple_addW0 a b (List.toArray []) bx.toArray n n2 dd gj sl gc (by simp)) ⟨ho,dw,.ref b,H,I,rfl,q b H (Same.refl H) (by simpa using hb)⟩
 ·refine HT.zlw p1 p2 (fun z=>hx (r1.nil_iff.mp z)) (fun z=>⟨.ref a,H,I,rfl,q a H (Same.refl H) ?_⟩) (fun z=>?_) (by rw[<- r1.length,<- r2.length]; exact hz)
  ·rw[r2.nil_iff.mp z,List.append_nil]; exact ha
  ·have hf:=I.hok.fresh (Af s.heap.objs.size)
   refine⟨.ref s.heap.objs.size,_,I.laid (t':=s.toks) (o:=.tup (xs++ys)) (fun b ob q=>Ae _ q) (Af _) ?_,rfl,q _ _ (Same.new hf) upd_same⟩;exact⟨by rw[Aq]; exact hz,_,r1.append r2,IsTup.new _ _⟩
def rInT (ip:Bool) (K:Ad):R2:=fun x y H Q=>∃a l ps as ae,x=.ref a/\y=.ref l/\Tp H a ps/\SqL K H l (as.map V.ref)/\Tps H as ae/\Q (.bl (if ip then !decide (ps∈ae) else decide (ps∈ae))) H
def eqH (H:Hp) (ps:List Int) (u:Value):Bool:=match u with
 | .ref b=>(match H b with | some (.tup xs)=>decide (xs=ps.map V.int) | _=>false)
 | _=>false
def zjr {ps qs:List Int}:(ps.map V.int:List V)=qs.map V.int ↔ ps=qs:=
 ⟨fun z=>(List.map_inj_right (f:=V.int) (fun x y h=>V.int.inj h)).mp z,fun z=>by rw[z]⟩
def zkH {H:Hp}{b:Addr}{ps qs:List Int} (h:Tp H b qs):eqH H ps (.ref b)=decide (qs=ps):=by
 show (match H b with | some (.tup xs)=>decide (xs=ps.map V.int) | _=>false)=_;rw[show H b=some (.tup (qs.map V.int)) from h];simp only[zjr]
def zkU {H:Hp}{ps:List Int}{as:List Addr}{ae:List (List Int)} (h:Tps H as ae):(as.map Value.ref).any (eqH H ps)=decide (ps∈ae):=by
 induction h with
 | nil=>simp
 | @cons a qs as ae r t ih=>
  rw[AH,List.any_cons,ih,zkH r]
  by_cases e:qs=ps
  ·subst e; simp
  ·have:¬ ps=qs:=fun z=>e z.symm
   simp[e,this]
def zlE {aa:List (Addr×Obj)}{σ:St}{H:Hp}{s:Shared}{A:Around}{a:Addr}{ps:List Int} (I:Inv X aa σ H s) (ha:Tp H a ps) (hu:A.units<cLine) :
  ∀{as:List Addr} {ae:List (List Int)},Tps H as ae->∀u∈as.map Value.ref,SeqAt.EqAt A s u (.ref a) (eqH H ps u):=by
 intro as ae h
 induction h with
 | nil=>intro u hu; simp at hu
 | @cons b qs as ae r t ih=>
  intro u hm;rw[AH] at hm;rcases List.mem_cons.mp hm with rfl | hm
  ·rw[zkH r]; exact zl5 I r ha hu
  ·exact ih u hm
def zd7 (hu:X.A.in1.units<cLine):OpR X (compareOp .NotIn) (rInT true X.K):=by
 intro aa s σ H x y v u Q I rx ry h;obtain⟨a,l,ps,as,ae,rfl,rfl,ha,hl,hp,q⟩:=h;cases rx;cases ry;obtain⟨ah,r,pl,hz⟩:=I.list hl;obtain rfl:=vals_refs r;refine SeqAt.notIn_listAt (eqH H ps) pl.isList (fun w hw=>zlE I ha hu hp w (by simpa using hw)) ⟨.bl _,H,I,rfl,?_⟩;rw[show (as.map Value.ref).toArray.any (eqH H ps)=(as.map Value.ref).any (eqH H ps) by simp,zkU hp];exact q
def zdc {aa:List (Addr×Obj)}{σ:St}{H:Hp}{s:Shared}{a:Addr}{ps:List Int} (I:Inv X aa σ H s) (ha:Tp H a ps):Reads s.heap (.ref a) (.tuple (ps.map PyData.int)) []:=by
 obtain⟨ah,r,p,_⟩:=I.tuple (SqT.of ha);obtain⟨o,ho,hc,n,hd⟩:=id p;exact .tuple ho hc hd ((PySem.W.ke_carried (intsAre_of r)).reads s.heap)
def zhl {aa:List (Addr×Obj)}{σ:St}{H:Hp}{s:Shared} (I:Inv X aa σ H s):∀{as:List Addr}{ae:List (List Int)},Tps H as ae->ReadsAll s.heap (as.map Value.ref) (ae.map fun ps=>PyData.tuple (ps.map PyData.int)) []:=by
 intro as ae h
 induction h with
 | nil=>exact .nil
 | cons r t ih=>exact .cons (as:=[]) (bs:=[]) (zdc I r) ih
def zfy {aa:List (Addr×Obj)}{σ:St}{H:Hp}{s:Shared}{l:Addr}{as:List Addr}{ae:List (List Int)} (I:Inv X aa σ H s) (hl:SqL X.K H l (as.map V.ref)) (h:Tps H as ae) :
  Reads s.heap (.ref l) (.list (ae.map fun ps=>PyData.tuple (ps.map PyData.int))) [l]:=by
 obtain⟨ah,r,p,_⟩:=I.list hl;obtain rfl:=vals_refs r;obtain⟨o,ho,hc,n,hd⟩:=p.isList;exact .list ho hc hd (by simpa using zhl I h)
def zdN (ps:List Int):PyData.canLay0 (.tuple (ps.map PyData.int))=true:=by simp[PyData.canLay0,PySem.W.ke_canLayAll0]
def zfP (ps:List Int):PyData.depth (.tuple (ps.map PyData.int))=1:=by simp[PyData.depth,PySem.W.ke_depthAll]
def zdX (ps:List Int):SeqAt.shaped (.tuple (ps.map PyData.int))=true:=by
 simp[SeqAt.shaped,zdN,zfP]
def zd8:∀ae:List (List Int),PyData.canLayAll0 (ae.map fun ps=>PyData.tuple (ps.map PyData.int))=true
 | []=>rfl
 | ps::r=>by rw[AH,PyData.canLayAll0,zdN,zd8 r]; rfl
def zfV:∀ae:List (List Int),PyData.depthAll (ae.map fun ps=>PyData.tuple (ps.map PyData.int))<=1
 | []=>AQ _
 | ps::r=>by rw[AH,PyData.depthAll,zfP]; exact Nat.max_le.mpr ⟨Af _,zfV r⟩
def zd3 (ae:List (List Int)):SeqAt.shaped (.list (ae.map fun ps=>PyData.tuple (ps.map PyData.int)))=true:=by
 have:=zfV ae;have e:PyData.depth (.list (ae.map fun ps=>PyData.tuple (ps.map PyData.int)))<=64:=by rw[PyData.depth]; omega
 unfold SeqAt.shaped;rw[decide_eq_true e,PyData.canLay0,zd8]
 rfl
def zg1:∀ae aF:List (List Int),sameAll (ae.map fun ps=>PyData.tuple (ps.map PyData.int)) (aF.map fun ps=>PyData.tuple (ps.map PyData.int))=decide (ae=aF)
 | [],[]=>by simp[sameAll]
 | [],_::_=>by simp[sameAll]
 | _::_,[]=>by simp[sameAll]
 | a::r,b::t=>by
  simp only[AH,sameAll,same,PySem.W.ke_sameAll,zg1 r t]
  by_cases h:a=b <;> by_cases h':r=t <;> simp[h,h']
def zkF (ps:List Int):(Shape.tuples .int).has (.tuple (ps.map PyData.int))=true:=by simp[Shape.has]
def zkL (ae:List (List Int)):(Shape.list (.tuples .int)).has (.list (ae.map fun ps=>PyData.tuple (ps.map PyData.int)))=true:=by simp[Shape.has]
def rEqT (ip:Bool) (K:Ad):R2:=fun x y H Q=>(∃a b ps qs,x=.ref a/\y=.ref b/\Tp H a ps/\Tp H b qs/\Q (.bl (if ip then !decide (ps=qs) else decide (ps=qs))) H) \/
 (∃l m as bs ae aF,x=.ref l/\y=.ref m/\SqL K H l (as.map V.ref)/\Tps H as ae/\SqL K H m (bs.map V.ref)/\Tps H bs aF/\Q (.bl (if ip then !decide (ae=aF) else decide (ae=aF))) H)
def zml (hu:X.A.units+64<cLine):OpR X (compareOp .NotEq) (rEqT true X.K):=by
 intro aa s σ H x y v u Q I rx ry h;rcases h with ⟨a,b,ps,qs,rfl,rfl,ha,hb,q⟩ | ⟨l,m,as,bs,ae,aF,rfl,rfl,hl,hp,hm,hq,q⟩
 ·cases rx
  cases ry;refine ne_dataH_same (zdc I ha) (zdc I hb) (zdX _) (zdX _) hu (SeqAt.noMix_of_shape (.tuples .int) rfl _ _ (zkF _) (zkF _)) ?_;rw[show same (.tuple (ps.map PyData.int)) (.tuple (qs.map PyData.int))=decide (ps=qs) from by simp only[same]; exact PySem.W.ke_sameAll ps qs];exact⟨.bl _,H,I,rfl,q⟩
 ·cases rx
  cases ry;refine ne_dataH_same (zfy I hl hp) (zfy I hm hq) (zd3 _) (zd3 _) hu (SeqAt.noMix_of_shape (.list (.tuples .int)) rfl _ _ (zkL _) (zkL _)) ?_;rw[show same (.list (ae.map fun ps=>PyData.tuple (ps.map PyData.int))) (.list (aF.map fun ps=>PyData.tuple (ps.map PyData.int)))=decide (ae=aF) from by simp only[same]; exact zg1 ae aF];exact⟨.bl _,H,I,rfl,q⟩
def zl9:V->List V->Hp->VK->Prop:=fun x vs H Q=>∃l xs i y,x=.ref l/\vs=[.int i,y]/\H l=some (.lst xs)/\0<=i/\i<=xs.length/\xs.length<sizeLine/\Q .non (upd H l (.lst (xs.take i.toNat++y::xs.drop i.toNat)))
def ziM:MtM X "list.insert" zl9:=by
 intro aa s σ H x vs v us Q I rx rv h;obtain⟨l,xs,i,y,rfl,rfl,hH,h0,hi,hz,q⟩:=h;cases rx;obtain⟨u,u',rfl,ru,fJ⟩:=rv.two;obtain⟨t,rfl⟩:=ru;obtain⟨z,ah,n,r,hl,e⟩:=I.lstM hH;have yR:sizeLine<2 ^ 62:=by rw[sizeLine_eq]; decide
 have hf:Builtin.List.listFitsIndex i=true:=by
  unfold Builtin.List.listFitsIndex;simp only[AF,decide_eq_true_eq];constructor <;> omega
 refine call_meets F.slot_list_insert ⟨_,e,rfl⟩ F.entry_list_insert (F.args_list_insert_3 _ _ _) (PySem.AutoSeq1.list_insert_list_int_val_1 l ah.toArray n i t u' (by simp[hf]) (by rw[Ag]; omega)) ⟨e,?_⟩;refine⟨.non,_,I.lset (its':=ah.take i.toNat++u'::ah.drop i.toNat) (t':=s.toks) hH e ?_ ((r.take _).append (.cons fJ (r.drop _))) ?_,rfl,q⟩
 ·have hk:(if i<0 then (i+(ah.toArray.size:Int)).toNat else min i.toNat ah.toArray.size)=i.toNat:=by
   rw[if_neg (by omega),Ag];omega
  dsimp only;rw[hk];simp;exact Av (by rw[List.length_drop]; exact Af _)
 ·rw[Aq,Ap,AJ,List.length_drop]
  omega
def zcN:zX X (.type "int") (fun xs H Q=>∃x n,xs=[.str x]/\PySem.intText? x=some n/\x.length<=640/\Q (.int n) H):=by
 intro aa s σ H xs us Q I r h;obtain⟨x,n,rfl,hn,hl,q⟩:=h;obtain⟨u,rfl,t,rfl⟩:=vals1 r;exact PySem.W.KIN.call_text hn hl ⟨.int n,H,I.tok _,⟨_,rfl⟩,q⟩
end
end L2
end
section
namespace L2
open PySem PySem.Spec PyProof.Rows
section
variable {X:Cx}{aa:List (Addr×Obj)}{σ:St}{H:Hp}{s:Shared}
def zeb {A:Around} (h:A.units+64<cLine):A.in1.in1.units<cLine:=by show A.units+1+1<cLine; omega
def in1_units {A:Around} (h:A.units+64<cLine):A.in1.units<cLine:=by show A.units+1<cLine; omega
def zbG:zX X (.builtin "sorted") (fun xs H Q=>∃(l:Addr) (ns:List Int),xs=[.ref l]/\SqL X.K H l (ns.map V.int)/\ns.length<64/\∀(D:Addr) (ms:List Int),ms.Perm ns->ms.Pairwise (·<=·)->H D=none->Q (.ref D) (upd H D (.lst (ms.map V.int)))):=by
 intro aa s σ H xs us Q I r h;obtain⟨l,ns,rfl,hq,h64,q⟩:=h;obtain⟨u,rfl,ru⟩:=vals1 r;cases ru;obtain⟨ah,r1,p1,hz⟩:=I.list hq;have hi:IntsAre ah ns:=intsAre_of r1;have hlen:=r1.length;rw[Ab] at hlen hz;refine Srt.zd1 (ls:=ns.map fun n=>[n]) (good:=fun _=>True) p1.isList (Srt.zls hi) (fun _ _=>trivial) (by omega) (by omega) fun a_ ho=>?_;obtain⟨ps,hp,ho,hs⟩:=ho;have all:∀p∈ps,∃n t,p.1=[n]/\p.2=Value.int n t:=fun p cz=>by
  obtain⟨i,e⟩:=List.mem_iff_getElem?.mp (hp.mem_iff.mp cz);rw[Srt.zipget,Am] at e;cases e1:ns[i]? with
  | none=>rw[e1] at e; simp at e
  | some n=>
   obtain⟨t,e2⟩:=hi.get i n e1;rw[e1,e2] at e;simp only[Option.map_some,Option.bind_some,Option.some.injEq] at e;subst e;exact⟨n,t,rfl,rfl⟩
 have vv:∀ps:List (List Int×Value),(∀p∈ps,∃n t,p.1=[n]/\p.2=Value.int n t)->Vals ((ps.map fun p=>p.1.headD 0).map V.int) (ps.map (·.2)):=by
  intro ps
  induction ps with
  | nil=>intro _; exact .nil
  | cons p ps ih=>
   intro h;obtain⟨n,t,e1,e2⟩:=h p Au;refine .cons ?_ (ih fun q hq=>h q (Aw _ hq));show RelV (V.int (p.1.headD 0)) p.2;rw[e1,e2];exact⟨t,rfl⟩
 have pm:(ps.map fun p=>p.1.headD 0).Perm ns:=by
  have h1:=hp.map (fun p:List Int×Value=>p.1.headD 0);have e:((ns.map fun n=>[n]).zip ah).map (fun p:List Int×Value=>p.1.headD 0)=ns:=by
   rw[show (fun p:List Int×Value=>p.1.headD 0)=(fun l:List Int=>l.headD 0) ∘ Prod.fst from rfl,<- Az,List.map_fst_zip (by rw[Ab]; omega),Az];exact List.map_id' ns
  rw[e] at h1;exact h1
 have pw:(ps.map fun p=>p.1.headD 0).Pairwise (·<=·):=by
  rw[List.pairwise_map];refine hs.imp_of_mem fun {p q} h1 h2 h3=>?_;obtain⟨n,t,e1,_⟩:=all p h1;obtain⟨m,t',e2,_⟩:=all q h2;rw[e1,e2,HT.zK] at h3;rw[e1,e2];show n<=m
  by_cases e:m=n
  ·omega
  ·rw[if_neg e] at h3
   have:=of_decide_eq_false h3;omega
 obtain⟨e,he⟩:=sortedAll_at s.heap ah a_;refine⟨.ref (s.heap.objs.size+1),_,I.laid (t':=s.toks) (fun _ _=>sortedAll_old) (Nat.le_succ _) (show zx X.prog X.w _ _ _ (.lst ((ps.map fun p=>p.1.headD 0).map V.int)) from ⟨?_,a_.toList,e,?_,?_⟩),rfl,q _ _ pm pw (I.hok.fresh (Nat.le_succ _))⟩
 ·rw[Ab,pm.length_eq]; exact hz
 ·rw[ho]; exact vv ps all
 ·simpa using he
def PrAt (H:Hp) (p:Addr) (l:List Int):Prop:=∃n b ps,l=n::ps/\H p=some (.tup [.int n,.ref b])/\Tp H b ps
def zmL {p:Addr}{l:List Int} (I:Inv X aa σ H s) (h:PrAt H p l):Srt.IsPr s.heap (.ref p) l:=by
 obtain⟨n,b,ps,rfl,h1,h2⟩:=h;obtain⟨ah,r1,p1,_⟩:=I.tuple (SqT.of (K:=X.K) h1);obtain⟨u,u',rfl,⟨t,rfl⟩,fJ⟩:=vals2 r1;cases fJ;obtain⟨bx,r2,p2,_⟩:=I.tuple (SqT.of (K:=X.K) h2);exact⟨p,b,n,t,bx,ps,rfl,rfl,p1,p2,intsAre_of r2⟩
def zlC {h h':Heap}{u:Value}{l:List Int} (k:∀b o,h.get? b=some o->h'.get? b=some o) (x:Srt.IsPr h u l):Srt.IsPr h' u l:=by
 obtain⟨a,b,n,t,ah,ps,e1,e2,⟨o,ho,hc⟩,⟨o',ho',fB⟩,i⟩:=x;exact⟨a,b,n,t,ah,ps,e1,e2,⟨o,k _ _ ho,hc⟩,⟨o',k _ _ ho',fB⟩,i⟩
def zbe {α β:Type}{R:α->β->Prop}{l:List α}{m:List β} (p:Paired R l m):∀(i:Nat) x y,l[i]?=some x->m[i]?=some y->R x y:=by
 induction p with
 | nil=>intro i x y h; simp at h
 | cons r t ih=>
  intro i x y h1 h2;cases i with
  | zero=>simp at h1 h2; subst h1 h2; exact r
  | succ i=>exact ih i x y (by simpa using h1) (by simpa using h2)
def addrOf:Value->Addr
 | .ref a=>a
 | _=>0
def zch (hu:X.A.units+64<cLine):zX X (.builtin "sorted") (fun xs H Q=>∃(l:Addr) (as:List Addr) (ls:List (List Int)),xs=[.ref l]/\SqL X.K H l (as.map V.ref)/\Paired (PrAt H) as ls/\ls.length<64/\
  ∀(D:Addr) (qs:List (List Int×Addr)),qs.Perm (ls.zip as)->qs.Pairwise (fun a b=>HT.lexLt b.1 a.1=false)->H D=none->Q (.ref D) (upd H D (.lst (qs.map fun q=>V.ref q.2)))):=by
 intro aa s σ H xs us Q I r h;obtain⟨l,as,ls,rfl,hq,hp,h64,q⟩:=h;obtain⟨u,rfl,ru⟩:=vals1 r;cases ru;obtain⟨ah,r1,p1,hz⟩:=I.list hq;have hlen:=r1.length;obtain rfl:=vals_refs r1;rw[Ab] at hlen hz;have aG:=AX hp;have ld:∀h:Heap,(∀b o,s.heap.get? b=some o->h.get? b=some o)->∀(i:Nat) u l,(as.map Value.ref)[i]?=some u->ls[i]?=some l->Srt.IsPr h u l:=fun h hk i u l h1 h2=>by
  rw[Am] at h1;cases e:as[i]? with
  | none=>rw[e] at h1; simp at h1
  | some a=>
   rw[e] at h1;obtain rfl:=Al h1;exact zlC hk (zmL I (zbe hp i a l e h2))
 refine Srt.zd1 (ls:=ls) (good:=fun h=>∀b o,s.heap.get? b=some o->h.get? b=some o) p1.isList (Srt.zkC (by rw[Ab]; exact aG) (zeb hu) ⟨s.heap,fun _ _ e=>e⟩ ld) (fun h' hk=>hk) (by rw[Ab]; exact hz) (by rw[Ab]; omega) fun a_ ho=>?_;obtain⟨ps,hZ,ho,hs⟩:=ho;have all:∀p∈ps,p.2=Value.ref (addrOf p.2):=fun p cz=>by
  have:=(List.of_mem_zip (hZ.mem_iff.mp cz:(p.1,p.2)∈ls.zip (as.map Value.ref))).2;obtain⟨a,_,e⟩:=List.mem_map.mp this;rw[<- e]; rfl
 have pm:(ps.map fun p=>(p.1,addrOf p.2)).Perm (ls.zip as):=by
  have h1:=hZ.map (fun p:List Int×Value=>(p.1,addrOf p.2));have e:(ls.zip (as.map Value.ref)).map (fun p:List Int×Value=>(p.1,addrOf p.2))=ls.zip as:=by
   rw[List.zip_map_right,Az];exact (List.map_congr_left fun p _=>rfl).trans (List.map_id' _)
  rw[e] at h1;exact h1
 obtain⟨e,he⟩:=sortedAll_at s.heap (as.map Value.ref) a_;have ex:a_.toList=((ps.map fun p=>(p.1,addrOf p.2)).map fun q=>Value.ref q.2):=by
  rw[ho,Az];exact List.map_congr_left fun p cz=>all p cz
 refine⟨.ref (s.heap.objs.size+1),_,I.laid (t':=s.toks) (fun _ _=>sortedAll_old) (Nat.le_succ _) (show zx X.prog X.w _ _ _ (.lst ((ps.map fun p=>(p.1,addrOf p.2)).map fun q=>V.ref q.2)) from ⟨?_,a_.toList,e,?_,?_⟩),rfl,q _ _ pm ?_ (I.hok.fresh (Nat.le_succ _))⟩
 ·rw[Ab,pm.length_eq,List.length_zip]; omega
 ·rw[ex]
  exact zeC (fun q:List Int×Addr=>q.2) _
 ·simpa using he
 ·rw[List.pairwise_map]; exact hs
def zj2:Sp:=fun vs H Q _=>∃a ps,vs=[.ref a]/\Tp H a ps/\∀p,H p=none->Q (.ref p) (upd H p (.tup [.int ps.length,.ref a]))
def zkz {b:Addr} (h:FpOk X aa H b):∀c∈[b],FpOk X aa H c:=fun c hc=>by rw[List.mem_singleton.mp hc]; exact h
def zb0 {H':Hp}{b:Addr} (f:FpOk X aa H b) (hn:H' b=none):FpOk X aa H' b:=⟨hn,f.2⟩
def zkI {b:Addr} (I:Inv X aa σ H s) (f:FpOk X aa H b):b∉frs X.stack:=fun hb=>by
 rcases List.mem_cons.mp (I.stkSub b hb) with e | e
 ·exact f.2.1 e
 ·exact f.2.2.1 e
def zgb {k:Nat}{f l:Addr}{fd:FuncData}{as:List Addr}{ae:List (List Int)}{x:Str}{Q:Value->Shared->Prop} (F:FnOk X.prog X.w X.K X.mg X.base CX0 k f fd [x] zj2) (hr:Room (k+2) X.A) (hb:Binds X.K fd [x] [])
  (I:Inv X aa σ H s) (hl:SqL X.K H l (as.map V.ref)) (ht:Tps H as ae) (h64:ae.length<64)
  (h:∀D H' (qs:List (List Int×Addr)) s',Inv X aa σ H' s'->Same H H'->H D=none->H' D=some (.lst (qs.map fun q=>V.ref q.2))->qs.Perm (ae.zip as)->
   qs.Pairwise (fun a b=>HT.lexLt ((b.1.length:Int)::b.1) ((a.1.length:Int)::a.1)=false)->Q (.ref D) s') :
  wpAny (model X.prog X.w) X.A (call (.builtin "sorted") [.ref l] [(A3 "key",.ref f)]) Q X.xe s:=by
 have hu:X.A.units+64<cLine:=hr.units;obtain⟨ah,r1,p1,hz⟩:=I.list hl;have hlen:=r1.length;obtain rfl:=vals_refs r1;have aG:=ht.length;rw[Ab] at hlen hz;have iS:(as.map Value.ref).length<=sizeLine:=by rw[Ab]; exact hz
 generalize hvs:as.map Value.ref=vs at p1 iS;have oC:vs.length=as.length:=by rw[<- hvs,Ab]
 refine call_function_entry_kw kind_sorted plain_sorted entry_sorted (ksk_s1 _ _) ?_;unfold Builtin.«sorted»;refine Aa (m:=checkCount "sorted" 1 1 _) (Ac ?_);refine Aa (collect_list p1.isList ?_ iS);refine Aa (wpAny_newList ?_ iS);have hsz:((s.heap.push (seqObj "list" #[] 0)).update s.heap.objs.size (Ax (·++vs.toArray))).objs.size=s.heap.objs.size+1:=by
  rw[A0,size_push']
 have hoL:(((s.heap.push (seqObj "list" #[] 0)).update s.heap.objs.size (Ax (·++vs.toArray))).push (seqObj "list" vs.toArray 0)).get? (s.heap.objs.size+1)=some (seqObj "list" vs.toArray 0):=by
  rw[<- hsz]; exact Ak _ rfl
 have keep:∀b o,s.heap.get? b=some o->(((s.heap.push (seqObj "list" #[] 0)).update s.heap.objs.size (Ax (·++vs.toArray))).push (seqObj "list" vs.toArray 0)).get? b=some o:=fun b o q=>by
  have hlt:b<s.heap.objs.size:=Aj q;rw[Heap.get?_push_ne _ _ _ (by rw[hsz]; exact As (Nat.lt_succ_of_lt hlt)),Heap.get?_update_ne _ _ _ _ (As hlt),Heap.get?_push_ne _ _ _ (As hlt)];exact q
 show wpAny _ _ _ _ _ { s with heap:=((s.heap.push (seqObj "list" #[] 0)).update s.heap.objs.size (Ax (·++vs.toArray))).push (seqObj "list" vs.toArray 0) };rw[hsz];generalize hA:((s.heap.push (seqObj "list" #[] 0)).update s.heap.objs.size (Ax (·++vs.toArray))).push (seqObj "list" vs.toArray 0)=cJ at hoL keep ⊢;have I1:Inv X aa σ H { s with heap:=cJ }:=I.kept (t':=s.toks) keep;have iO:FpOk X aa H (s.heap.objs.size+1):=I.fpOk (Nat.le_succ _) (I.hok.fresh (Nat.le_succ _));generalize hD:s.heap.objs.size+1=D at hoL iO ⊢;have rG:D<cJ.objs.size:=Aj hoL;refine Aa (AM (wpAny_call_entry_kw slot_list_sort ⟨_,hoL,rfl⟩ entry_list_sort ?body (ksk_l1 _ _)))
 case body=>
  show wpAny (model X.prog X.w) X.A.in1.in1 (Builtin.«list.sort» ⟨[.ref D],[(A3 "key",.ref f)]⟩) _ _ _;rw[ksk_t1];unfold ksk_tree;refine Aa (listItems_at hoL rfl ?_);refine Aa (listUpdate_at hoL rfl ?_ (by rw[Ag]; exact iS) (AQ _));obtain⟨e1,fe⟩:∃e1,(cJ.update D (Ax fun _=>(#[]:Array Value))).get? D=some (seqObj "list" #[] e1):=⟨_,get?_update_seq hoL fun _=>#[]⟩;refine Aa (seqEpoch_at fe rfl ?_);refine Aa (wpAny_newTuple ?_ (by show vs.length<=_; exact iS));refine Aa (wpAny_newList ?_ (AQ _));refine AM ?_;have I2:Inv X aa σ H { s with heap:=cJ.update D (Ax fun _=>(#[]:Array Value)) }:=
   Inv.turneds (s:={ s with heap:=cJ }) (t':=s.toks) (ch:=[D]) I1 (zkz iO) fun b o hb q=>by rw[Heap.get?_update_ne _ _ _ _ (fun z=>hb (by simp[z]))]; exact q
  have I3:Inv X aa σ H { s with heap:=((cJ.update D (Ax fun _=>(#[]:Array Value))).push (seqObj "tuple" vs.toArray 0)) }:=I2.kept (t':=s.toks) fun b u q=>Ae _ q;have kw:FpOk X aa H ((cJ.update D (Ax fun _=>(#[]:Array Value))).push (seqObj "tuple" vs.toArray 0)).objs.size:=I3.fpOk (Af _) (I3.hok.fresh (Af _));have ky:((cJ.update D (Ax fun _=>(#[]:Array Value))).push (seqObj "tuple" vs.toArray 0)).objs.size≠D:=by
   rw[size_push',A0]; omega
  have I4:Inv X aa σ H { s with heap:=(((cJ.update D (Ax fun _=>(#[]:Array Value))).push (seqObj "tuple" vs.toArray 0)).push (seqObj "list" #[] 0)) }:=I3.kept (t':=s.toks) fun b u q=>Ae _ q;have rC:(((cJ.update D (Ax fun _=>(#[]:Array Value))).push (seqObj "tuple" vs.toArray 0)).push (seqObj "list" #[] 0)).get? ((cJ.update D (Ax fun _=>(#[]:Array Value))).push (seqObj "tuple" vs.toArray 0)).objs.size=some (seqObj "list" #[] 0):=Ak _ rfl;have cu:(((cJ.update D (Ax fun _=>(#[]:Array Value))).push (seqObj "tuple" vs.toArray 0)).push (seqObj "list" #[] 0)).get? D=some (seqObj "list" #[] e1):=Ae _ (Ae _ fe);show wpAny (model X.prog X.w) X.A.in1.in1 (ksk_rest D (.ref f) false vs.toArray e1 (.ref ((cJ.update D (Ax fun _=>(#[]:Array Value))).push (seqObj "tuple" vs.toArray 0)).objs.size)) _ _ { s with heap:=((cJ.update D (Ax fun _=>(#[]:Array Value))).push (seqObj "tuple" vs.toArray 0)).push (seqObj "list" #[] 0) };generalize ((cJ.update D (Ax fun _=>(#[]:Array Value))).push (seqObj "tuple" vs.toArray 0)).objs.size=kS at *;generalize ((cJ.update D (Ax fun _=>(#[]:Array Value))).push (seqObj "tuple" vs.toArray 0)).push (seqObj "list" #[] 0)=dN at *;unfold ksk_rest;refine Aa (wpAny_rule ?_)
  first
   | rw[List.forIn_toArray]
   | (rw[<- Array.forIn_toList]; simp only[List.toList_toArray])
  refine Aa (ksk_fold (fun i s'=>∃Hk kA e ks,Inv X aa σ Hk s'/\Same H Hk/\Hk D=none/\Hk kS=none/\s'.heap.get? kS=some (seqObj "list" kA e)/\s'.heap.get? D=some (seqObj "list" #[] e1)/\kA.toList=ks.map Value.ref/\ks.length=i/\
    ∀(j:Nat) p,ks[j]?=some p->∃a ps,as[j]?=some a/\ae[j]?=some ps/\Hk p=some (.tup [.int ps.length,.ref a])) vs 0 _
   ⟨H,#[],0,[],I4,Same.refl H,iO.1,kw.1,rC,cu,rfl,rfl,fun j p e=>by simp at e⟩ ?step ?done)
  case step=>
   rintro j v s' hv ⟨Hk,kA,e,ks,Ik,sk,iN,js,nk,na,kN,hj,bP⟩;simp only[Nat.zero_add] at hj ⊢;have xy:j<as.length:=by rw[<- oC]; exact (List.getElem?_eq_some_iff.mp hv).1
   have ea:as[j]?=some as[j]:=Ah xy;obtain⟨ps,cj,cF⟩:=ht.get ea;have ev:v=.ref as[j]:=by
    rw[<- hvs,Am,ea] at hv;exact (Al hv).symm
   subst ev;refine Aa (wpAny_attempt (wpAny_call (codeAny_mono (F.run X.A.in1.in1 X.stack s' Hk ⟨[.ref as[j]],[]⟩ [.ref as[j]] [.ref as[j]] (fun v H'=>∃p,v=.ref p/\Hk p=none/\H'=upd Hk p (.tup [.int ps.length,.ref as[j]])) E0
    (Room.in1 (Room.in1 hr)) Ik.env0.in1.in1 (hb s' [.ref as[j]] Ik.kIn rfl) (.cons rfl .nil) ⟨as[j],ps,rfl,sk.tp cF,fun p hp=>⟨p,rfl,hp,rfl⟩⟩) fun r dF hq=>?_)))
   cases r with
   | error e=>exact False.elim hq
   | ok fl=>
    cases fl with
    | next=>exact False.elim hq
    | brk=>exact False.elim hq
    | cont=>exact False.elim hq
    | ret u=>
     obtain⟨v,H',os,bare,un,hok,ru,p,rfl,hp,rfl⟩:=hq;cases ru;have I5:Inv X aa σ (upd Hk p (.tup [.int ps.length,.ref as[j]])) dF:=Ik.call' os un hok bare (fun b z=>nomatch z);have fD:=zb0 iO iN;have fK:=zb0 kw js;have sV:=un.keep D _ na iN (zkI Ik fD) (by simp);have pG:=un.keep kS _ nk js (zkI Ik fK) (by simp);have bj:=un.free D _ na iN (by simp);have qm:=un.free kS _ nk js (by simp)
     try dsimp only
     have hkz:kA.size=j:=by rw[<- AS,kN,Ab,hj]
     obtain⟨c2,cH⟩:∃c2,(dF.heap.update kS (Ax (·.push (.ref p)))).get? kS=some (seqObj "list" (kA.push (.ref p)) c2):=⟨_,get?_update_seq pG (·.push (.ref p))⟩;have s1:=AG dF.heap kS (Ax (·.push (.ref p)));have vz:=zb0 kw qm;have I6:Inv X aa σ (upd Hk p (.tup [.int ps.length,.ref as[j]])) { dF with heap:=dF.heap.update kS (Ax (·.push (.ref p))) }:=
      I5.turneds (t':=dF.toks) (ch:=[kS]) (zkz vz) fun b o hb q=>(s1.2 b (fun z=>hb (by simp[z]))).trans q
     refine Aa (listUpdate_at pG rfl ?_ (by omega) (AA (Nat.le_of_eq (Array.size_push ..)) (by omega)));refine Ac ⟨rfl,_,kA.push (.ref p),c2,ks++[p],I6,sk.then (by exact sk.free hp),bj,qm,cH,(s1.2 D ky.symm).trans sV,by rw[Array.toList_push,kN,Ar]; rfl,by rw[Aq,hj]; rfl,fun i p' e'=>?_⟩
     by_cases hi:i<ks.length
     ·rw[List.getElem?_append_left hi] at e'
      obtain⟨a,gC,x1,x2,x3⟩:=bP i p' e';exact⟨a,gC,x1,x2,by rw[zh (zg x3 hp)]; exact x3⟩
     ·rw[List.getElem?_append_right (by omega)] at e'
      have h0:i - ks.length=0:=by
       rcases Nat.eq_zero_or_pos (i - ks.length) with z | z
       ·exact z
       ·rw[List.getElem?_eq_none (by simp only[Ap,List.length_nil]; omega)] at e'; cases e'
      rw[h0] at e';obtain rfl:p=p':=by simpa using e'
      have hij:i=j:=by omega
      subst hij;exact⟨_,ps,ea,cj,upd_same⟩
  case done=>
   rintro s' ⟨Hk,kA,e,ks,Ik,sk,iN,js,nk,na,kN,hj,bP⟩;simp only[Nat.zero_add] at hj
   try dsimp only
   refine Aa (listItems_at nk rfl ?_);unfold ksk_end
   try dsimp only
   simp only[Ai,if_false];have vf:kA=(ks.map Value.ref).toArray:=by rw[<- kN,Array.toArray_toList]
   subst vf;have ld:∀(i:Nat) u l,(ks.map Value.ref)[i]?=some u->(ae.map fun ps=>(ps.length:Int)::ps)[i]?=some l->Srt.IsPr s'.heap u l:=fun i u l h1 h2=>by
    rw[Am] at h1 h2;cases ek:ks[i]? with
    | none=>rw[ek] at h1; simp at h1
    | some p=>
     obtain⟨a,ps,x1,x2,x3⟩:=bP i p ek;rw[ek] at h1;rw[x2] at h2;obtain rfl:=Al h1;obtain rfl:=Al h2;obtain⟨gC,y1,y2⟩:=ht.get x1;rw[x2] at y1;obtain rfl:=Al y1;exact zmL Ik ⟨_,a,ps,rfl,x3,sk.tp y2⟩
   refine Srt.zfs (us:=ks.map Value.ref) (vs:=vs) (ls:=ae.map fun ps=>(ps.length:Int)::ps) (good:=fun h=>h=s'.heap) (Srt.zkC (by rw[Ab,Ab,hj,oC]; exact aG) (zeb hu) ⟨_,rfl⟩ (by rintro h rfl; exact ld)) (by rw[Ab,hj]) (by omega) rfl fun ak ho hst hf=>?_;refine Srt.zlp (ls:=ae.map fun ps=>(ps.length:Int)::ps) (vs:=vs) nk na ky (by rw[Ag,Ab]; omega) ho hst iS hf fun h' a_ c kk vC yf lw vU=>⟨_,rfl,?_⟩;refine Ac ⟨_,rfl,?_⟩;obtain⟨ps,hZ,eK,hs⟩:=lw;subst hvs;have I7:Inv X aa σ Hk { s' with heap:=h' }:=Ik.turneds (t':=s'.toks) (ch:=[kS,D]) (fun b hb=>by
     simp only[List.mem_cons,List.not_mem_nil,or_false] at hb;rcases hb with rfl | rfl
     ·exact zb0 kw js
     ·exact zb0 iO iN) fun b o hb q=>kk b o (fun z=>hb (by simp[z])) (fun z=>hb (by simp[z])) q
   have all:∀p∈ps,∃a qs,p.2=Value.ref a/\p.1=((qs:List Int).length:Int)::qs:=fun p cz=>by
    obtain⟨h1,h2⟩:=List.of_mem_zip (hZ.mem_iff.mp cz:(p.1,p.2)∈_);obtain⟨a,_,ea⟩:=List.mem_map.mp h2;obtain⟨qs,_,eq⟩:=List.mem_map.mp h1;exact⟨a,qs,ea.symm,eq.symm⟩
   have pm:(ps.map fun p=>(p.1.tail,addrOf p.2)).Perm (ae.zip as):=by
    have h1:=hZ.map (fun p:List Int×Value=>(p.1.tail,addrOf p.2));have e:((ae.map fun ps=>(ps.length:Int)::ps).zip (as.map Value.ref)).map (fun p:List Int×Value=>(p.1.tail,addrOf p.2))=ae.zip as:=by
     rw[List.zip_map,Az];exact (List.map_congr_left fun p _=>rfl).trans (List.map_id' _)
    rw[e] at h1;exact h1
   have ex:a_.toList=((ps.map fun p=>(p.1.tail,addrOf p.2)).map fun q=>Value.ref q.2):=by
    rw[eK,Az];refine List.map_congr_left fun p cz=>?_;obtain⟨a,qs,e1,_⟩:=all p cz;show p.2=Value.ref (addrOf p.2);rw[e1]; rfl
   have vv:Vals ((ps.map fun p=>(p.1.tail,addrOf p.2)).map fun q=>V.ref q.2) a_.toList:=by
    rw[ex];exact zeC (fun q:List Int×Addr=>q.2) _
   obtain⟨f0,f1,f2,f3,f4,f5⟩:=iO;have tX:X.s₀.heap.objs.size<=D:=by rw[<- hD]; exact AA I.sz (Nat.le_succ _)
   have I8:Inv X aa σ (upd Hk D (.lst ((ps.map fun p=>(p.1.tail,addrOf p.2)).map fun q=>V.ref q.2))) { s' with heap:=h' }:=by
    refine I7.adopt iN tX f1 f4 f5 ⟨?_,a_.toList,c,vv,?_⟩
    ·rw[Ab,pm.length_eq,List.length_zip]; omega
    ·simpa using vC
   refine h D _ _ _ I8 (sk.then f0) f0 upd_same pm ?_;rw[List.pairwise_map];refine hs.imp_of_mem fun {p q} h1 h2 h3=>?_;obtain⟨_,qs,_,e1⟩:=all p h1;obtain⟨_,yQ,_,e2⟩:=all q h2;rw[e1,e2] at h3;rw[e1,e2];exact h3
end
section
variable {X:Cx}{a:Expr}{ta:TA}{p p2 pos jw:Pos}{k:Nat}{f:Addr}{fd:FuncData}{x y:Str}
def zmm (K:Ad) (ta:TA):TE:=fun σ H Q=>ta σ H fun vs H1=>∃(l:Addr) (as:List Addr) (ae:List (List Int)),vs=[.ref l]/\SqL K H1 l (as.map V.ref)/\Tps H1 as ae/\ae.length<64/\
 ∀D H2 (qs:List (List Int×Addr)),Same H1 H2->H1 D=none->H2 D=some (.lst (qs.map fun q=>V.ref q.2))->qs.Perm (ae.zip as)->qs.Pairwise (fun a b=>HT.lexLt ((b.1.length:Int)::b.1) ((a.1.length:Int)::a.1)=false)->Q (.ref D) H2
def zgj (F:FnOk X.prog X.w X.K X.mg X.base CX0 k f fd [x] zj2) (hr:Room (k+2) X.A) (hb:Binds X.K fd [x] []) (hg:Gl X "sorted") (hm:X.mg "sorted"=none) (hv:AW "sorted"=some (.builtin "sorted")) (s_:Gl X y) (xG:X.mg y=some (.ref f)) (ha:PA X [a] ta)
  (dy:(y == ("__debug__":Str))=false:=by decide) (he:starEach [a] X.env=[(false,eval a X.env)]:=by rfl) :
  PE X (.Call (.Name "sorted" p) [a] [⟨some "key",.Name y p2,jw⟩] pos) (zmm X.K ta):=by
 intro aa s σ H Q I h;refine wpAny_Call_Name_kw (zcb I hg hm hv ?_);refine callWith_kw ?_ (by rw[he]; rfl) (by rw[he]; rfl) rfl rfl;refine thn (ha pos aa s σ H _ I h) fun us s1 ⟨vs,H1,I1,r1,q1⟩=>?_;obtain⟨l,as,ae,rfl,hl,ht,h64,q⟩:=q1;obtain⟨u,rfl,ru⟩:=vals1 r1;cases ru;refine kws_cons (zbY I1 s_ xG (kws_nil ?_) dy);show wpAny (model X.prog X.w) X.A (call (.builtin "sorted") [.ref l] [(A3 "key",.ref f)]) _ _ s1;exact zgb F hr hb I1 hl ht h64 fun D H' qs s' I' sm hD bj hp hs=>⟨.ref D,H',I',rfl,q D H' qs sm hD bj hp hs⟩
end
end L2
end
section
namespace STb
open PySem PySem.SetTable
def Ris (xs:Array Nat):Prop:=∀(i j a b:Nat),xs[i]?=some a->xs[j]?=some b->i<j->a<b
def Ris.inj {xs:Array Nat} (h:Ris xs) {i j a:Nat} (h1:xs[i]?=some a) (h2:xs[j]?=some a):i=j:=by
 rcases Nat.lt_trichotomy i j with q | q | q
 ·exact absurd (h i j a a h1 h2 q) (Nat.lt_irrefl _)
 ·exact q
 ·exact absurd (h j i a a h2 h1 q) (Nat.lt_irrefl _)
def zez {xs:Array Nat}{j:Nat} (hr:Ris xs):∀(fuel lo hi:Nat),hi - lo<=fuel->lo<=hi->hi<=xs.size->(∀i a,xs[i]?=some a->i<lo->a<j)->(∀i a,xs[i]?=some a->hi<=i->j<=a)->
  below.go xs j fuel lo hi<=xs.size/\(∀i a,xs[i]?=some a->i<below.go xs j fuel lo hi->a<j)/\(∀i a,xs[i]?=some a->below.go xs j fuel lo hi<=i->j<=a)
 | 0,lo,hi,h0,h1,h2,h3,h4=>by
  have e:lo=hi:=by omega
  subst e;exact⟨h2,h3,h4⟩
 | fuel+1,lo,hi,h0,h1,h2,h3,h4=>by
  have eg0:below.go xs j (fuel+1) lo hi=if lo<hi then (if xs.getD ((lo+hi) / 2) j<j then below.go xs j fuel ((lo+hi) / 2+1) hi else below.go xs j fuel lo ((lo+hi) / 2)) else lo:=rfl;rw[eg0]
  by_cases hlt:lo<hi
  ·rw[if_pos hlt]
   have hm:(lo+hi) / 2<xs.size:=by omega
   have em:xs[(lo+hi) / 2]?=some xs[(lo+hi) / 2]:=getElem?_pos xs _ hm;have eg:xs.getD ((lo+hi) / 2) j=xs[(lo+hi) / 2]:=by simp[Array.getD,hm]
   rw[eg]
   by_cases hc:xs[(lo+hi) / 2]<j
   ·rw[if_pos hc]
    refine zez hr fuel _ _ (by omega) (by omega) h2 (fun i a e hi'=>?_) h4;rcases Nat.lt_or_eq_of_le (Nat.lt_succ_iff.mp hi') with q | q
    ·exact Nat.lt_trans (hr _ _ _ _ e em q) hc
    ·subst q; rw[em] at e; cases e; exact hc
   ·rw[if_neg hc]
    refine zez hr fuel _ _ (by omega) (by omega) (by omega) h3 (fun i a e hi'=>?_);rcases Nat.lt_or_eq_of_le hi' with q | q
    ·have:=hr _ _ _ _ em e q
     omega
    ·subst q; rw[em] at e; cases e; omega
  ·rw[if_neg hlt]
   have e:lo=hi:=by omega
   subst e;exact⟨h2,h3,h4⟩
def zbu {xs:Array Nat} (hr:Ris xs) (j:Nat):below xs j<=xs.size/\(∀i a,xs[i]?=some a->i<below xs j->a<j)/\(∀i a,xs[i]?=some a->below xs j<=i->j<=a):=
 zez hr xs.size 0 xs.size (by omega) (by omega) (Af _) (fun _ _ _ h=>absurd h (Nat.not_lt_zero _)) (fun i a e h=>by have:=(Array.getElem?_eq_some_iff.mp e).1; omega)
def below_at {xs:Array Nat} (hr:Ris xs) {i j:Nat} (e:xs[i]?=some j):below xs j=i:=by
 obtain⟨h1,h2,h3⟩:=zbu hr j;rcases Nat.lt_trichotomy (below xs j) i with q | q | q
 ·have hb:below xs j<xs.size:=Nat.lt_trans q (Array.getElem?_eq_some_iff.mp e).1
  have e2:=getElem?_pos xs (below xs j) hb;have a1:=h3 _ _ e2 (Af _);have a2:=hr _ _ _ _ e2 e q;omega
 ·exact q
 ·exact absurd (h2 i j e q) (Nat.lt_irrefl _)
def zY {α:Type} (xs:Array α) (p:Nat) (x:α) (hp:p<=xs.size) (i:Nat):(insertAt xs p x)[i]?=if i<p then xs[i]? else if i=p then some x else xs[i - 1]?:=by
 unfold insertAt;have hs:((xs.extract 0 p).push x).size=p+1:=by rw[Array.size_push,Array.size_extract]; omega
 by_cases h1:i<p
 ·rw[if_pos h1,Array.getElem?_append_left (by omega),Array.getElem?_push_lt (by rw[Array.size_extract]; omega)]
  simp[Array.getElem_extract,h1]
 ·rw[if_neg h1]
  by_cases h2:i=p
  ·subst h2
   rw[if_pos rfl,Array.getElem?_append_left (by omega)];have e:(xs.extract 0 i).size=i:=by rw[Array.size_extract]; omega
   have:=Array.getElem?_push_size (xs:=xs.extract 0 i) (x:=x);rw[e] at this;exact this
  ·rw[if_neg h2,Array.getElem?_append_right (by omega),hs,Array.getElem?_extract]
   by_cases h3:i - (p+1)<xs.size - p
   ·rw[if_pos (by omega)]
    congr 1
    omega
   ·rw[if_neg (by omega)]
    exact (Array.getElem?_eq_none (by omega)).symm
def zbJ {α:Type} (xs:Array α) (p:Nat) (x:α) (hp:p<=xs.size):(insertAt xs p x).size=xs.size+1:=by
 unfold insertAt;rw[Array.size_append,Array.size_push,Array.size_extract,Array.size_extract];omega
def zlI {xs:Array Nat} (hr:Ris xs) {j:Nat} (hn:∀i:Nat,xs[i]?≠some j):Ris (insertAt xs (below xs j) j):=by
 obtain⟨h1,h2,h3⟩:=zbu hr j;intro a b x y ea eb eM;rw[zY _ _ _ h1] at ea eb
 by_cases a1:a<below xs j
 ·rw[if_pos a1] at ea
  by_cases b1:b<below xs j
  ·rw[if_pos b1] at eb; exact hr _ _ _ _ ea eb eM
  ·rw[if_neg b1] at eb
   by_cases b2:b=below xs j
   ·rw[if_pos b2] at eb; cases eb; exact h2 _ _ ea a1
   ·rw[if_neg b2] at eb; exact hr _ _ _ _ ea eb (by omega)
 ·rw[if_neg a1] at ea
  rw[if_neg (by omega)] at eb
  by_cases a2:a=below xs j
  ·rw[if_pos a2] at ea; cases ea
   rw[if_neg (by omega)] at eb;have:=h3 _ _ eb (by omega);rcases Nat.lt_or_eq_of_le this with q | q
   ·exact q
   ·subst q; exact absurd eb (hn _)
  ·rw[if_neg a2] at ea
   rw[if_neg (by omega)] at eb;exact hr _ _ _ _ ea eb (by omega)
def nxt (mask:Nat) (p:Probe):Probe:=
 if p.more > 0 then { p with j:=p.j+1,more:=p.more - 1 } else
 { p with j:=(leap mask p.i p.perturb).1,more:=runEnd mask (leap mask p.i p.perturb).1 - (leap mask p.i p.perturb).1,i:=(leap mask p.i p.perturb).1,perturb:=(leap mask p.i p.perturb).2 }
def first (mask:Nat) (h:Int):Probe:={ j:=bits h % (mask+1),more:=runEnd mask (bits h % (mask+1)) - bits h % (mask+1),i:=bits h % (mask+1),perturb:=bits h,dummy:=none }
def pr (mask:Nat) (h:Int):Nat->Probe
 | 0=>first mask h
 | n+1=>nxt mask (pr mask h n)
def pos (mask:Nat) (h:Int) (n:Nat):Nat:=(pr mask h n).j
def zfo (mask:Nat) (h:Int):∀n,(pr mask h n).dummy=none
 | 0=>rfl
 | n+1=>by
  show (nxt mask (pr mask h n)).dummy=none;unfold nxt;split <;> exact zfo mask h n
def lp (mask:Nat) (h:Int):Nat->Nat×Nat
 | 0=>(bits h % (mask+1),bits h)
 | r+1=>leap mask (lp mask h r).1 (lp mask h r).2
def zno (mask i:Nat):runEnd mask i - i<=9:=by unfold runEnd; split <;> omega
def zbV (mask:Nat) (h:Int) {n r:Nat} (e:pr mask h n={ j:=(lp mask h r).1,more:=runEnd mask (lp mask h r).1 - (lp mask h r).1,i:=(lp mask h r).1,perturb:=(lp mask h r).2,dummy:=none }) :
  ∀k,k<=runEnd mask (lp mask h r).1 - (lp mask h r).1->pr mask h (n+k)={ j:=(lp mask h r).1+k,more:=runEnd mask (lp mask h r).1 - (lp mask h r).1 - k,i:=(lp mask h r).1,perturb:=(lp mask h r).2,dummy:=none }
 | 0,_=>e
 | k+1,hk=>by
  have ih:=zbV mask h e k (by omega);show nxt mask (pr mask h (n+k))=_;rw[ih];unfold nxt;rw[if_pos (by show runEnd mask (lp mask h r).1 - (lp mask h r).1 - k > 0; omega)]
  congr 1
def zkv (mask:Nat) (h:Int):∀r,∃n,n<=10*r/\pr mask h n={ j:=(lp mask h r).1,more:=runEnd mask (lp mask h r).1 - (lp mask h r).1,i:=(lp mask h r).1,perturb:=(lp mask h r).2,dummy:=none }
 | 0=>⟨0,Af _,rfl⟩
 | r+1=>by
  obtain⟨n,hn,e⟩:=zkv mask h r;have hl:=zno mask (lp mask h r).1;refine⟨n+(runEnd mask (lp mask h r).1 - (lp mask h r).1)+1,by omega,?_⟩;show nxt mask (pr mask h (n+(runEnd mask (lp mask h r).1 - (lp mask h r).1)))=_;rw[zbV mask h e _ (Af _)];unfold nxt;rw[if_neg (by show ¬ (runEnd mask (lp mask h r).1 - (lp mask h r).1 - (runEnd mask (lp mask h r).1 - (lp mask h r).1) > 0); omega)]
  rfl
def zli (h:Int):bits h<2 ^ 64:=by
 unfold bits;have h1:(0:Int)<=h % (2 ^ 64:Int):=Int.emod_nonneg _ (by decide);have h2:h % (2 ^ 64:Int)<2 ^ 64:=Int.emod_lt_of_pos _ (by decide);omega
def zky (mask:Nat) (h:Int):∀r,(lp mask h r).2=bits h / 32 ^ r
 | 0=>by simp[lp]
 | r+1=>by
  show (lp mask h r).2 / 32=_;rw[zky mask h r,Nat.div_div_eq_div_mul,Nat.pow_succ]
def zmN (mask:Nat) (h:Int) {r:Nat} (hr:13<=r):(lp mask h r).2=0:=by
 rw[zky];have h1:=zli h;have h2:32 ^ 13<=32 ^ r:=Nat.pow_le_pow_right (by decide) hr;exact Nat.div_eq_of_lt (Ay h1 (AA (by decide) h2))
def zmf (mask:Nat) (h:Int):∀r,(lp mask h r).1<=mask
 | 0=>Nat.lt_succ_iff.mp (Nat.mod_lt _ (Nat.succ_pos _))
 | r+1=>Nat.lt_succ_iff.mp (Nat.mod_lt _ (Nat.succ_pos _))
def f5 (mask x:Nat):Nat:=(x*5+1) % (mask+1)
def it5 (mask:Nat):Nat->Nat->Nat
 | 0,x=>x
 | k+1,x=>f5 mask (it5 mask k x)
def zl7 (mask:Nat) (h:Int):∀k,(lp mask h (13+k)).1=it5 mask k (lp mask h 13).1
 | 0=>rfl
 | k+1=>by
  show ((lp mask h (13+k)).1*5+1+(lp mask h (13+k)).2 / 32) % (mask+1)=f5 mask (it5 mask k (lp mask h 13).1);rw[zmN mask h (by omega),zl7 mask h k]
  rfl
def Cov (mask:Nat):Prop:=∀i s,i<=mask->s<=mask->∃k,k<=mask/\it5 mask k i=s
def orb (mask:Nat):Nat->Nat->List Nat
 | 0,_=>[]
 | n+1,x=>x::orb mask n (f5 mask x)
def zim (mask:Nat):∀(n x k:Nat),k<n->(orb mask n x)[k]?=some (it5 mask k x)
 | 0,_,_,h=>absurd h (Nat.not_lt_zero _)
 | n+1,x,0,_=>rfl
 | n+1,x,k+1,h=>by
  have ih:=zim mask n (f5 mask x) k (by omega);show (orb mask n (f5 mask x))[k]?=_;rw[ih]
  congr 1
  have sh:∀k x,it5 mask k (f5 mask x)=f5 mask (it5 mask k x):=by
   intro k
   induction k with
   | zero=>intro x; rfl
   | succ k ih=>intro x; show f5 mask (it5 mask k (f5 mask x))=_; rw[ih]; rfl
  exact sh k x
def zeD (mask:Nat):∀n x,(orb mask n x).length=n
 | 0,_=>rfl
 | n+1,x=>by show (orb mask n (f5 mask x)).length+1=_; rw[zeD mask n]
def zcT (mask:Nat):∀(a b x:Nat),it5 mask (a+b) x=it5 mask a (it5 mask b x)
 | 0,b,x=>by rw[Nat.zero_add]; rfl
 | a+1,b,x=>by
  rw[Nat.add_right_comm];show f5 mask (it5 mask (a+b) x)=_;rw[zcT mask a b x]
  rfl
def zcs {mask:Nat} (h:((A6 (mask+1)).all fun s=>(orb mask (mask+1) 0).contains s)=true) (hp:it5 mask (mask+1) 0=0):Cov mask:=by
 have all:∀s,s<=mask->∃k,k<=mask/\it5 mask k 0=s:=fun s hs=>by
  have h2:=List.all_eq_true.mp h s (List.mem_range.mpr (by omega));obtain⟨k,hk,e⟩:=List.mem_iff_getElem.mp (List.contains_iff_mem.mp h2);rw[zeD] at hk;refine⟨k,by omega,?_⟩;have e2:=zim mask (mask+1) 0 k hk;rw[Ah (by rw[zeD]; exact hk),e] at e2;exact (Al e2).symm
 intro i s hi hs;obtain⟨a,ha,ea⟩:=all i hi;obtain⟨b,hb,eb⟩:=all s hs;rcases Nat.lt_or_ge b a with q | q
 ·refine⟨mask+1 - a+b,by omega,?_⟩
  rw[<- ea,<- zcT,show mask+1 - a+b+a=b+(mask+1) by omega,zcT,hp,eb]
 ·refine⟨b - a,by omega,?_⟩
  rw[<- ea,<- zcT,show b - a+a=b by omega,eb]
def cov7:Cov 7:=zcs (by decide +kernel) (by decide +kernel)
def cov31:Cov 31:=zcs (by decide +kernel) (by decide +kernel)
def cov15:Cov 15:=zcs (by decide +kernel) (by decide +kernel)
def cov63:Cov 63:=zcs (by decide +kernel) (by decide +kernel)
def cov255:Cov 255:=zcs (by decide +kernel) (by decide +kernel)
def cov127:Cov 127:=zcs (by decide +kernel) (by decide +kernel)
def reach {mask:Nat} (hc:Cov mask) (h:Int) {x:Nat} (hx:x<=mask):∃n,n<10*turns mask/\pos mask h n=x:=by
 obtain⟨k,hk,e⟩:=hc (lp mask h 13).1 x (zmf mask h 13) hx;obtain⟨n,hn,e2⟩:=zkv mask h (13+k);refine⟨n,by unfold turns; omega,?_⟩;show (pr mask h n).j=x;rw[e2];show (lp mask h (13+k)).1=x;rw[zl7,e]
def pos_le (mask:Nat) (h:Int) (n:Nat):pos mask h n<=mask:=by
 have key:∀n,(pr mask h n).i<=mask/\(pr mask h n).j+(pr mask h n).more<=mask:=by
  intro n;have er:∀i,i<=mask->i+(runEnd mask i - i)<=mask:=fun i hi=>by unfold runEnd; split <;> omega
  induction n with
  | zero=>
   have q:bits h % (mask+1)<=mask:=Nat.lt_succ_iff.mp (Nat.mod_lt _ (Nat.succ_pos _));exact⟨q,er _ q⟩
  | succ n ih=>
   show (nxt mask (pr mask h n)).i<=mask/\(nxt mask (pr mask h n)).j+(nxt mask (pr mask h n)).more<=mask;unfold nxt;split
   ·exact⟨ih.1,by show (pr mask h n).j+1+((pr mask h n).more - 1)<=mask; omega⟩
   ·have q:(leap mask (pr mask h n).i (pr mask h n).perturb).1<=mask:=Nat.lt_succ_iff.mp (Nat.mod_lt _ (Nat.succ_pos _))
    exact⟨q,er _ q⟩
 have:=(key n).2;unfold pos;omega
end STb
end
section
namespace STb
open PySem PySem.SetTable
structure Tb (t:SetTable) (hs:Array Int):Prop where
 ris:Ris t.place
 dum:t.dummies=#[]
 size:t.place.size=hs.size
 le:∀(i j:Nat),t.place[i]?=some j->j<=t.mask
 cov:Cov t.mask
 odd:t.mask % 2=1
 room:hs.size<=t.mask
 path:∀(k j:Nat) (h:Int),hs[k]?=some h->t.place[k]?=some j->∃n,pos t.mask h n=j/\∀m,m<n->∃k':Nat,t.place[k']?=some (pos t.mask h m)
def Occ (t:SetTable) (j:Nat):Prop:=∃i:Nat,t.place[i]?=some j
section
variable {t:SetTable}{hs:Array Int}
def zam (T:Tb t hs) {i j:Nat} (e:t.place[i]?=some j):t.slot j=.live i:=by
 show (if (t.place[below t.place j]? == some j)=true then Slot.live (below t.place j) else _)=_;rw[below_at T.ris e,e,if_pos (by simp)]
def zgv (T:Tb t hs) {j:Nat} (e:¬ Occ t j):t.slot j=.empty:=by
 show (if (t.place[below t.place j]? == some j)=true then Slot.live (below t.place j) else if has t.dummies j=true then Slot.dummy else Slot.empty)=_;have h1:¬ (t.place[below t.place j]? == some j)=true:=by
  intro q;exact e ⟨_,eq_of_beq q⟩
 have h2:has t.dummies j=false:=by
  unfold has;rw[T.dum]
  rfl
 rw[if_neg h1,h2]
 rfl
def zgJ (T:Tb t hs):∃x,x<=t.mask/\¬ Occ t x:=by
 apply Classical.byContradiction;intro hn;have all:∀x,x<=t.mask->Occ t x:=fun x hx=>Classical.byContradiction fun q=>hn ⟨x,hx,q⟩;have sub:A6 (t.mask+1) ⊆ t.place.toList:=fun x hx=>by
  obtain⟨i,e⟩:=all x (Nat.lt_succ_iff.mp (List.mem_range.mp hx));rw[<- AK] at e;exact At e
 have:=(List.nodup_range (n:=t.mask+1)).length_le_of_subset sub;rw[List.length_range,AS,T.size] at this;have:=T.room;omega
def least {P:Nat->Prop} (n:Nat) (h:P n):∃m,m<=n/\P m/\∀k,k<m->¬ P k:=by
 induction n using Nat.strongRecOn with
 | ind n ih=>
  by_cases q:∃k,k<n/\P k
  ·obtain⟨k,hk,pk⟩:=q
   obtain⟨m,h1,h2,h3⟩:=ih k hk pk;exact⟨m,by omega,h2,h3⟩
  ·exact⟨n,Af _,h,fun k hk pk=>q ⟨k,hk,pk⟩⟩
def zcA (T:Tb t hs) (h:Int):∃ne,ne<10*turns t.mask/\¬ Occ t (pos t.mask h ne)/\∀m,m<ne->Occ t (pos t.mask h m):=by
 obtain⟨x,hx,fx⟩:=zgJ T;obtain⟨n,hn,e⟩:=reach T.cov h hx;obtain⟨m,h1,h2,h3⟩:=least (P:=fun m=>¬ Occ t (pos t.mask h m)) n (by rw[e]; exact fx);exact⟨m,by omega,h2,fun k hk=>Classical.byContradiction fun q=>h3 k hk q⟩
def zew (T:Tb t hs) {hashAt:Nat->Int}{h:Int}:∀(d fuel n:Nat),(∀m,n<=m->m<n+d->∃i:Nat,t.place[i]?=some (pos t.mask h m)/\hashAt i≠h)->probe.go t hashAt h (fuel+d) (pr t.mask h n)=probe.go t hashAt h fuel (pr t.mask h (n+d))
 | 0,fuel,n,_=>rfl
 | d+1,fuel,n,hm=>by
  obtain⟨i,e1,e2⟩:=hm n (Af _) (by omega);have es:t.slot (pr t.mask h n).j=.live i:=zam T e1;have ih:=zew T d fuel (n+1) (fun m h1 h2=>hm m (by omega) (by omega));rw[show fuel+(d+1)=(fuel+d)+1 by omega,show n+(d+1)=n+1+d by omega,<- ih];show (match t.slot (pr t.mask h n).j with
   | .empty=>some (Met.empty (pr t.mask h n).j (pr t.mask h n).dummy)
   | .dummy=>probe.go t hashAt h (fuel+d) (t.advance { (pr t.mask h n) with dummy:=some (pr t.mask h n).j })
   | .live i=>if hashAt i == h then some (Met.candidate (pr t.mask h n).j i (t.advance (pr t.mask h n))) else probe.go t hashAt h (fuel+d) (t.advance (pr t.mask h n)))=_
  rw[es];dsimp only;rw[if_neg (by simpa using e2)]
  rfl
def probe_spec (T:Tb t hs) {hashAt:Nat->Int}{h:Int}{ne n:Nat} (hne:ne<10*turns t.mask) (he:¬ Occ t (pos t.mask h ne)) (hm:∀m,m<ne->Occ t (pos t.mask h m)) (hn:n<=ne) :
  (t.probe hashAt h (pr t.mask h n)=some (.empty (pos t.mask h ne) none)/\∀m i,n<=m->m<ne->t.place[i]?=some (pos t.mask h m)->hashAt i≠h) \/
  ∃(N i:Nat),n<=N/\N<ne/\t.place[i]?=some (pos t.mask h N)/\hashAt i=h/\t.probe hashAt h (pr t.mask h n)=some (.candidate (pos t.mask h N) i (pr t.mask h (N+1)))/\∀m i',n<=m->m<N->t.place[i']?=some (pos t.mask h m)->hashAt i'≠h:=by
 by_cases q:∃N,n<=N/\N<ne/\∃i:Nat,t.place[i]?=some (pos t.mask h N)/\hashAt i=h
 ·right
  obtain⟨mI,ja⟩:=q;obtain⟨N,h1,⟨h2,h3,i,h4,h5⟩,h6⟩:=least (P:=fun N=>n<=N/\N<ne/\∃i:Nat,t.place[i]?=some (pos t.mask h N)/\hashAt i=h) mI ja;have bef:∀m i',n<=m->m<N->t.place[i']?=some (pos t.mask h m)->hashAt i'≠h:=fun m i' a b c d=>h6 m b ⟨a,by omega,i',c,d⟩;refine⟨N,i,h2,h3,h4,h5,?_,bef⟩;obtain⟨fuel,hf⟩:∃fuel,10*turns t.mask=(fuel+1)+(N - n):=⟨10*turns t.mask - (N - n) - 1,by omega⟩;unfold SetTable.probe;rw[hf,zew T (N - n) (fuel+1) n (fun m a b=>?_),show n+(N - n)=N by omega]
  ·show (match t.slot (pr t.mask h N).j with
    | .empty=>some (Met.empty (pr t.mask h N).j (pr t.mask h N).dummy)
    | .dummy=>probe.go t hashAt h fuel (t.advance { (pr t.mask h N) with dummy:=some (pr t.mask h N).j })
    | .live i=>if hashAt i == h then some (Met.candidate (pr t.mask h N).j i (t.advance (pr t.mask h N))) else probe.go t hashAt h fuel (t.advance (pr t.mask h N)))=_
   rw[show t.slot (pr t.mask h N).j=.live i from zam T h4];dsimp only;rw[if_pos (by simpa using h5)]
   rfl
  ·obtain⟨i',e⟩:=hm m (by omega)
   exact⟨i',e,bef m i' a (by omega) e⟩
 ·left
  have bef:∀m i,n<=m->m<ne->t.place[i]?=some (pos t.mask h m)->hashAt i≠h:=fun m i a b c d=>q ⟨m,a,b,i,c,d⟩;refine⟨?_,bef⟩;obtain⟨fuel,hf⟩:∃fuel,10*turns t.mask=(fuel+1)+(ne - n):=⟨10*turns t.mask - (ne - n) - 1,by omega⟩;unfold SetTable.probe;rw[hf,zew T (ne - n) (fuel+1) n (fun m a b=>?_),show n+(ne - n)=ne by omega]
  ·show (match t.slot (pr t.mask h ne).j with
    | .empty=>some (Met.empty (pr t.mask h ne).j (pr t.mask h ne).dummy)
    | .dummy=>probe.go t hashAt h fuel (t.advance { (pr t.mask h ne) with dummy:=some (pr t.mask h ne).j })
    | .live i=>if hashAt i == h then some (Met.candidate (pr t.mask h ne).j i (t.advance (pr t.mask h ne))) else probe.go t hashAt h fuel (t.advance (pr t.mask h ne)))=_
   rw[show t.slot (pr t.mask h ne).j=.empty from zgv T he];dsimp only;rw[zfo]
   rfl
  ·obtain⟨i',e⟩:=hm m (by omega)
   exact⟨i',e,bef m i' a (by omega) e⟩
def zmi (T:Tb t hs) {h:Int}{ne k j:Nat} (he:¬ Occ t (pos t.mask h ne)) (hk:hs[k]?=some h) (hj:t.place[k]?=some j):∃N,N<ne/\pos t.mask h N=j:=by
 obtain⟨n,e,hm⟩:=T.path k j h hk hj;refine⟨n,?_,e⟩;rcases Nat.lt_trichotomy n ne with q | q | q
 ·exact q
 ·subst q; exact absurd ⟨k,by rw[e]; exact hj⟩ he
 ·exact absurd (hm ne q) he
def znr (T:Tb t hs) {h:Int}{ne:Nat} (he:¬ Occ t (pos t.mask h ne)) (hm:∀m,m<ne->Occ t (pos t.mask h m)) (hr:hs.size+1<=t.mask) :
  (t.put (pos t.mask h ne)).2<=hs.size/\(t.put (pos t.mask h ne)).1.mask=t.mask/\Tb (t.put (pos t.mask h ne)).1 (insertAt hs (t.put (pos t.mask h ne)).2 h):=by
 have hj:∀i:Nat,t.place[i]?≠some (pos t.mask h ne):=fun i e=>he ⟨i,e⟩;obtain⟨b1,b2,b3⟩:=zbu T.ris (pos t.mask h ne);have hb:below t.place (pos t.mask h ne)<=hs.size:=by rw[<- T.size]; exact b1
 have pl:(t.put (pos t.mask h ne)).1.place=insertAt t.place (below t.place (pos t.mask h ne)) (pos t.mask h ne):=rfl;have mk:(t.put (pos t.mask h ne)).1.mask=t.mask:=rfl;have occ:∀j,Occ t j->∃k':Nat,(t.put (pos t.mask h ne)).1.place[k']?=some j:=fun j ⟨i,e⟩=>by
  by_cases q:i<below t.place (pos t.mask h ne)
  ·exact⟨i,by rw[pl,zY _ _ _ b1,if_pos q]; exact e⟩
  ·exact⟨i+1,by rw[pl,zY _ _ _ b1,if_neg (by omega),if_neg (by omega),Nat.add_sub_cancel]; exact e⟩
 refine⟨hb,mk,⟨?_,?_,?_,fun i j e=>?_,T.cov,T.odd,?_,fun k j h' e1 e2=>?_⟩⟩
 ·rw[pl]; exact zlI T.ris hj
 ·show (if has t.dummies (pos t.mask h ne)=true then _ else t.dummies)=#[]
  rw[T.dum]
  rfl
 ·rw[pl,zbJ _ _ _ b1]
  show _=(insertAt hs (below t.place (pos t.mask h ne)) h).size;rw[zbJ _ _ _ hb,T.size]
 ·rw[pl,zY _ _ _ b1] at e
  rw[mk]
  by_cases q1:i<below t.place (pos t.mask h ne)
  ·rw[if_pos q1] at e; exact T.le _ _ e
  ·rw[if_neg q1] at e
   by_cases q2:i=below t.place (pos t.mask h ne)
   ·rw[if_pos q2] at e; cases e; exact pos_le _ _ _
   ·rw[if_neg q2] at e; exact T.le _ _ e
 ·show (insertAt hs (below t.place (pos t.mask h ne)) h).size<=t.mask
  rw[zbJ _ _ _ hb];exact hr
 ·have cw:(insertAt hs (below t.place (pos t.mask h ne)) h)[k]?=some h':=e1
  rw[zY _ _ _ hb] at cw;rw[pl,zY _ _ _ b1] at e2;rw[mk]
  by_cases q1:k<below t.place (pos t.mask h ne)
  ·rw[if_pos q1] at cw e2
   obtain⟨n,a,b⟩:=T.path k j h' cw e2;exact⟨n,a,fun m eJ=>occ _ (b m eJ)⟩
  ·rw[if_neg q1] at cw e2
   by_cases q2:k=below t.place (pos t.mask h ne)
   ·rw[if_pos q2] at cw e2
    cases cw; cases e2;exact⟨ne,rfl,fun m eJ=>occ _ (hm m eJ)⟩
   ·rw[if_neg q2] at cw e2
    obtain⟨n,a,b⟩:=T.path (k - 1) j h' cw e2;exact⟨n,a,fun m eJ=>occ _ (b m eJ)⟩
end
def zcX (finger moves:Nat) (led:Bool):Tb (SetTable.fresh finger moves led) #[]:=
 ⟨fun i j a b h=>by simp[SetTable.fresh] at h,rfl,rfl,fun i j h=>by simp[SetTable.fresh] at h,cov7,show 7 % 2=1 from rfl,show 0<=7 from AQ _,fun k j h e=>by simp at e⟩
end STb
end
section
namespace STb
open PySem PySem.SetTable
def Own (ag:Array (Option Nat)) (j:Nat):Prop:=∃q,ag[j]?=some (some q)
def stt (mask:Nat) (h:Int):Nat->Nat
 | 0=>0
 | r+1=>stt mask h r+(runEnd mask (lp mask h r).1 - (lp mask h r).1)+1
def zi0 (mask:Nat) (h:Int) {r R:Nat} (hr:r<=R):stt mask h r<=stt mask h R:=by
 induction hr with
 | refl=>exact Af _
 | step _ ih=>exact AA ih (by show _<=stt mask h _+_+1; omega)
def zgS (mask:Nat) (h:Int):∀r,pr mask h (stt mask h r)={ j:=(lp mask h r).1,more:=runEnd mask (lp mask h r).1 - (lp mask h r).1,i:=(lp mask h r).1,perturb:=(lp mask h r).2,dummy:=none }
 | 0=>rfl
 | r+1=>by
  show nxt mask (pr mask h (stt mask h r+(runEnd mask (lp mask h r).1 - (lp mask h r).1)))=_;rw[zbV mask h (zgS mask h r) _ (Af _)];unfold nxt;rw[if_neg (by show ¬ (runEnd mask (lp mask h r).1 - (lp mask h r).1 - (runEnd mask (lp mask h r).1 - (lp mask h r).1) > 0); omega)]
  rfl
def zcY {ag:Array (Option Nat)}{mask j:Nat} (hz:ag.size=mask+1) (hj:j<=mask):(ag.getD j (some 0)).isNone=true ↔ ¬ Own ag j:=by
 have hlt:j<ag.size:=by omega
 have e:ag.getD j (some 0)=ag[j]:=by simp[Array.getD,hlt]
 have e2:ag[j]?=some ag[j]:=getElem?_pos ag j hlt;rw[e];constructor
 ·intro h ⟨q,hq⟩
  rw[e2] at hq;rw[Al hq] at h;cases h
 ·intro h
  cases c:ag[j] with
  | none=>rfl
  | some q=>exact absurd ⟨q,by rw[e2,c]⟩ h
def zic {mask:Nat}{ag:Array (Option Nat)} (hz:ag.size=mask+1) (h:Int) {ne R:Nat} (he:¬ Own ag (pos mask h ne)) (hm:∀m,m<ne->Own ag (pos mask h m)) (hR:ne<=stt mask h R) :
  ∀(fuel r:Nat),stt mask h r<=ne->R<r+fuel->layClean.free mask ag fuel (lp mask h r).1 (lp mask h r).2=some (pos mask h ne):=by
 intro fuel
 induction fuel with
 | zero=>
  intro r h1 h2;have q:=zi0 mask h (r:=R+1) (R:=r) (by omega);have:stt mask h (R+1)=stt mask h R+(runEnd mask (lp mask h R).1 - (lp mask h R).1)+1:=rfl;omega
 | succ fuel ih=>
  intro r hn hr;have walk:=zbV mask h (zgS mask h r);have eE:∀k,k<=runEnd mask (lp mask h r).1 - (lp mask h r).1->pos mask h (stt mask h r+k)=(lp mask h r).1+k:=fun k hk=>by
   unfold pos;rw[walk k hk]
  have hge:(lp mask h r).1<=runEnd mask (lp mask h r).1:=by unfold runEnd; split <;> omega
  have ple:∀k,k<=runEnd mask (lp mask h r).1 - (lp mask h r).1->(lp mask h r).1+k<=mask:=fun k hk=>by rw[<- eE k hk]; exact pos_le _ _ _
  show (match (A6 (runEnd mask (lp mask h r).1+1 - (lp mask h r).1)).find? (fun k=>(ag.getD ((lp mask h r).1+k) (some 0)).isNone) with
   | some k=>some ((lp mask h r).1+k)
   | none=>layClean.free mask ag fuel (leap mask (lp mask h r).1 (lp mask h r).2).1 (leap mask (lp mask h r).1 (lp mask h r).2).2)=_
  by_cases hin:ne<=stt mask h r+(runEnd mask (lp mask h r).1 - (lp mask h r).1)
  ·have ef:(A6 (runEnd mask (lp mask h r).1+1 - (lp mask h r).1)).find? (fun k=>(ag.getD ((lp mask h r).1+k) (some 0)).isNone)=some (ne - stt mask h r):=by
    rw[List.find?_range_eq_some];refine⟨?_,List.mem_range.mpr (by omega),fun k hk=>?_⟩
    ·show (ag.getD ((lp mask h r).1+(ne - stt mask h r)) (some 0)).isNone=true
     rw[zcY hz (ple _ (by omega)),<- eE _ (by omega),show stt mask h r+(ne - stt mask h r)=ne by omega];exact he
    ·have q:¬ (ag.getD ((lp mask h r).1+k) (some 0)).isNone=true:=by
      rw[zcY hz (ple _ (by omega)),<- eE k (by omega)];exact fun z=>z (hm _ (by omega))
     rw[Bool.not_eq_true] at q;rw[q]
     rfl
   rw[ef];dsimp only;rw[<- eE _ (by omega),show stt mask h r+(ne - stt mask h r)=ne by omega]
  ·have ef:(A6 (runEnd mask (lp mask h r).1+1 - (lp mask h r).1)).find? (fun k=>(ag.getD ((lp mask h r).1+k) (some 0)).isNone)=none:=by
    rw[List.find?_eq_none];intro k hk;have hk':=List.mem_range.mp hk;rw[zcY hz (ple _ (by omega)),<- eE k (by omega)];exact fun z=>z (hm _ (by omega))
   rw[ef];dsimp only;refine ih (r+1) ?_ (by omega);show stt mask h r+(runEnd mask (lp mask h r).1 - (lp mask h r).1)+1<=ne;omega
structure Lay (mask:Nat) (ai:List Int) (ag:Array (Option Nat)) (k:Nat):Prop where
 size:ag.size=mask+1
 all:∀q:Nat,q<k->∃j:Nat,ag[j]?=some (some q)
 back:∀j q:Nat,ag[j]?=some (some q)->q<k
 one:∀(i j q:Nat),ag[i]?=some (some q)->ag[j]?=some (some q)->i=j
 path:∀(j q:Nat) (h:Int),ag[j]?=some (some q)->ai[q]?=some h->∃n,pos mask h n=j/\∀m,m<n->Own ag (pos mask h m)
def Lay.room {mask:Nat}{ai:List Int}{ag:Array (Option Nat)}{k:Nat} (L:Lay mask ai ag k) (hk:k<=mask):∃x,x<=mask/\¬ Own ag x:=by
 apply Classical.byContradiction;intro hn;have all:∀x,x<=mask->∃q,q<k/\ag[x]?=some (some q):=fun x hx=>by
  have:Own ag x:=Classical.byContradiction fun q=>hn ⟨x,hx,q⟩;obtain⟨q,e⟩:=this;exact⟨q,L.back x q e,e⟩
 have sub:((A6 (mask+1)).map fun x=>(ag.getD x none).getD 0) ⊆ A6 k:=fun y hy=>by
  obtain⟨x,hx,e⟩:=List.mem_map.mp hy;obtain⟨q,hq,e2⟩:=all x (Nat.lt_succ_iff.mp (List.mem_range.mp hx));rw[Array.getD_eq_getD_getElem?,e2] at e;subst e;exact List.mem_range.mpr hq
 have nd:((A6 (mask+1)).map fun x=>(ag.getD x none).getD 0).Nodup:=by
  refine List.nodup_iff_pairwise_ne.mpr (List.pairwise_map.mpr ?_);refine List.Pairwise.imp_of_mem ?_ (List.nodup_iff_pairwise_ne.mp (List.nodup_range (n:=mask+1)));intro a b ha hb hne e;obtain⟨q,_,e1⟩:=all a (Nat.lt_succ_iff.mp (List.mem_range.mp ha));obtain⟨p,_,e2⟩:=all b (Nat.lt_succ_iff.mp (List.mem_range.mp hb));simp only[Array.getD_eq_getD_getElem?,e1,e2,Option.getD_some] at e;subst e;exact hne (L.one a b q e1 e2)
 have:=nd.length_le_of_subset sub;rw[Ab,List.length_range,List.length_range] at this;omega
def zkQ {ag:Array (Option Nat)}{mask j k:Nat} (hz:ag.size=mask+1) (hj:j<=mask) (i:Nat):(ag.setIfInBounds j (some k))[i]?=if i=j then some (some k) else ag[i]?:=by
 by_cases q:i=j
 ·subst q
  rw[if_pos rfl,Array.getElem?_setIfInBounds_self_of_lt (by omega)]
 ·rw[if_neg q,Array.getElem?_setIfInBounds_ne (Ne.symm q)]
def Lay.step {mask:Nat}{ai:List Int}{ag:Array (Option Nat)}{k:Nat}{h:Int} (hc:Cov mask) (L:Lay mask ai ag k) (hk:k<=mask) (hh:ai[k]?=some h) :
  ∃j,layClean.free mask ag (turns mask) (bits h % (mask+1)) (bits h)=some j/\Lay mask ai (ag.setIfInBounds j (some k)) (k+1):=by
 obtain⟨x,hx,fx⟩:=L.room hk;obtain⟨d,hd,e⟩:=hc (lp mask h 13).1 x (zmf mask h 13) hx;have eR:pos mask h (stt mask h (13+d))=x:=by
  unfold pos;rw[zgS];show (lp mask h (13+d)).1=x;rw[zl7,e]
 obtain⟨ne,h1,h2,h3⟩:=least (P:=fun m=>¬ Own ag (pos mask h m)) (stt mask h (13+d)) (by rw[eR]; exact fx);have hm:∀m,m<ne->Own ag (pos mask h m):=fun m q=>Classical.byContradiction fun z=>h3 m q z;refine⟨pos mask h ne,zic L.size h h2 hm h1 (turns mask) 0 (AQ _) (by unfold turns; omega),?_⟩;have fM:pos mask h ne<=mask:=pos_le _ _ _;have sg:=zkQ (k:=k) L.size fM;have own:∀i,Own ag i->Own (ag.setIfInBounds (pos mask h ne) (some k)) i:=fun i ⟨q,e⟩=>by
  by_cases z:i=pos mask h ne
  ·exact⟨k,by rw[sg,if_pos z]⟩
  ·exact⟨q,by rw[sg,if_neg z]; exact e⟩
 refine⟨by rw[Array.size_setIfInBounds]; exact L.size,fun q hq=>?_,fun j q e=>?_,fun i j q e1 e2=>?_,fun j q h' e1 e2=>?_⟩
 ·by_cases z:q=k
  ·exact⟨pos mask h ne,by rw[sg,if_pos rfl,z]⟩
  ·obtain⟨j,ej⟩:=L.all q (by omega)
   refine⟨j,?_⟩;rw[sg,if_neg fun w=>h2 ⟨q,by rw[<- w]; exact ej⟩];exact ej
 ·rw[sg] at e
  by_cases z:j=pos mask h ne
  ·rw[if_pos z] at e; cases e; omega
  ·rw[if_neg z] at e; have:=L.back j q e; omega
 ·rw[sg] at e1 e2
  by_cases z1:i=pos mask h ne
  ·rw[if_pos z1] at e1; cases e1
   by_cases z2:j=pos mask h ne
   ·omega
   ·rw[if_neg z2] at e2; have:=L.back j k e2; omega
  ·rw[if_neg z1] at e1
   by_cases z2:j=pos mask h ne
   ·rw[if_pos z2] at e2; cases e2; have:=L.back i k e1; omega
   ·rw[if_neg z2] at e2; exact L.one i j q e1 e2
 ·rw[sg] at e1
  by_cases z:j=pos mask h ne
  ·rw[if_pos z] at e1; cases e1
   rw[hh] at e2; cases e2;exact⟨ne,z.symm,fun m q=>own _ (hm m q)⟩
  ·rw[if_neg z] at e1
   obtain⟨n,a,b⟩:=L.path j q h' e1 e2;exact⟨n,a,fun m q=>own _ (b m q)⟩
def Lay.nil (mask:Nat) (ai:List Int):Lay mask ai (Array.replicate (mask+1) none) 0:=by
 have no:∀(j q:Nat),(Array.replicate (mask+1) (none:Option Nat))[j]?=some (some q)->False:=fun j q e=>by
  rw[Array.getElem?_replicate] at e;split at e <;> cases e
 exact⟨by simp,fun q h=>absurd h (Nat.not_lt_zero _),fun j q e=>(no j q e).elim,fun i j q e=>(no i q e).elim,fun j q h e=>(no j q e).elim⟩
def zeH {mask:Nat} (hc:Cov mask) (ai:Array Int) (hk:ai.size<=mask+1):∃ag,layClean mask ai=some ag/\Lay mask ai.toList ag ai.size:=by
 have go:∀(rest:List Int) (ag:Array (Option Nat)) (k:Nat),Lay mask ai.toList ag k->ai.toList.drop k=rest->
   ∃dO,(rest.foldl (fun acc h=>do
    let (ag,k) <- acc
    let j <- layClean.free mask ag (turns mask) (bits h % (mask+1)) (bits h)
    pure (ag.setIfInBounds j (some k),k+1)) (some (ag,k)))=some (dO,k+rest.length)/\Lay mask ai.toList dO (k+rest.length):=by
  intro rest
  induction rest with
  | nil=>intro ag k L _; exact⟨ag,rfl,L⟩
  | cons h rest ih=>
   intro ag k L e;have hlt:k<ai.toList.length:=by
    rcases Nat.lt_or_ge k ai.toList.length with q | q
    ·exact q
    ·rw[List.drop_eq_nil_of_le q] at e; cases e
   have eh:ai.toList[k]?=some h:=by
    rw[List.drop_eq_getElem_cons hlt] at e;injection e with e1 _
    rw[Ah hlt,e1]
   have er:ai.toList.drop (k+1)=rest:=by
    rw[List.drop_eq_getElem_cons hlt] at e;injection e
   rw[AS] at hlt;obtain⟨j,ej,L'⟩:=L.step hc (by omega) eh;obtain⟨o',a,b⟩:=ih (ag.setIfInBounds j (some k)) (k+1) L' er;refine⟨o',?_,?_⟩
   ·rw[List.foldl_cons]
    show List.foldl _ (layClean.free mask ag (turns mask) (bits h % (mask+1)) (bits h) >>= fun j=>pure (ag.setIfInBounds j (some k),k+1)) rest=_;rw[ej];show List.foldl _ (some (ag.setIfInBounds j (some k),k+1)) rest=_;rw[a,Ap,show k+1+rest.length=k+(rest.length+1) by omega]
   ·rw[Ap,show k+(rest.length+1)=k+1+rest.length by omega]
    exact b
 obtain⟨o,a,b⟩:=go ai.toList _ 0 (Lay.nil mask _) rfl;rw[Nat.zero_add,AS] at a b;refine⟨o,?_,b⟩;unfold layClean;rw[<- Array.foldl_toList,a]
 rfl
def zab (ag:Array (Option Nat)) (n:Nat):List (Nat×Nat):=(A6 n).filterMap fun j=>(ag.getD j none).map (j,·)
def zal {ag:Array (Option Nat)}{n:Nat}{x:Nat×Nat}:x∈zab ag n ↔ x.1<n/\ag[x.1]?=some (some x.2):=by
 unfold zab;rw[List.mem_filterMap];constructor
 ·rintro⟨j,hj,e⟩
  rw[Option.map_eq_some_iff] at e;obtain⟨q,e1,rfl⟩:=e;refine⟨List.mem_range.mp hj,?_⟩;rw[Array.getD_eq_getD_getElem?] at e1;cases c:ag[j]? with
  | none=>rw[c] at e1; cases e1
  | some v=>rw[c] at e1; simp only[Option.getD_some] at e1; rw[e1]
 ·rintro⟨h1,h2⟩
  refine⟨x.1,List.mem_range.mpr h1,?_⟩;rw[Array.getD_eq_getD_getElem?,h2]
  rfl
def ze7 (ag:Array (Option Nat)) (n:Nat):(zab ag n).Pairwise fun x y=>x.1<y.1:=by
 unfold zab;refine List.Pairwise.filterMap (S:=fun x y:Nat×Nat=>x.1<y.1) _ ?_ (List.pairwise_lt_range (n:=n));intro a a' h b hb b' hb';rw[Option.map_eq_some_iff] at hb hb';obtain⟨_,_,rfl⟩:=hb;obtain⟨_,_,rfl⟩:=hb';exact h
def ziW {mask:Nat}{ai:List Int}{ag:Array (Option Nat)}{k:Nat} (L:Lay mask ai ag k):(zab ag (mask+1)).length=k/\((zab ag (mask+1)).map (·.2)).Nodup:=by
 have nd:((zab ag (mask+1)).map (·.2)).Nodup:=by
  refine List.nodup_iff_pairwise_ne.mpr (List.pairwise_map.mpr ?_);refine List.Pairwise.imp_of_mem ?_ (ze7 ag (mask+1));intro a b ha hb hlt e;have h1:=(zal.mp ha).2;have h2:=(zal.mp hb).2;rw[<- e] at h2;have:=L.one _ _ _ h1 h2;omega
 refine⟨?_,nd⟩;have s1:(zab ag (mask+1)).map (·.2) ⊆ A6 k:=fun q hq=>by
  obtain⟨x,hx,rfl⟩:=List.mem_map.mp hq;exact List.mem_range.mpr (L.back _ _ (zal.mp hx).2)
 have s2:A6 k ⊆ (zab ag (mask+1)).map (·.2):=fun q hq=>by
  obtain⟨j,ej⟩:=L.all q (List.mem_range.mp hq);have hj:j<mask+1:=by rw[<- L.size]; exact (Array.getElem?_eq_some_iff.mp ej).1
  exact List.mem_map.mpr ⟨(j,q),zal.mpr ⟨hj,ej⟩,rfl⟩
 have l1:=nd.length_le_of_subset s1;have l2:=(List.nodup_range (n:=k)).length_le_of_subset s2;rw[Ab,List.length_range] at l1;rw[List.length_range,Ab] at l2;omega
def zlO {mask:Nat} (hc:Cov mask) (ho:mask % 2=1) (finger moves:Nat) (led plain:Bool) (ai:Array Int) (hk:ai.size<=mask) :
  ∃t ay,laid mask finger moves led plain ai=some (t,ay)/\t.mask=mask/\t.led=led/\t.plain=plain/\ay.size=ai.size/\ay.toList.Nodup/\(∀q∈ay.toList,q<ai.size)/\
   Tb t (ay.map fun q=>(ai[q]?).getD 0):=by
 obtain⟨ag,e,L⟩:=zeH hc ai (by omega);obtain⟨ll,nd⟩:=ziW L;refine⟨_,_,by unfold laid; rw[e]; exact rfl,rfl,rfl,rfl,?_,?_,?_,?_⟩
 ·show ((zab ag (mask+1)).map (·.2)).toArray.size=_
  rw[Ag,Ab,ll]
 ·exact nd
 ·intro q hq
  obtain⟨x,hx,rfl⟩:=List.mem_map.mp (show q∈(zab ag (mask+1)).map (·.2) from hq);exact L.back _ _ (zal.mp hx).2
 ·have pg:∀i:Nat,(((zab ag (mask+1)).map (·.1)).toArray)[i]?=((zab ag (mask+1))[i]?).map (·.1):=fun i=>by
   rw[List.getElem?_toArray,Am]
  have og:∀i:Nat,(((zab ag (mask+1)).map (·.2)).toArray)[i]?=((zab ag (mask+1))[i]?).map (·.2):=fun i=>by
   rw[List.getElem?_toArray,Am]
  have occ:∀j,Own ag j->∃i:Nat,(((zab ag (mask+1)).map (·.1)).toArray)[i]?=some j:=fun j ⟨q,ej⟩=>by
   have hj:j<mask+1:=by rw[<- L.size]; exact (Array.getElem?_eq_some_iff.mp ej).1
   obtain⟨i,hi,ei⟩:=List.mem_iff_getElem.mp (zal.mpr ⟨hj,ej⟩:(j,q)∈zab ag (mask+1));exact⟨i,by rw[pg,Ah hi,ei]; rfl⟩
  refine⟨fun i j a b ha hb hij=>?_,rfl,?_,fun i j ej=>?_,hc,ho,?_,fun k j h e1 e2=>?_⟩
  ·have rY:((zab ag (mask+1))[i]?).map (·.1)=some a:=by rw[<- pg]; exact ha
   have hb':((zab ag (mask+1))[j]?).map (·.1)=some b:=by rw[<- pg]; exact hb
   obtain⟨x,ex,rfl⟩:=Option.map_eq_some_iff.mp rY;obtain⟨y,ey,rfl⟩:=Option.map_eq_some_iff.mp hb';obtain⟨hi,rfl⟩:=List.getElem?_eq_some_iff.mp ex;obtain⟨hj,rfl⟩:=List.getElem?_eq_some_iff.mp ey;exact List.pairwise_iff_getElem.mp (ze7 ag (mask+1)) i j hi hj hij
  ·show ((zab ag (mask+1)).map (·.1)).toArray.size=(Array.map _ ((zab ag (mask+1)).map (·.2)).toArray).size
   rw[Array.size_map,Ag,Ag,Ab,Ab]
  ·have ki:((zab ag (mask+1))[i]?).map (·.1)=some j:=by rw[<- pg]; exact ej
   obtain⟨x,ex,rfl⟩:=Option.map_eq_some_iff.mp ki;exact Nat.lt_succ_iff.mp (zal.mp (At ex)).1
  ·show (Array.map _ ((zab ag (mask+1)).map (·.2)).toArray).size<=mask
   rw[Array.size_map,Ag,Ab,ll];exact hk
  ·have kJ:((zab ag (mask+1))[k]?).map (·.1)=some j:=by rw[<- pg]; exact e2
   obtain⟨x,ex,rfl⟩:=Option.map_eq_some_iff.mp kJ;have cw:(Array.map (fun q=>(ai[q]?).getD 0) ((zab ag (mask+1)).map (·.2)).toArray)[k]?=some h:=e1;rw[Array.getElem?_map,og,ex] at cw;have hx:=(zal.mp (At ex)).2;have hq:=L.back _ _ hx;have eh:ai.toList[x.2]?=some h:=by
    rw[AK];have:ai[x.2]?=some ai[x.2]:=getElem?_pos ai x.2 hq;simp only[Option.map_some,this,Option.getD_some] at cw;rw[this,Al cw]
   obtain⟨n,a,b⟩:=L.path x.1 x.2 h hx eh;exact⟨n,a,fun m hm=>occ _ (b m hm)⟩
end STb
end
section
namespace STb
open PySem PySem.SetTable
section
variable {prog:Program}{w:World}{K:Type} [DecidableEq K] {knd:KeyKind prog w K}{A:Around}{E:Value->Shared->Prop}{s:Shared}
def fits_of {t:SetTable}{es:Array (Int×Value)} (T:Tb t (es.map (·.1))):t.fits es.size=true:=by
 have h1:=T.size;have h2:=T.room;rw[Array.size_map] at h1 h2;unfold SetTable.fits SetTable.fill;rw[T.dum,h1];simp;exact h2
def zjS (n:Nat) {v:Value} (h:carriedByValue v=true):ofAClassStatement n v=pure false:=by
 cases v with
 | ref a=>simp[carriedByValue] at h
 | _=>cases n <;> rfl
def zhp {ks:List K}{b:Addr}{Q:Bool->Shared->Prop} (hk:AB knd s.heap ks b) (h:Q false s):wpAny (model prog w) A (ofAClassStatement 8 (.ref b)) Q E s:=by
 have hT:=hk.typeIs;obtain⟨o,af,n,ho,_,hd,hi⟩:=hk;unfold ofAClassStatement;refine Aa (wpAny_typeOf hT ?_);show wpAny _ _ ((if ("tuple" == "tuple")=true then pure true else isSubtype (.type "tuple") (.type "tuple")) >>= _) _ _ s;rw[if_pos (by decide)];refine Aa (Ac ?_);simp only[Bool.not_true,Ai,if_false];refine Aa (wpAny_seqItems ho hd ?_);refine Aa ?_;show wpAny _ _ (forIn af _ _) _ _ s;rw[<- Array.forIn_toList];refine wpAny_forIn_list _ (fun rest r s'=>r.1=none/\s'=s/\∀v∈rest,carriedByValue v=true) _ ?_ ?_ _ _ ⟨rfl,rfl,hi.byValue⟩
 ·rintro v rest r s' ⟨hr,rfl,hall⟩
  rw[zjS _ (hall v Au)];refine Aa (Ac ?_);simp only[Ai,if_false];exact Ac ⟨rfl,rfl,fun u jb=>hall u (Aw _ jb)⟩
 ·rintro⟨r1,r2⟩ s' ⟨hr,rfl,_⟩
  simp only at hr;subst hr;exact Ac h
def zhd {ks:List K}{b:Addr}{ys:List Value}{Q:Bool->Shared->Prop} (hk:AB knd s.heap ks b) (hy:∀y∈ys,∃k' c,y=.ref c/\AB knd s.heap k' c) (h:Q false s) :
  wpAny (model prog w) A (searchCouldBeSeen (.ref b) ys) Q E s:=by
 unfold searchCouldBeSeen;refine Aa ?_;refine wpAny_forIn_list _ (fun rest r s'=>r.1=none/\s'=s/\∀y∈rest,∃k' c,y=.ref c/\AB knd s.heap k' c) _ ?_ ?_ _ _ ⟨rfl,rfl,hy⟩
 ·rintro v rest r s' ⟨hr,rfl,hall⟩
  obtain⟨k',c,rfl,hc⟩:=hall v Au;have nx:∀u∈rest,∃k' c,u=.ref c/\AB knd s'.heap k' c:=fun u jb=>hall u (Aw _ jb);dsimp only;split
  ·exact Ac ⟨rfl,rfl,nx⟩
  ·refine Aa (wpAny_eqIsQuiet_tuple hk ?_)
   simp only[Bool.not_true,Ai,if_false];refine Aa (wpAny_eqIsQuiet_tuple hc ?_);simp only[Bool.not_true,Ai,if_false];refine Aa (zhp hk ?_);simp only[Ai,if_false];refine Aa (zhp hc ?_);simp only[Ai,if_false];exact Ac ⟨rfl,rfl,nx⟩
 ·rintro⟨r1,r2⟩ s' ⟨hr,rfl,_⟩
  simp only at hr;subst hr;exact Ac h
structure TS (knd:KeyKind prog w K) (h:Heap) (S:Addr) (o:Obj) (es:Array (Int×Value)) (ep:Nat) (t:SetTable) (ks:List (List K)) (B:List Addr):Prop where
 at_:h.get? S=some o
 ex:o.ExactSet
 dt:o.data=.set es ep t
 tb:Tb t (es.map (·.1))
 sz:es.size=ks.length
 nd:ks.Nodup
 el:∀e∈es.toList,∃k b,k∈ks/\e=(An knd k,Value.ref b)/\AB knd h k b
 ke:∀k∈ks,∃b,(An knd k,Value.ref b)∈es.toList/\AB knd h k b
 msk:(t.mask=7/\es.size<=4) \/ (t.mask=31/\es.size<=18) \/ (t.mask=127/\es.size<=76) \/ (t.mask=15/\es.size<=8) \/ (t.mask=63/\es.size<=37) \/ (t.mask=255/\es.size<=152)
 ad:∀e∈es.toList,∃b∈B,e.2=Value.ref b
 wk:w.params.followText "set-order"=true \/ (t.led=true/\t.plain=true)
def zed {B:List Addr}{S:Addr}{o:Obj}{es:Array (Int×Value)}{ep:Nat}{t:SetTable}{ks:List (List K)} (X:TS knd s.heap S o es ep t ks B) (hu:A.units<cLine) {k:List K}{b:Addr} (hk:AB knd s.heap k b)
  {ne:Nat} (hne:ne<10*turns t.mask) (he:¬ Occ t (pos t.mask (An knd k) ne)) (hm:∀m,m<ne->Occ t (pos t.mask (An knd k) m)) {add:Bool} {Q:SetFound->Shared->Prop}
  (h1:k∈ks->∀r:Option Nat,(add=false->r.isSome=true)->Q (.there r) s) (h2:k∉ks->Q (.free (pos t.mask (An knd k) ne) false) s) :
  ∀(fuel n:Nat) (cp:Option Probe),ne<n+fuel->n<=ne->cp.getD (t.probeStart (An knd k))=pr t.mask (An knd k) n->
   (∀(m i:Nat) (c:Addr),m<n->t.place[i]?=some (pos t.mask (An knd k) m)->es[i]?=some (An knd k,Value.ref c)->¬ AB knd s.heap k c)->
   wpAny (model prog w) A (setSearchFrom S (.ref b) (An knd k) add fuel cp) Q E s:=by
 have T:=X.tb;have cC:=fits_of T;have hA:∀i:Nat,(es.map (·.1))[i]?=(es[i]?).map (·.1):=fun i=>Array.getElem?_map ..;intro fuel
 induction fuel with
 | zero=>intro n cp a1 a2 _ _; omega
 | succ fuel ih=>
  intro n cp a1 a2 a3 a4;unfold setSearchFrom;refine Aa (A5 X.at_ X.dt cC ?_);dsimp only;have gw:t.gaveWay=false:=by
   unfold SetTable.gaveWay;rw[T.odd]
   rfl
  rw[gw];simp only[Ai,if_false];rw[a3];rcases probe_spec T (hashAt:=fun i=>((es[i]?).map (·.1)).getD 0) hne he hm a2 with ⟨cZ,none_⟩ | ⟨N,i,b1,b2,b3,b4,b5,b6⟩
  ·have nS:t.probe (fun i=>((es[i]?).map (·.1)).getD 0) (An knd k) (pr t.mask (An knd k) n)=some (.empty (pos t.mask (An knd k) ne) none):=cZ
   show wpAny _ _ (match t.probe (fun i=>((es[i]?).map (·.1)).getD 0) (An knd k) (pr t.mask (An knd k) n) with | some met=>_ | _=>_) _ _ s;rw[nS];dsimp only;refine Ac (h2 fun hin=>?_);obtain⟨c,oq,cH⟩:=X.ke k hin;obtain⟨i,hi,ei⟩:=List.mem_iff_getElem.mp oq;have l9:es[i]?=some (An knd k,.ref c):=by
    rw[<- AK,Ah hi,ei]
   have hlt:i<t.place.size:=by rw[T.size,Array.size_map]; simpa using hi
   have ej:t.place[i]?=some t.place[i]:=getElem?_pos t.place i hlt;obtain⟨N,hN,eN⟩:=zmi T he (k:=i) (by rw[hA,l9]; rfl) ej;rcases Nat.lt_or_ge N n with q | q
   ·exact a4 N i c q (by rw[eN]; exact ej) l9 cH
   ·exact none_ N i q hN (by rw[eN]; exact ej) (by show ((es[i]?).map (·.1)).getD 0=_; rw[l9]; rfl)
  ·show wpAny _ _ (match t.probe (fun i=>((es[i]?).map (·.1)).getD 0) (An knd k) (pr t.mask (An knd k) n) with | some met=>_ | _=>_) _ _ s
   rw[b5];dsimp only;have hi:i<es.size:=by
    have:=(Array.getElem?_eq_some_iff.mp b3).1;rw[T.size,Array.size_map] at this;exact this
   have ei:es[i]?=some es[i]:=getElem?_pos es i hi;obtain⟨k',c,hk',ee,hc⟩:=X.el es[i] (by simp);rw[ee] at ei;have eh:An knd k'=An knd k:=by
    have:((es[i]?).map (·.1)).getD 0=An knd k:=b4;rw[ei] at this;exact this
   rw[eh] at ei;have sm:t.sameMemory t.moves t.mask=some true:=by unfold SetTable.sameMemory; rw[if_pos (by simp)]
   have nxt':k'≠k->wpAny (model prog w) A (setSearchFrom S (.ref b) (An knd k) add fuel (some (pr t.mask (An knd k) (N+1)))) Q E s:=fun eq=>by
    refine ih (N+1) _ (by omega) (by omega) rfl fun m i2 c2 q1 q2 q3 q4=>?_;rcases Nat.lt_or_ge m n with z | z
    ·exact a4 m i2 c2 z q2 q3 q4
    ·rcases Nat.lt_or_ge m N with z2 | z2
     ·exact b6 m i2 z z2 q2 (by show ((es[i2]?).map (·.1)).getD 0=_; rw[q3]; rfl)
     ·have:m=N:=by omega
      subst this;have:=T.ris.inj q2 b3;subst this;rw[ei] at q3;cases q3;exact eq (IsTupleKey.inj hc q4)
   cases led:t.led
   all_goals simp only[Bool.not_true,Bool.not_false,Ai,if_true,if_false]
   ·refine Aa (zhd hk (fun y hy=>?_) ?_)
    ·obtain⟨e,he',rfl⟩:=List.mem_map.mp hy
     rw[Array.toList_filter] at he';obtain⟨k2,c2,_,e2,jy⟩:=X.el e (List.mem_filter.mp he').1;exact⟨k2,c2,by rw[e2],jy⟩
    simp only[Ai,if_false];rw[ei];refine Aa (AM (wpAny_eqBool_tuple hu hc hk ?_));refine Aa (A5 X.at_ X.dt cC ?_)
    by_cases eq:k'=k
    ·subst eq
     cases add
     ·simp only[decide_true,Bool.false_and,Ai,if_false]
      rw[sm];simp only[if_true];rw[zam T b3];dsimp only;rw[ei];refine Aa (wpAny_isSame_ref_self (Aa (Ac ?_)));simp only[if_true];exact Ac (h1 hk' _ fun _=>rfl)
     ·simp only[decide_true,Bool.and_self,if_true]
      exact Ac (h1 hk' _ fun z=>by cases z)
    ·rw[decide_eq_false eq]
     simp only[Bool.and_false,Ai,if_false];rw[sm];simp only[if_true];rw[zam T b3];dsimp only;rw[ei];refine Aa (wpAny_isSame_ref_self (Aa (Ac ?_)));simp only[if_true];exact nxt' eq
   ·rw[ei]
    refine Aa (AM (wpAny_eqBool_tuple hu hc hk ?_));refine Aa (A5 X.at_ X.dt cC ?_)
    by_cases eq:k'=k
    ·subst eq
     cases add
     ·simp only[decide_true,Bool.false_and,Ai,if_false]
      rw[sm];simp only[if_true];rw[zam T b3];dsimp only;rw[ei];refine Aa (wpAny_isSame_ref_self (Aa (Ac ?_)));simp only[if_true];exact Ac (h1 hk' _ fun _=>rfl)
     ·simp only[decide_true,Bool.and_self,if_true]
      exact Ac (h1 hk' _ fun z=>by cases z)
    ·rw[decide_eq_false eq]
     simp only[Bool.and_false,Ai,if_false];rw[sm];simp only[if_true];rw[zam T b3];dsimp only;rw[ei];refine Aa (wpAny_isSame_ref_self (Aa (Ac ?_)));simp only[if_true];exact nxt' eq
end
end STb
end
section
namespace STb
open PySem PySem.SetTable
section
variable {prog:Program}{w:World}{K:Type} [DecidableEq K] {knd:KeyKind prog w K}{A:Around}{E:Value->Shared->Prop}{s:Shared}
def zag {h h':Heap}{S b:Addr}{k:List K}{o:Obj}{es ep t} (hk:AB knd h k b) (ho:h.get? S=some o) (hd:o.data=.set es ep t) (hs:AC S h h'):AB knd h' k b:=by
 obtain⟨o',af,n,ho',hc,hd',hi⟩:=hk;have hne:b≠S:=by
  rintro rfl;obtain rfl:o'=o:=Al (ho'.symm.trans ho);rw[hd] at hd'; exact nomatch hd'
 exact⟨o',af,n,(hs.2 b hne).trans ho',hc,hd',hi⟩
def zmX {ks:List K}{b:Addr}{Q:Bool->Shared->Prop} (hv:∀k v n,knd.is k v=true->hashByValue n v=pure true) (hk:AB knd s.heap ks b) (h:Q true s):wpAny (model prog w) A (hashByValue 8 (.ref b)) Q E s:=by
 have hT:=hk.typeIs;obtain⟨o,af,n,ho,_,hd,hi⟩:=hk;unfold hashByValue;refine Aa (wpAny_specialOf hT F.slot_tuple_hash.lookup ?_);dsimp only;refine Aa (wpAny_seqItems ho hd ?_);refine Aa ?_;show wpAny _ _ (forIn af _ _) _ _ s;rw[<- Array.forIn_toList];refine wpAny_forIn_list _ (fun rest r s'=>r.1=none/\s'=s/\∃qd,ItemsAre knd qd rest) _ ?_ ?_ _ _ ⟨rfl,rfl,ks,hi⟩
 ·rintro v rest r s' ⟨hr,rfl,qd,hi'⟩
  cases hi' with
  | @cons k _ ks'' _ h1 h2=>
   rw[hv k v 7 h1];refine Aa (Ac ?_);simp only[Bool.not_true,Ai,if_false];exact Ac ⟨rfl,rfl,ks'',h2⟩
 ·rintro⟨r1,r2⟩ s' ⟨hr,rfl,_⟩
  simp only at hr;subst hr;exact Ac h
def zcz {h:Heap}{S:Addr}{o:Obj}{es:Array (Int×Value)}{ep:Nat}{t:SetTable}{bg:Array (Int×Value)}{t':SetTable} (ho:h.get? S=some o) (hd:o.data=.set es ep t) :
  (h.update S (Obj.putSet bg t')).get? S=some { o with data:=.set bg (ep+1) t' }:=by
 have:=AU (Obj.putSet bg t') ho (by rw[putSet_of bg t' hd]; rfl);rw[putSet_of bg t' hd] at this;exact this
def zkN {α:Type}{es:Array α}:∀{l:List Nat},(∀q∈l,q<es.size)->∃l':List α,l.filterMap (es[·]?)=l'/\l'.length=l.length/\(∀x∈l',x∈es.toList)/\(∀(i q:Nat),l[i]?=some q->l'[i]?=es[q]?)
 | [],_=>⟨[],rfl,rfl,(fun x hx=>by cases hx),(fun i q e=>by cases i <;> simp at e)⟩
 | q::l,h=>by
  obtain⟨l',e1,e2,e3,e4⟩:=zkN (l:=l) fun x hx=>h x (Aw _ hx);have hq:=h q Au;refine⟨es[q]::l',?_,by rw[Ap,Ap,e2],fun x hx=>?_,fun i p e=>?_⟩
  ·rw[List.filterMap_cons,getElem?_pos es q hq,e1]
  ·rcases List.mem_cons.mp hx with rfl | hx
   ·simp
   ·exact e3 x hx
  ·cases i with
   | zero=>simp at e; subst e; simp[getElem?_pos es q hq]
   | succ i=>simp at e ⊢; exact e4 i p e
def zfU {B:List Addr}{S:Addr}{o:Obj}{es:Array (Int×Value)}{ep:Nat}{t:SetTable}{ks:List (List K)}{fQ m2:Nat} (dG:s.heap.get? S=some o) (hex:o.ExactSet) (hd:o.data=.set es ep t) (T:Tb t (es.map (·.1)))
  (hsz:es.size=ks.length) (nd:ks.Nodup) (ad:∀e∈es.toList,∃b∈B,e.2=Value.ref b) (el:∀e∈es.toList,∃k b,k∈ks/\e=(An knd k,Value.ref b)/\AB knd s.heap k b) (ke:∀k∈ks,∃b,(An knd k,Value.ref b)∈es.toList/\AB knd s.heap k b)
  (hw:SetTable.sizeAbove fQ - 1=m2) (gf:SetTable.sizeAbove fQ<=sizeLine) (hc:Cov m2) (ho:m2 % 2=1) (hr:es.size<=m2) (hz:es.size<=1000)
  (tY:(m2=7/\es.size<=4) \/ (m2=31/\es.size<=18) \/ (m2=127/\es.size<=76) \/ (m2=15/\es.size<=8) \/ (m2=63/\es.size<=37) \/ (m2=255/\es.size<=152)) (wk:w.params.followText "set-order"=true \/ (t.led=true/\t.plain=true)) {Q:Unit->Shared->Prop}
  (h:∀h' o' bg aX t',TS knd h' S o' bg aX t' ks B->AC S s.heap h'->Q () { s with heap:=h' }):wpAny (model prog w) A (setRelay S fQ) Q E s:=by
 have cC:=fits_of T;unfold setRelay;refine Aa (A5 dG hd cC ?_);dsimp only;rw[if_neg (Nat.not_lt.mpr gf)];obtain⟨t2,ay,e1,e2,e3,e4,e5,e6,e7,e8⟩:=zlO hc ho t.finger (t.movedTo m2) t.led t.plain (es.map (·.1)) (by rw[Array.size_map]; exact hr);have er:t.relaid (es.map (·.1)) fQ=some (t2,ay):=by
  unfold SetTable.relaid;rw[hw];exact e1
 rw[Array.size_map] at e5 e7;obtain⟨l',f1,f2,f3,f4⟩:=zkN (es:=es) e7;have eo:ay.filterMap (es[·]?)=l'.toArray:=by
  apply Array.toList_inj.mp;rw[Array.toList_filterMap,f1]
 have hl:l'.length=es.size:=by rw[f2,AS,e5]
 rw[er];refine Aa ?_;show wpAny _ _ (ite (((ay.filterMap (es[·]?)).size != es.size)=true) _ _) _ _ _;rw[if_neg (by rw[eo,Ag,hl]; simp),eo];refine Ac ?_;dsimp only;have kz:(l'.toArray.map (·.1))=ay.map fun q=>((es.map (·.1))[q]?).getD 0:=by
  apply Array.ext_getElem?;intro i;rw[Array.getElem?_map,Array.getElem?_map,List.getElem?_toArray];cases q:ay[i]? with
  | none=>
   have:ay.toList.length<=i:=by rw[AS]; exact Array.getElem?_eq_none_iff.mp q
   rw[List.getElem?_eq_none (by omega)]
   rfl
  | some p=>
   have e:=f4 i p (by rw[AK]; exact q);have hp:=e7 p (by rw[<- AK] at q; exact At q);rw[e,getElem?_pos es p hp];simp[hp]
 have T2:Tb t2 (l'.toArray.map (·.1)):=by rw[kz]; exact e8
 have hne:∀q,q<es.size->q∈ay.toList:=fun q hq=>Classical.byContradiction fun z=>by
  have nd2:(q::ay.toList).Nodup:=List.nodup_cons.mpr ⟨z,e6⟩;have sub:(q::ay.toList) ⊆ A6 es.size:=fun x hx=>by
   rcases List.mem_cons.mp hx with rfl | hx
   ·exact List.mem_range.mpr hq
   ·exact List.mem_range.mpr (e7 x hx)
  have:=nd2.length_le_of_subset sub;rw[Ap,AS,e5,List.length_range] at this;omega
 refine wpAny_storeSet_of dG hd ?_ (by rw[Ag,hl,sizeLine_eq]; omega);refine h _ { o with data:=.set l'.toArray (ep+1) t2 } l'.toArray (ep+1) t2 ?_ (AG ..);have sb:AC S s.heap (s.heap.update S (Obj.putSet l'.toArray t2)):=AG ..;refine⟨zcz dG hd,hex,rfl,T2,by rw[Ag,hl]; exact hsz,nd,fun e he=>?_,fun k hk=>?_,?_,fun e he=>ad e (f3 e he),by rw[e3,e4]; exact wk⟩
 ·obtain⟨k,b,a1,a2,a3⟩:=el e (f3 e he)
  exact⟨k,b,a1,a2,zag a3 dG hd sb⟩
 ·obtain⟨b,a1,a2⟩:=ke k hk
  refine⟨b,?_,zag a2 dG hd sb⟩;obtain⟨q,hq,eq⟩:=List.mem_iff_getElem.mp a1;rw[AS] at hq;obtain⟨i,hi,ei⟩:=List.mem_iff_getElem.mp (hne q hq);have e:=f4 i q (by rw[Ah hi,ei]);refine At (i:=i) ?_;rw[e,<- eq];simp[hq]
 ·rw[e2,Ag,hl]
  exact tY
def ins_map {α β:Type} (f:α->β) (xs:Array α) (p:Nat) (x:α) (hp:p<=xs.size):(insertAt xs p x).map f=insertAt (xs.map f) p (f x):=by
 apply Array.ext_getElem?;intro i;rw[Array.getElem?_map,zY _ _ _ hp,zY _ _ _ (by rw[Array.size_map]; exact hp),Array.getElem?_map,Array.getElem?_map]
 by_cases h1:i<p
 ·rw[if_pos h1,if_pos h1]
 ·rw[if_neg h1,if_neg h1]
  by_cases h2:i=p
  ·rw[if_pos h2,if_pos h2]; rfl
  ·rw[if_neg h2,if_neg h2]
def ins_mem {α:Type}{xs:Array α}{p:Nat}{x y:α} (hp:p<=xs.size):y∈(insertAt xs p x).toList ↔ y=x \/ y∈xs.toList:=by
 constructor
 ·intro h
  obtain⟨i,hi,e⟩:=List.mem_iff_getElem.mp h;have e2:(insertAt xs p x)[i]?=some y:=by rw[<- AK,Ah hi,e]
  rw[zY _ _ _ hp] at e2
  by_cases h1:i<p
  ·rw[if_pos h1,<- AK] at e2; exact .inr (At e2)
  ·rw[if_neg h1] at e2
   by_cases h2:i=p
   ·rw[if_pos h2] at e2; exact .inl (Al e2).symm
   ·rw[if_neg h2,<- AK] at e2; exact .inr (At e2)
 ·rintro (rfl | h)
  ·refine At (i:=p) ?_
   rw[AK,zY _ _ _ hp,if_neg (Nat.lt_irrefl _),if_pos rfl]
  ·obtain⟨i,hi,e⟩:=List.mem_iff_getElem.mp h
   have e2:xs[i]?=some y:=by rw[<- AK,Ah hi,e]
   by_cases h1:i<p
   ·refine At (i:=i) ?_
    rw[AK,zY _ _ _ hp,if_pos h1]; exact e2
   ·refine At (i:=i+1) ?_
    rw[AK,zY _ _ _ hp,if_neg (by omega),if_neg (by omega),Nat.add_sub_cancel]; exact e2
def zeM {B:List Addr}{S:Addr}{o:Obj}{es:Array (Int×Value)}{ep:Nat}{t:SetTable}{ks:List (List K)} (X:TS knd s.heap S o es ep t ks B) (hu:A.units<cLine) (hv:∀k v n,knd.is k v=true->hashByValue n v=pure true)
  {k:List K} {b:Addr} (hk:AB knd s.heap k b) (i5:b∈B) (hn:ks.length<60) {Q:Bool->Shared->Prop}
  (h:∀(r:Bool) h' o' bg aX t',TS knd h' S o' bg aX t' (if k∈ks then ks else ks++[k]) B->AC S s.heap h'->Q r { s with heap:=h' }):wpAny (model prog w) A (setAddHashed S (.ref b) (An knd k)) Q E s:=by
 unfold setAddHashed;refine AM ?_;have T:=X.tb;have cC:=fits_of T;have X':TS knd s.heap S o es ep t ks B:=X;unfold setAddHashedIn;refine Aa (A5 (s:=s) X.at_ X.dt cC ?_);dsimp only;have nb:byScan (.ref b) es=false:=rfl;rw[nb];simp only[Ai,if_false];obtain⟨ne,hne,he,hm⟩:=zcA T (An knd k);refine Aa ?_;unfold setSearch;refine zed (s:=s) X' hu hk hne he hm (fun hin r0 _=>?_) (fun eK=>?_) 100000 0 none ?_ (AQ _) rfl (fun m i c eJ=>absurd eJ (Nat.not_lt_zero _))
 ·dsimp only
  refine Ac (h false s.heap o es ep t ?_ (Heap.SameBut.refl ..));rw[if_pos hin];exact X
 ·dsimp only
  refine Aa (A5 (s:=s) X.at_ X.dt cC ?_);dsimp only;have jC:(es.map (·.1)).size+1<=t.mask:=by
   rw[Array.size_map];rcases X.msk with ⟨a,b⟩ | ⟨a,b⟩ | ⟨a,b⟩ | ⟨a,b⟩ | ⟨a,b⟩ | ⟨a,b⟩ <;> omega
  obtain⟨p1,p2,p3⟩:=znr T he hm jC;rw[Array.size_map] at p1;obtain⟨t1,p,jT⟩:∃t1 p,t.put (pos t.mask (An knd k) ne)=(t1,p):=⟨_,_,rfl⟩;rw[jT] at p1 p2 p3 ⊢;dsimp only at p1 p2 p3 ⊢;have gP:k∉ks:=eK;have cq:(insertAt es p (An knd k,Value.ref b)).size=es.size+1:=zbJ _ _ _ p1;have hlen:=X.sz;have fM:es.size<60:=by omega
  have hst:∀t2:SetTable,Tb t2 (insertAt (es.map (·.1)) p (An knd k))->t2.mask=t.mask->wpAny (model prog w) A (storeSet S (insertAt es p (An knd k,Value.ref b)) t2)
    (fun _ s'=>∃h',s'={ s with heap:=h' }/\h'.get? S=some { o with data:=.set (insertAt es p (An knd k,Value.ref b)) (ep+1) t2 }/\AC S s.heap h') E s:=fun t2 T2 m2=>
   wpAny_storeSet_of (s:=s) X.at_ X.dt ⟨_,rfl,zcz X.at_ X.dt,AG ..⟩ (by rw[cq,sizeLine_eq]; omega)
  have emap:(insertAt es p (An knd k,Value.ref b)).map (·.1)=insertAt (es.map (·.1)) p (An knd k):=ins_map (·.1) es p _ p1;have jA:(ks++[k]).Nodup:=by
   rw[List.nodup_append];refine⟨X.nd,by simp,fun x hx y hy=>?_⟩;rw[List.mem_singleton.mp hy];exact fun z=>gP (z ▸ hx)
  have els:∀h',AC S s.heap h'->∀e∈(insertAt es p (An knd k,Value.ref b)).toList,∃k' b',k'∈ks++[k]/\e=(An knd k',Value.ref b')/\AB knd h' k' b':=fun h' ck e he=>by
   rcases (ins_mem p1).mp he with rfl | he
   ·exact⟨k,b,by simp,rfl,zag hk X.at_ X.dt ck⟩
   ·obtain⟨k',b',a1,a2,a3⟩:=X.el e he
    exact⟨k',b',List.mem_append_left _ a1,a2,zag a3 X.at_ X.dt ck⟩
  have kes:∀h',AC S s.heap h'->∀k'∈ks++[k],∃b',(An knd k',Value.ref b')∈(insertAt es p (An knd k,Value.ref b)).toList/\AB knd h' k' b':=fun h' ck k' hk'=>by
   rcases List.mem_append.mp hk' with hk' | hk'
   ·obtain⟨b',a1,a2⟩:=X.ke k' hk'
    exact⟨b',(ins_mem p1).mpr (.inr a1),zag a2 X.at_ X.dt ck⟩
   ·rw[List.mem_singleton.mp hk']
    exact⟨b,(ins_mem p1).mpr (.inl rfl),zag hk X.at_ X.dt ck⟩
  have ads:∀e∈(insertAt es p (An knd k,Value.ref b)).toList,∃b'∈B,e.2=Value.ref b':=fun e he=>by
   rcases (ins_mem p1).mp he with rfl | he
   ·exact⟨b,i5,rfl⟩
   ·exact X.ad e he
  have hlast:∀(t2:SetTable) (h':Heap),Tb t2 (insertAt (es.map (·.1)) p (An knd k))->t2.mask=t.mask->(w.params.followText "set-order"=true \/ (t2.led=true/\t2.plain=true))->h'.get? S=some { o with data:=.set (insertAt es p (An knd k,Value.ref b)) (ep+1) t2 }->AC S s.heap h'->
    wpAny (model prog w) A (if (!false && t2.tooFull)=true then (setRelay S (SetTable.grown (es.size+1)) >>= fun _=>pure true) else pure true) Q E { s with heap:=h' }:=fun t2 h' T2 m2 oA hg ck=>by
   have T2':Tb t2 ((insertAt es p (An knd k,Value.ref b)).map (·.1)):=by rw[emap]; exact T2
   have fl:t2.fill=es.size+1:=by
    unfold SetTable.fill;rw[T2'.dum,T2'.size,Array.size_map,cq]
    rfl
   have tf:t2.tooFull=decide ((es.size+1)*5 ≥ t.mask*3):=by unfold SetTable.tooFull; rw[fl,m2]
   have lk:es.size+1=(ks++[k]).length:=by rw[Aq,hlen]; rfl
   have stay:((es.size+1)*5<t.mask*3)->((t2.mask=7/\es.size+1<=4) \/ (t2.mask=31/\es.size+1<=18) \/ (t2.mask=127/\es.size+1<=76) \/ (t2.mask=15/\es.size+1<=8) \/ (t2.mask=63/\es.size+1<=37) \/ (t2.mask=255/\es.size+1<=152))->wpAny (model prog w) A (if (!false && t2.tooFull)=true then (setRelay S (SetTable.grown (es.size+1)) >>= fun _=>pure true) else pure true) Q E { s with heap:=h' }:=fun q mk=>by
    rw[tf,decide_eq_false (by omega)];simp only[Bool.and_false,Ai,if_false];refine Ac (h true h' { o with data:=.set (insertAt es p (An knd k,Value.ref b)) (ep+1) t2 } (insertAt es p (An knd k,Value.ref b)) (ep+1) t2 ?_ ck);rw[if_neg gP];exact⟨hg,X.ex,rfl,T2',by rw[cq]; exact lk,jA,els h' ck,kes h' ck,by rw[cq]; exact mk,ads,oA⟩
   have grow:∀m3 n,es.size+1=n->((es.size+1)*5 ≥ t.mask*3)->SetTable.sizeAbove (SetTable.grown n) - 1=m3->SetTable.sizeAbove (SetTable.grown n)<=1000->Cov m3->m3 % 2=1->es.size+1<=m3->((m3=7/\es.size+1<=4) \/ (m3=31/\es.size+1<=18) \/ (m3=127/\es.size+1<=76) \/ (m3=15/\es.size+1<=8) \/ (m3=63/\es.size+1<=37) \/ (m3=255/\es.size+1<=152))->
     wpAny (model prog w) A (if (!false && t2.tooFull)=true then (setRelay S (SetTable.grown (es.size+1)) >>= fun _=>pure true) else pure true) Q E { s with heap:=h' }:=fun m3 n en q w1 w2 c1 c2 c3 mk=>by
    rw[tf,decide_eq_true q];simp only[Bool.not_false,Bool.and_self,if_true];subst en;refine Aa (zfU (s:={ s with heap:=h' }) (ks:=ks++[k]) hg X.ex rfl T2' (by rw[cq]; exact lk) jA ads (els h' ck) (kes h' ck) w1 (by rw[sizeLine_eq]; omega) c1 c2 (by rw[cq]; exact c3) (by rw[cq]; omega) (by rw[cq]; exact mk) oA fun fR kR fu fj kc uk lO=>?_);refine Ac (h true fR kR fu fj kc ?_ (ck.trans lO));rw[if_neg gP];exact uk
   rcases X.msk with ⟨a,c⟩ | ⟨a,c⟩ | ⟨a,c⟩ | ⟨a,c⟩ | ⟨a,c⟩ | ⟨a,c⟩
   ·by_cases q:es.size+1<=4
    ·exact stay (by omega) (.inl ⟨by omega,q⟩)
    ·exact grow 31 5 (by omega) (by omega) (by decide +kernel) (by decide +kernel) cov31 rfl (by omega) (.inr (.inl ⟨rfl,by omega⟩))
   ·by_cases q:es.size+1<=18
    ·exact stay (by omega) (.inr (.inl ⟨by omega,q⟩))
    ·exact grow 127 19 (by omega) (by omega) (by decide +kernel) (by decide +kernel) cov127 rfl (by omega) (.inr (.inr (.inl ⟨rfl,by omega⟩)))
   ·exact stay (by omega) (.inr (.inr (.inl ⟨by omega,by omega⟩)))
   ·by_cases q:es.size+1<=8
    ·exact stay (by omega) (.inr (.inr (.inr (.inl ⟨by omega,q⟩))))
    ·exact grow 63 9 (by omega) (by omega) (by decide +kernel) (by decide +kernel) cov63 rfl (by omega) (.inr (.inr (.inr (.inr (.inl ⟨rfl,by omega⟩)))))
   ·by_cases q:es.size+1<=37
    ·exact stay (by omega) (.inr (.inr (.inr (.inr (.inl ⟨by omega,q⟩)))))
    ·exact grow 255 38 (by omega) (by omega) (by decide +kernel) (by decide +kernel) cov255 rfl (by omega) (.inr (.inr (.inr (.inr (.inr ⟨rfl,by omega⟩)))))
   ·exact stay (by omega) (.inr (.inr (.inr (.inr (.inr ⟨by omega,by omega⟩)))))
  have wk1:w.params.followText "set-order"=true \/ (t1.led=true/\t1.plain=true):=by
   have e1:t1=(t.put (pos t.mask (An knd k) ne)).1:=by rw[jT]
   have e2:t1.led=t.led:=by rw[e1]; rfl
   have e3:t1.plain=t.plain:=by rw[e1]; rfl
   rw[e2,e3];exact X.wk
  cases hpl:t1.plain with
  | true=>
   simp only[if_true];refine Aa (zmX (s:=s) hv hk ?_);simp only[if_true];refine Aa (wpAny_mono (hst t1 p3 p2) (fun _ s' hs'=>?_) fun _ _ e=>e);obtain⟨h',rfl,g1,g2⟩:=hs';exact hlast t1 h' p3 p2 wk1 g1 g2
  | false=>
   simp only[Ai,if_false];refine Aa (Ac ?_);simp only[if_true];refine Aa (wpAny_mono (hst t1 p3 p2) (fun _ s' hs'=>?_) fun _ _ e=>e);obtain⟨h',rfl,g1,g2⟩:=hs';exact hlast t1 h' p3 p2 wk1 g1 g2
 ·have:t.mask<=255:=by rcases X.msk with ⟨a,_⟩ | ⟨a,_⟩ | ⟨a,_⟩ | ⟨a,_⟩ | ⟨a,_⟩ | ⟨a,_⟩ <;> omega
  unfold turns at hne;omega
def zmE {B:List Addr}{S:Addr}{o:Obj}{es:Array (Int×Value)}{ep:Nat}{t:SetTable}{ks:List (List K)} (X:TS knd s.heap S o es ep t ks B) (hu:A.units<cLine) (hv:∀k v n,knd.is k v=true->hashByValue n v=pure true)
  {k:List K} {b:Addr} (hk:AB knd s.heap k b) (i5:b∈B) (hn:ks.length<60) {Q:Bool->Shared->Prop}
  (h:∀(r:Bool) h' o' bg aX t',TS knd h' S o' bg aX t' (if k∈ks then ks else ks++[k]) B->AC S s.heap h'->Q r { s with heap:=h',toks:=s.toks+(k.length+1) }):wpAny (model prog w) A (setAdd S (.ref b)) Q E s:=by
 unfold setAdd;exact AM (Aa (wpAny_pyHash_tuple hu hk (zeM (s:={ s with toks:=s.toks+(k.length+1) }) X hu hv hk i5 hn h)))
end
end STb
end
section
namespace STb
def dd {α:Type} [DecidableEq α] (l:List α):List α:=l.foldl (fun acc x=>if x∈acc then acc else acc++[x]) []
def zas {α:Type} [DecidableEq α] (l:List α) (x:α):dd (l++[x])=if x∈dd l then dd l else dd l++[x]:=by unfold dd; rw[List.foldl_append]; rfl
def zaA {α:Type} [DecidableEq α] (l:List α):(dd l).length<=l.length:=by
 have:∀(l acc:List α),(l.foldl (fun acc x=>if x∈acc then acc else acc++[x]) acc).length<=acc.length+l.length:=by
  intro l
  induction l with
  | nil=>intro acc; simp
  | cons x l ih=>
   intro acc;rw[List.foldl_cons];refine AA (ih _) ?_;split
   ·rw[Ap]; omega
   ·rw[Aq,Ap,Ap,List.length_nil]; omega
 simpa[dd] using this l []
def za2 {α:Type} [DecidableEq α] (l:List α) (x:α):x∈dd l ↔ x∈l:=by
 have:∀(l acc:List α),x∈(l.foldl (fun acc x=>if x∈acc then acc else acc++[x]) acc) ↔ x∈acc \/ x∈l:=by
  intro l
  induction l with
  | nil=>intro acc; simp
  | cons y l ih=>
   intro acc;rw[List.foldl_cons,ih]
   by_cases h:y∈acc
   ·rw[if_pos h,List.mem_cons]
    constructor
    ·rintro (q | q)
     ·exact .inl q
     ·exact .inr (.inr q)
    ·rintro (q | q | q)
     ·exact .inl q
     ·subst q; exact .inl h
     ·exact .inr q
   ·rw[if_neg h,List.mem_append,List.mem_singleton,List.mem_cons]
    constructor
    ·rintro ((q | q) | q)
     ·exact .inl q
     ·exact .inr (.inl q)
     ·exact .inr (.inr q)
    ·rintro (q | q | q)
     ·exact .inl (.inl q)
     ·exact .inl (.inr q)
     ·exact .inr q
 simpa[dd] using this l []
def zaU {α:Type} [DecidableEq α] (l:List α):(dd l).Nodup:=by
 have:∀(l acc:List α),acc.Nodup->(l.foldl (fun acc x=>if x∈acc then acc else acc++[x]) acc).Nodup:=by
  intro l
  induction l with
  | nil=>intro acc h; exact h
  | cons y l ih=>
   intro acc h;rw[List.foldl_cons]
   by_cases q:y∈acc
   ·rw[if_pos q]; exact ih acc h
   ·rw[if_neg q]
    refine ih _ ?_;rw[List.nodup_append];refine⟨h,by simp,fun a ha b hb e=>?_⟩;rw[List.mem_singleton] at hb;subst hb; subst e; exact q ha
 exact this l [] List.nodup_nil
def zds {α:Type} [DecidableEq α] (l m:List α):(dd (l++m)).length<=(dd l).length+m.length:=by
 have:∀(m acc:List α),(m.foldl (fun acc x=>if x∈acc then acc else acc++[x]) acc).length<=acc.length+m.length:=by
  intro m
  induction m with
  | nil=>intro acc; simp
  | cons x l ih=>
   intro acc;rw[List.foldl_cons];refine AA (ih _) ?_;split
   ·rw[Ap]; omega
   ·rw[Aq,Ap,Ap,List.length_nil]; omega
 unfold dd;rw[List.foldl_append];exact this m _
def zjR {α:Type} [DecidableEq α] (l:List α) (h:∀(k:Nat) x,l[k]?=some x->x∉l.take k):dd l=l:=by
 have:∀k,k<=l.length->dd (l.take k)=l.take k:=by
  intro k
  induction k with
  | zero=>intro _; rfl
  | succ k ih=>
   intro hk;have hx:l[k]?=some l[k]:=Ah (by omega);rw[List.take_add_one,hx];show dd (l.take k++[l[k]])=_;rw[zas,ih (by omega),if_neg (h k _ hx)]
   rfl
 have q:=this l.length (Af _);rw[Av (Af _)] at q;exact q
def zjE {α:Type} [DecidableEq α] (l:List α) {k:Nat}{x:α} (h:l[k]?=some x) (hx:x∈l.take k):(dd l).length<l.length:=by
 have hk:k<l.length:=(List.getElem?_eq_some_iff.mp h).1;have e:l=(l.take k++[x])++l.drop (k+1):=by
  have:=List.take_append_drop (k+1) l;rw[List.take_add_one,h] at this;exact this.symm
 have h1:=zds (l.take k++[x]) (l.drop (k+1));rw[<- e,zas,if_pos ((za2 _ _).mpr hx)] at h1;have h2:=zaA (l.take k);rw[AJ] at h2;rw[List.length_drop] at h1;omega
def zmS {α:Type} [DecidableEq α] (l:List α):(dd l).length<l.length ↔ ∃(k:Nat) (x:α),l[k]?=some x/\x∈l.take k:=by
 constructor
 ·intro h
  apply Classical.byContradiction;intro n;have:=zjR l fun k x e hx=>n ⟨k,x,e,hx⟩;rw[this] at h;exact Nat.lt_irrefl _ h
 ·rintro⟨k,x,e,hx⟩
  exact zjE l e hx
end STb
end
section
set_option maxHeartbeats 3200000
namespace STb
open PySem PySem.SetTable PyProof.Rows
section
variable {prog:Program}{w:World}{K:Type} [DecidableEq K] {knd:KeyKind prog w K}{A:Around}{R:Result->Shared->Prop}{I:Addr}{fp wr:List Addr}{G:Array GenState->Array GenState->Prop}{n:Nat}{P:Nat->Value->Prop}{St:Nat->Shared->Prop}
def TS.moved {B:List Addr}{h h':Heap}{S:Addr}{o:Obj}{es:Array (Int×Value)}{ep:Nat}{t:SetTable}{ks:List (List K)} (X:TS knd h S o es ep t ks B) (hS:h'.get? S=some o) (hk:∀k b,AB knd h k b->AB knd h' k b):TS knd h' S o es ep t ks B:=
 ⟨hS,X.ex,X.dt,X.tb,X.sz,X.nd,fun e he=>let ⟨k,b,a1,a2,a3⟩:=X.el e he; ⟨k,b,a1,a2,hk k b a3⟩,fun k hk'=>let ⟨b,a1,a2⟩:=X.ke k hk'; ⟨b,a1,hk k b a2⟩,X.msk,X.ad,X.wk⟩
def zaw {h h':Heap}{k:List K}{b:Addr} (hk:AB knd h k b) (e:∀o,h.get? b=some o->h'.get? b=some o):AB knd h' k b:=by
 obtain⟨o,af,n,ho,r⟩:=hk;exact⟨o,af,n,e o ho,r⟩
def zi3 {B:List Addr} (W:WalksS prog w A.in1 I fp wr G n P St) (hu:A.in1.units<cLine) (hv:∀k v n,knd.is k v=true->hashByValue n v=pure true) (S:Addr) (hSf:S∉fp) (vals:List (List K)) (adr:Nat->Addr) (hn:vals.length=n) (hB:∀i,i<n->adr i∈B) (hz:n<=59)
  (mK:∀i v,P i v->v=.ref (adr i)) (hna:∀b o,(∃af m,o.cls=Value.type "tuple"/\o.data=.seq af m)->∀s i,St i s->s.heap.get? b=some o->b∉wr) :
  ∀(k i:Nat) (s:Shared),n - i=k->i<=n->St i s->(∃o es ep t,TS knd s.heap S o es ep t (dd (vals.take i)) B)->(∀(j:Nat) (x:List K),vals[j]?=some x->AB knd s.heap x (adr j))->
   (∀s',Moved (S::wr) G s s'->(∃o es ep t,TS knd s'.heap S o es ep t (dd vals) B)->R (.ok (.ret .none)) s')->codeAny (model prog w) A (.builtin "set.update.loop" ⟨[.ref S,.ref I],[]⟩) R s:=by
 have hSw:S∉wr:=fun h=>hSf (W.sub _ h);have aH:∀b∈wr,b∈S::wr:=fun b hb=>Aw _ hb;have dc:∀{i:Nat} {s s':Shared} {x:List K} {b:Addr},St i s->Moved wr G s s'->AB knd s.heap x b->AB knd s'.heap x b:=fun {i s s' x b} hst hm hk=>by
  obtain⟨o,af,m,ho,hc,hd,hi⟩:=id hk;exact⟨o,af,m,hm.heap b o (hna b o ⟨af,m,hc,hd⟩ s i hst ho) ho,hc,hd,hi⟩
 intro k
 induction k with
 | zero=>
  intro i s hk hi hst hS hT hR;have hin:i=n:=by omega
  subst hin;refine codeAny_builtin F.entry_set_update_loop ?_;rw[Around.under_plainId F.plain_set_update_loop _];show wpAny _ A.in1 (pyNext (.ref I) >>= _) _ _ s;refine Aa (W.done s _ _ hst fun s' hm=>?_);show wpAny _ A.in1 (ret Value.none) _ _ s';refine Ac (hR s' (hm.mono aH) ?_);obtain⟨o,es,ep,t,X⟩:=hS;rw[Av (by omega)] at X;exact⟨o,es,ep,t,X.moved (hm.heap S _ hSw X.at_) fun k b hk=>dc hst hm hk⟩
 | succ k ih=>
  intro i s hk hi hst hS hT hR;have hlt:i<n:=by omega
  refine codeAny_builtin F.entry_set_update_loop ?_;rw[Around.under_plainId F.plain_set_update_loop _];show wpAny _ A.in1 (pyNext (.ref I) >>= _) _ _ s;refine Aa (W.item i s _ _ hlt hst fun v s' hP lD hm=>?_);obtain rfl:=mK i v hP;obtain⟨o,es,ep,t,X⟩:=hS;have X':TS knd s'.heap S o es ep t (dd (vals.take i)) B:=X.moved (hm.heap S _ hSw X.at_) fun k b hk=>dc hst hm hk;have hx:vals[i]?=some vals[i]:=Ah (by omega);have hlen:=zaA (vals.take i);rw[AJ] at hlen;show wpAny _ A.in1 (holding [Value.ref (adr i)] (setAdd S (.ref (adr i))) >>= _) _ _ s';refine Aa (AM (zmE X' hu hv (dc hst hm (hT i _ hx)) (hB i hlt) (by omega) fun r h' o' bg aX t' X2 ck=>?_));have qB:s'.toks<=s'.toks+(vals[i].length+1):=Nat.le_add_right _ _;have d_:St (i+1) { s' with heap:=h',toks:=s'.toks+(vals[i].length+1) }:=W.frame _ s' _ _ lD qB fun b hb o2 e=>by
   rw[ck.2 b (fun h:b=S=>hSf (by rw[<- h]; exact hb))]; exact e
  have etake:vals.take (i+1)=vals.take i++[vals[i]]:=by rw[List.take_add_one,hx]; rfl
  have X3:TS knd h' S o' bg aX t' (dd (vals.take (i+1))) B:=by
   rw[etake,zas]
   by_cases q:vals[i]∈dd (vals.take i)
   ·rw[if_pos q] at X2 ⊢; exact X2
   ·rw[if_neg q] at X2 ⊢; exact X2
  refine Ac ⟨plainId_quiet F.plain_set_update_loop _,ih (i+1) _ (by omega) hlt d_ ⟨o',bg,aX,t',X3⟩ (fun j x hj=>zag (dc hst hm (hT j x hj)) X'.at_ X'.dt ck) fun dF lC lh=>?_⟩;refine hR dF (Moved.trans W.gtrans ((hm.mono aH).then_heap qB fun b o2 hb e=>?_) lC) lh;rw[ck.2 b (fun h:b=S=>hb (by rw[h]; exact Au))]; exact e
end
end STb
end
section
namespace STb
open PySem PySem.SetTable PyProof.Rows
section
variable {prog:Program}{w:World}{K:Type} [DecidableEq K] {knd:KeyKind prog w K}{A:Around}{E:Value->Shared->Prop}{s:Shared}
def ze3 (a:Value) {Q₁:Value->Shared->Prop} (h:Q₁ (.ref s.heap.objs.size) { s with heap:=s.heap.push { cls:=.type "set",dict:=none,data:=.set #[] 0 (.fresh 0 0 (!w.params.followText "set-order")) } }) :
  codeAny (model prog w) A (.call (.builtin "set.__new__") ⟨[.type "set",a],[]⟩) (wants Q₁ E) s:=by
 refine codeAny_of_tree (show wpAny _ A.in1 (do checkBuiltinCall "set.__new__" ⟨[.type "set",a],[]⟩; again (.builtin "set.__new__" ⟨[.type "set",a],[]⟩)) _ _ s from Aa (wpAny_of_eq (F.newCall_set_1 a) (Ac ⟨plainId_quiet F.plain_set_new _,codeAny_builtin F.entry_set_new ?_⟩)));rw[Around.under_plainId F.plain_set_new _]; unfold Builtin.«set.__new__» Builtin.Frozenset.newClass;have aH:=sub_set_self; obtain⟨hp,g,d,tk,os⟩:=s;dsimp only; wp_walk;refine wpAny_askSetting (Ac ?_); dsimp only; simp only[newObj];exact Aa (wpAny_alloc (Ac (Ac h)))
def zaN {B:List Addr}{l:Addr}{af:Array Value}{vals:List (List K)}{adr:Nat->Addr}{Q:Value->Shared->Prop}
  (hh:A.handled=none) (hl:s.heap.IsList l af) (hu:A.units+64<cLine) (hv:∀k v n,knd.is k v=true->hashByValue n v=pure true) (hz:af.size<=59) (hn:vals.length=af.size) (hB:∀i,i<af.size->adr i∈B)
  (aw:∀(i:Nat) v,af[i]?=some v->v=.ref (adr i)) (hT:∀(j:Nat) x,vals[j]?=some x->AB knd s.heap x (adr j))
  (h:∀h' tk,(∃o es ep t,TS knd h' s.heap.objs.size o es ep t (dd vals) B)->(∀b o,b<s.heap.objs.size->s.heap.get? b=some o->h'.get? b=some o)->Q (.ref s.heap.objs.size) { s with heap:=h',toks:=tk }) :
  wpAny (model prog w) A (call (.type "set") [.ref l]) Q E s:=by
 obtain⟨c,tl,fE⟩:=F.called_set.mro;have gn:=F.called_set.made;have aH:=F.called_set.sub;refine wpAny_call (codeAny_of_tree ?_);show wpAny _ _ (callAny (.type "set") _) _ _ _;refine Ac ⟨Code.quiet_builtin _ (by decide +kernel),codeAny_builtin F.entry_type_call ?_⟩;rw[Around.under_plain (weight_type_call_type "set" [.ref l] []) rfl];have h1:=F.called_set.notType;have h2:=F.called_set.canCreate;have l8:=F.typeCall_set_1 (.ref l)
 repeat (any_goals (first | assumption | wp_step))
 refine codeAny_mono (ze3 (.ref l) (E:=E) (Q₁:=fun obj am=>∃led:Bool,(w.params.followText "set-order"=true \/ led=true)/\obj=.ref s.heap.objs.size/\am={ s with heap:=s.heap.push { cls:=.type "set",dict:=none,data:=.set #[] 0 (.fresh 0 0 led) } }) ⟨_,by cases w.params.followText "set-order" <;> simp,rfl,rfl⟩) fun r am hr=>?_;cases r with
 | error e=>exact hr
 | ok fl=>
  cases fl with
  | ret obj=>
   obtain⟨led,du,rfl,rfl⟩:=hr;have hS:(s.heap.push { cls:=.type "set",dict:=none,data:=.set #[] 0 (.fresh 0 0 led) }).get? s.heap.objs.size=some { cls:=.type "set",dict:=none,data:=.set #[] 0 (.fresh 0 0 led) }:=Ak _ rfl;have iH:Shared.TypeIs { s with heap:=s.heap.push { cls:=.type "set",dict:=none,data:=.set #[] 0 (.fresh 0 0 led) } } (.ref s.heap.objs.size) "set":=⟨_,hS,rfl⟩;have pE:=F.called_set.init.lookup;have qu:=F.called_set.init.bind (.ref s.heap.objs.size)
   repeat (any_goals (first | assumption | wp_step))
   refine codeAny_mono (codeAny_call_builtin (R:=wants (fun r az=>r=.none/\∃h' tk,az={ s with heap:=h',toks:=tk }/\
     (∃o es ep t,TS knd h' s.heap.objs.size o es ep t (dd vals) B)/\
     (∀b o,b<s.heap.objs.size->s.heap.get? b=some o->h'.get? b=some o)) E) F.called_set.init.plain F.entry_set_init (check_set_init_1 iH ?_)) fun dP az aQ=>?_
   ·obtain⟨ol,iB,hcl,nl,gv⟩:=hl
    obtain⟨wq,iX,oD,hG⟩:=ol;simp only at hcl gv;subst hcl; subst gv;have mX:(s.heap.push { cls:=.type "set",dict:=none,data:=.set #[] 0 (.fresh 0 0 led) }).get? l=some { cls:=.type "list",dict:=iX,data:=.seq af nl,slots:=hG }:=Ae _ iB;have xz:=F.sub_list_set;have uq:=F.sub_list_frozenset;have hne:(Value.type "list" == Value.type "dict")=false:=by decide
    have hl1:(s.heap.push { cls:=.type "set",dict:=none,data:=.set #[] 0 (.fresh 0 0 led) }).IsList l af:=⟨_,mX,rfl,nl,rfl⟩;unfold Builtin.«set.__init__» noKeywords Builtin.Frozenset.updateFrom;generalize hPI:pyIter=PI
    wp_walk
    subst hPI;refine wpAny_pyIter_list hl1 ?_;refine Aa (wpAny_runValue ?_);have qj:l<s.heap.objs.size:=Aj iB;have tz:A.in1.in1.in1.handled=none:=by simp[hh]
    have hneI:l≠(s.heap.push { cls:=.type "set",dict:=none,data:=.set #[] 0 (.fresh 0 0 led) }).objs.size:=by
     rw[Heap.size_push]; exact As (Nat.lt_succ_of_lt qj)
    have hSf:s.heap.objs.size∉[(s.heap.push { cls:=.type "set",dict:=none,data:=.set #[] 0 (.fresh 0 0 led) }).objs.size,l]:=by
     rw[Heap.size_push]; simp only[List.mem_cons,List.mem_singleton,List.not_mem_nil,or_false,not_or];exact⟨As (Nat.lt_succ_self _),A1 qj⟩
    refine zi3 (knd:=knd) ((Walks.list tz _ l hneI af).toS) (by show A.units+1+1+1<cLine; omega) hv s.heap.objs.size hSf vals adr hn hB hz (fun i v q=>aw i v q) (fun b o ho s' i st e hb=>?hna)
     (af.size - 0) 0 _ (by omega) (AQ _) ⟨⟨_,Ak _ rfl,rfl,rfl⟩,(hl1.push _)⟩ ⟨{ cls:=.type "set",dict:=none,data:=.set #[] 0 (.fresh 0 0 led) },#[],0,.fresh 0 0 led,?hS0⟩ (fun j x hx=>zaw (hT j x hx) fun o e=>Ae _ (Ae _ e)) ?hR
    case hna=>
     obtain⟨⟨oi,e1,e2,_⟩,_⟩:=st;obtain⟨ah,m,hc,_⟩:=ho;simp only[List.mem_singleton] at hb;subst hb;have e3:=Al (e1.symm.trans e);rw[<- e3,e2] at hc;exact absurd hc (by decide)
    case hS0=>
     have hget:((s.heap.push { cls:=.type "set",dict:=none,data:=.set #[] 0 (.fresh 0 0 led) }).push { cls:=.type "list_iterator",data:=.fields #[.ref l,.int 0 0] }).get? s.heap.objs.size
      =some { cls:=.type "set",dict:=none,data:=.set #[] 0 (.fresh 0 0 led) }:=Ae _ hS
     exact⟨hget,⟨rfl,rfl,rfl⟩,rfl,(by simpa using zcX 0 0 led),rfl,List.nodup_nil,fun e he=>by simp at he,fun k hk=>by simp[dd] at hk,.inl ⟨rfl,AQ _⟩,(fun e he=>by simp at he),du.imp id fun z=>⟨z,rfl⟩⟩
    case hR=>
     intro s' hm dQ;obtain⟨h',g',d',md,nr⟩:=s';have eg:g'=s.gens:=hm.gens;have ed:d'=s.drawn:=hm.drawn;have eo:nr=s.os:=hm.os;subst eg; subst ed; subst eo;show wpAny _ _ _ _ _ _;refine Ac ?_;show wpAny _ _ (ret Value.none) _ _ _;refine Ac ⟨rfl,h',md,rfl,dQ,fun b o hb e=>?_⟩;have fc:b≠s.heap.objs.size:=As hb;have cO:b≠(s.heap.push { cls:=.type "set",dict:=none,data:=.set #[] 0 (.fresh 0 0 led) }).objs.size:=by
      rw[Heap.size_push]; exact As (Nat.lt_succ_of_lt hb)
     exact hm.heap b o (by simp only[List.mem_cons,List.mem_singleton,List.not_mem_nil,or_false,not_or]; exact⟨fc,cO⟩) (Ae _ (Ae _ e))
   ·cases dP with
    | error e=>exact aQ
    | ok fl₂=>
     cases fl₂ with
     | ret r=>
      obtain⟨rfl,h',tk,rfl,dQ,hk'⟩:=aQ
      repeat (any_goals (first | assumption | wp_step))
      exact h _ _ dQ hk'
     | _=>exact aQ.elim
  | _=>exact hr.elim
end
end STb
namespace L2
open PySem PySem.Spec PyProof.Rows
def SetN (D:Addr) (n:Nat):HO:=.ext fun h=>∃o es ep t,h.get? D=some o/\o.ExactSet/\o.data=.set es ep t/\t.fits es.size=true/\es.size=n/\n<=100
section
variable {X:Cx}
def zdt {prog:Program}{w:World}:∀(k:Int) (v:Value) (n:Nat),(intKind prog w).is k v=true->hashByValue n v=pure true:=by
 intro k v n h;obtain⟨t,rfl⟩:=Value.isInt_shape h;cases n <;> rfl
def zhw {prog:Program}{w:World}{h:Heap}{c:Addr}{cs:List Value}{qs:List Int} (hc:IsTup h c cs.toArray) (hi:IntsAre cs qs):AB (intKind prog w) h qs c:=by
 obtain⟨o,e,hcl,k,d⟩:=hc;refine⟨o,cs.toArray,k,e,hcl,d,?_⟩;have:∀{cs:List Value} {qs:List Int},IntsAre cs qs->ItemsAre (intKind prog w) qs cs:=by
  intro cs qs hi
  induction hi with
  | nil=>exact .nil
  | cons n t h ih=>exact .cons (by show Value.isInt n (.int n t)=true; simp[Value.isInt]) ih
 simpa using this hi
def zdL (hc:X.calm=true) (hu:X.A.units+64<cLine):zX X (.type "set") (fun xs H Q=>∃(l:Addr) (as:List Addr) (ae:List (List Int)),xs=[.ref l]/\SqL X.K H l (as.map V.ref)/\Tps H as ae/\ae.length<=59/\
  ∀D,H D=none->Q (.ref D) (upd H D (SetN D (STb.dd ae).length))):=by
 intro aa s σ H xs us Q I r h;obtain⟨l,as,ae,rfl,hq,hp,hz,q⟩:=h;obtain⟨u,rfl,ru⟩:=vals1 r;cases ru;obtain⟨ah,r1,p1,_⟩:=I.list hq;obtain rfl:=vals_refs r1;have aG:=hp.length;refine STb.zaN (B:=as) (knd:=intKind X.prog X.w) (vals:=ae) (adr:=fun i=>as.getD i 0) (I.ok.hd hc) p1.isList hu zdt (by rw[Ag,Ab]; omega) (by rw[Ag,Ab]; omega) (fun i hi=>by rw[Ag,Ab] at hi; rw[AL,Ah hi]; exact List.getElem_mem hi)
  (fun i v e=>?_) (fun j x e=>?_) fun h' tk ⟨o,es,ep,t,T⟩ kk=>?_
 ·have e':(as.map Value.ref)[i]?=some v:=by simpa using e
  rw[Am] at e';cases ea:as[i]? with
  | none=>rw[ea] at e'; simp at e'
  | some a=>
   rw[ea] at e';rw[<- Al e',AL,ea]
   rfl
 ·have hj:j<as.length:=by rw[aG]; exact (List.getElem?_eq_some_iff.mp e).1
  have ea:as[j]?=some as[j]:=Ah hj;obtain⟨gC,e1,e2⟩:=hp.get ea;rw[e] at e1;obtain rfl:=Al e1;obtain⟨ah,r2,p2,_⟩:=I.tuple (SqT.of (K:=X.K) e2);rw[AL,ea];exact zhw p2 (intsAre_of r2)
 ·have hlen:=STb.zaA ae
  refine⟨.ref s.heap.objs.size,_,I.laid (o:=SetN s.heap.objs.size (STb.dd ae).length) (fun b u e=>kk b u (Aj e) e) (Af _) ?_,rfl,q _ (I.hok.fresh (Af _))⟩;refine⟨⟨o,es,ep,t,T.at_,T.ex,T.dt,STb.fits_of T.tb,T.sz,by omega⟩,⟨o,T.at_⟩,fun h1 h2 ⟨o',bg,aX,t',g1,g2⟩ kp=>⟨o',bg,aX,t',kp _ g1,g2⟩⟩
def zcO:zX X (.builtin "len") (fun xs H Q=>∃D n,xs=[.ref D]/\H D=some (SetN D n)/\Q (.int n) H):=by
 intro aa s σ H xs us Q I r h;obtain⟨D,n,rfl,hq,q⟩:=h;obtain⟨u,rfl,ru⟩:=vals1 r;cases ru;obtain⟨⟨o,es,ep,t,h1,h2,h3,h4,h5,h6⟩,_⟩:=(show zx X.prog X.w H s.heap D (SetN D n) from I.hok D _ hq);exact call_len_set h1 h2 h3 h4 (by omega) ⟨.int n,H,I.tok _,⟨_,by rw[h5]⟩,q⟩
end
end L2
end
section
namespace Spl
open PySem PySem.Spec PySem.Builtin PySem.Builtin.Str PyProof.Rows
section
variable {prog:Program}{w:World}{A:Around}{E:Value->Shared->Prop}{s:Shared}{x y:PySem.Str}{t u:Tok}{Q:Value->Shared->Prop}
def split1 (hy:(y.length == 0)=false)
  (h:∀(l:List (PySem.Str×Tok)) k,l.map (·.1)=Txt.split x y->Q (.ref s.heap.objs.size) { s with heap:=s.heap.push { cls:=.type "list",data:=.seq (strValues l).toArray },toks:=k })
  (hsz:x.length+2<=sizeLine):wpAny (model prog w) A (call (.builtin "str.split") [.str x t,.str y u]) Q E s:=by
 have hn:(partsBetween x (occurrences x y 0 x.length (x.length+1)) y.length).length<=sizeLine:=by
  have e1:=StrLaws.occ_length_le x y 0 x.length (x.length+1);rw[length_partsBetween]; omega
 cases h1:(decide (x.length<y.length) || decide (strKind x<strKind y))
 ·cases hf:(occurrences x y 0 x.length (x.length+1)).isEmpty
  ·refine call_meets F.slot_str_split (typeIs_str _ _ _) F.entry_str_split (F.args_str_split_2 _ _) (meets_str_split_sep x y t u h1 hy hf (by omega) hn) ?_
   show wants Q E _ { s with toks:=_,heap:=s.heap.push { cls:=.type "list",data:=.seq (strsFrom s.toks (partsBetween x (occurrences x y 0 x.length (x.length+1)) y.length)).toArray } };rw[strsFrom_eq];exact h (numbered s.toks _) _ ((numbered_texts _ _).trans ((if_neg (ne_true_of_eq_false h1)).trans (if_neg (ne_true_of_eq_false hf))).symm)
  ·exact call_meets F.slot_str_split (typeIs_str _ _ _) F.entry_str_split (F.args_str_split_2 _ _) (meets_str_split_not_found x y t u h1 hy hf)
    (h [(x,t)] s.toks ((if_neg (ne_true_of_eq_false h1)).trans (if_pos hf)).symm)
 ·exact call_meets F.slot_str_split (typeIs_str _ _ _) F.entry_str_split (F.args_str_split_2 _ _) (meets_str_split_cannot_occur x y t u h1)
   (h [(x,t)] s.toks (if_pos h1).symm)
end
end Spl
namespace L2
open PySem PySem.Spec PyProof.Rows
section
variable {X:Cx}
def zdI:∀(l:List (PySem.Str×Tok)),Vals ((l.map (·.1)).map V.str) (strValues l)
 | []=>.nil
 | p::l=>.cons ⟨p.2,rfl⟩ (zdI l)
def zm6:V->List V->Hp->VK->Prop:=fun x vs H Q=>∃z y,x=.str z/\vs=[.str y]/\(y.length == 0)=false/\z.length+2<=sizeLine/\(Txt.split z y).length<=sizeLine/\∀D,H D=none->Q (.ref D) (upd H D (.lst ((Txt.split z y).map V.str)))
def zfC:MtM X "str.split" zm6:=by
 intro aa s σ H x vs v us Q I rx rv h;obtain⟨z,y,rfl,rfl,hy,hz,hl,q⟩:=h;obtain⟨t,rfl⟩:=rx;obtain⟨u,rfl,ru⟩:=rv.one;obtain⟨t',rfl⟩:=ru;refine Spl.split1 hy (fun l k e=>?_) hz;refine⟨.ref s.heap.objs.size,_,I.laid (t':=k) (o:=.lst ((Txt.split z y).map V.str)) (fun b ob q=>Ae _ q) (Af _) ?_,rfl,q _ (I.hok.fresh (Af _))⟩;refine⟨by rw[Ab]; exact hl,strValues l,0,?_,Ak _ rfl⟩;rw[<- e];exact zdI l
def Its (x:PySem.Str):It:=⟨fun i _=>i<x.cps.size,fun i H v H'=>H'=H/\∃c,x.cps[i]?=some c/\v=.str ⟨#[c]⟩,fun i _=>i=x.cps.size⟩
def zfi {P:Program}{w:World}{K:Ad}{tg:Expr} (x:PySem.Str) (it:Addr) (T:String) (hn:["enumerate","zip","dict_itemiterator","dict_reverseitemiterator","odict_iterator","itertools.zip_longest","itertools.pairwise"].contains T=false) (t:Tok)
  (W:∀A':Around,A'.handled=none->Walks P w A' it [it] [it] x.cps.size (SignAt x) (fun i h=>h.IsStrIter it T x t i))
  (t7:∀(A:Around) (i:Nat) (s:Shared) (Q:Value->Shared->Prop) (E:Value->Shared->Prop),s.heap.IsStrIter it T x t i->Q (.ref it) s->wpAny (model P w) A (pyIter (.ref it)) Q E s) :
  Turn P w K tg (Its x) [it] it (fun i h=>h.IsStrIter it T x t i) where
 mem:=by simp
 obj:=fun i h st b hb=>by
  have e:b=it:=by simpa using hb
  subst e;obtain⟨o,e,c,d⟩:=st;exact⟨o,e,fun v z=>by rw[d] at z; cases z⟩
 keep:=fun i h h' st k=>by
  obtain⟨o,e,c⟩:=st;exact⟨o,k it (by simp) o e,c⟩
 item:=by
  intro X hP hw hK hc i aa s σ H E I hf st hg;subst hP hw hK;obtain⟨f0,f1,f2,f3,f4,f5⟩:=hf it (by simp);refine (W X.A (I.ok.hd hc)).item i s _ _ hg st fun v h' tk hv ak kk=>?_;obtain⟨c,u,hx,rfl⟩:=hv;have I1:Inv X aa σ H { s with heap:=h',toks:=tk }:=I.turned (fun b o hb e=>kk b o (by simpa using hb) e) f0 f1 f3 f4 f5;obtain⟨o,e1,e2,e3⟩:=id ak;exact⟨_,rfl,zgn (s:={ s with heap:=h',toks:=tk }) e1 e2 e3 hn ⟨.str ⟨#[c]⟩,H,I1,⟨u,rfl⟩,⟨rfl,c,hx,rfl⟩,ak,fun b hb=>(hf b hb).1⟩⟩
 done:=by
  intro X hP hw hK hc i aa s σ H E I hf st hg;subst hP hw hK;obtain⟨f0,f1,f2,f3,f4,f5⟩:=hf it (by simp);have hi:i=x.cps.size:=hg;subst hi;exact (W X.A (I.ok.hd hc)).done s _ _ st fun h' tk kk=>⟨rfl,I.turned (fun b o hb e=>kk b o (by simpa using hb) e) f0 f1 f3 f4 f5⟩
 self:=t7
def iStr (te:TE):TI:=fun σ H R=>te σ H fun v H1=>∃x,v=.str x/\R (Its x) H1
def zkp {tg l:Expr}{tl:TE} (hl:PE X l tl):PI X tg l (iStr tl):=by
 intro aa s σ H R I h;refine thn (hl aa s σ H _ I h) fun v s1 ⟨x,H1,I1,r1,q1⟩=>?_;obtain⟨z,e,q⟩:=q1;subst e;obtain⟨t,rfl⟩:=r1;have fin:∀(o:Obj),Inv X aa σ H1 { s1 with heap:=s1.heap.push o }:=fun o=>I1.kept (t':=s1.toks) fun b o e=>Ae _ e;have fp:∀b∈[s1.heap.objs.size],FpOk X aa H1 b:=fun b hb=>by
  have e:b=s1.heap.objs.size:=by simpa using hb
  subst e;exact I1.fpOk (Af _) (I1.hok.fresh (Af _))
 cases ha:z.cps.all (·<128)
 ·refine wpAny_pyIter_wide ha ?_
  exact⟨s1.heap.objs.size,[s1.heap.objs.size],_,_,H1,rfl,fin _,zfi z _ "str_iterator" (by decide) t (fun A' hA=>Walks.strWide hA _ z t) (fun A i s Q E st h=>wpAny_pyIter_striter_wide st h),⟨_,Ak _ rfl,rfl,rfl⟩,fp,q⟩
 ·refine wpAny_pyIter_ascii ha ?_
  exact⟨s1.heap.objs.size,[s1.heap.objs.size],_,_,H1,rfl,fin _,zfi z _ "str_ascii_iterator" (by decide) t (fun A' hA=>Walks.strAscii hA _ z t) (fun A i s Q E st h=>wpAny_pyIter_striter_ascii st h),⟨_,Ak _ rfl,rfl,rfl⟩,fp,q⟩
def zeW {g:TG}{tc:TT}{te:TE}{σ:St}{H1:Hp}{Q:VK}{D:Addr}{x:PySem.Str} (Pv:Nat->St->List V->Hp->Prop) (h0:Pv 0 σ [] (upd H1 D (.lst [])))
  (hs:∀i σ ys H c,x.cps[i]?=some c->i<x.cps.size->ys.length<=i->Pv i σ ys H->g (.str ⟨#[c]⟩) σ H fun av H4=>tc av H4 fun b H5=>if b=true then te av H5 (CPut x.cps.size Pv D i av) else CSkip x.cps.size Pv i av H5)
  (hd:∀σ ys H,Pv x.cps.size σ ys H->Q (.ref D) H):zaf (Its x) g tc te σ H1 D Q:=by
 refine zav x.cps.size Pv h0 (fun σ ys H p=>rfl) (fun i σ ys H hi p=>hi) (fun i σ ys H v H' hi hy p y=>?_) hd;obtain⟨e,c,hc,rfl⟩:=y;subst e;exact hs i σ ys _ c hc hi hy p
end
end L2
end
section
namespace K1
open STb
def subs (ps:List Int):List (List Int):=ps.foldl (fun aN x=>aN++aN.map (·++[x])) [[]]
def parts (ps:List Int):List (List Int):=(subs ps).drop 1
def zb2 (ps:List Int) (x:Int):subs (ps++[x])=subs ps++(subs ps).map (·++[x]):=by unfold subs; rw[List.foldl_append]; rfl
def zbU (ps:List Int):(subs ps).length=2 ^ ps.length:=by
 have:∀(ps:List Int) (acc:List (List Int)),(ps.foldl (fun aN x=>aN++aN.map (·++[x])) acc).length=acc.length*2 ^ ps.length:=by
  intro ps
  induction ps with
  | nil=>intro acc; simp
  | cons x ps ih=>
   intro acc;rw[List.foldl_cons,ih,Aq,Ab,Ap,Nat.pow_succ];rw[<- Nat.two_mul,Nat.mul_comm 2,Nat.mul_assoc,Nat.mul_comm 2]
 simpa[subs] using this ps [[]]
def zcl (ps:List Int):∃t,subs ps=[]::t/\∀q∈t,q≠[]:=by
 have:∀(ps:List Int) (acc:List (List Int)),(∃t,acc=[]::t/\∀q∈t,q≠[])->∃t,ps.foldl (fun aN x=>aN++aN.map (·++[x])) acc=[]::t/\∀q∈t,q≠[]:=by
  intro ps
  induction ps with
  | nil=>intro acc h; exact h
  | cons x ps ih=>
   rintro acc ⟨t,rfl,h⟩;rw[List.foldl_cons];refine ih _ ⟨t++([]::t).map (·++[x]),rfl,fun q hq=>?_⟩;rcases List.mem_append.mp hq with hq | hq
   ·exact h q hq
   ·obtain⟨r,_,rfl⟩:=List.mem_map.mp hq
    simp
 exact this ps [[]] ⟨[],rfl,fun q hq=>nomatch hq⟩
def zdx (ps:List Int):(subs ps).filter (fun q=>!decide (q=[]))=parts ps:=by
 obtain⟨t,e,h⟩:=zcl ps;unfold parts;rw[e];show List.filter _ ([]::t)=t;rw[List.filter_cons,if_neg (by simp)];exact List.filter_eq_self.mpr fun q hq=>by simp[h q hq]
def zao (ps:List Int):(parts ps).length=2 ^ ps.length - 1:=by unfold parts; rw[List.length_drop,zbU]
def zbz (ps:List Int):∀q∈subs ps,q.length<=ps.length:=by
 have:∀(ps:List Int) (acc:List (List Int)) (n:Nat),(∀q∈acc,q.length<=n)->∀q∈ps.foldl (fun aN x=>aN++aN.map (·++[x])) acc,q.length<=n+ps.length:=by
  intro ps
  induction ps with
  | nil=>intro acc n h q hq; simpa using h q hq
  | cons x ps ih=>
   intro acc n h q hq;rw[List.foldl_cons] at hq;have:=ih _ (n+1) (fun r hr=>by
    rcases List.mem_append.mp hr with hr | hr
    ·exact Nat.le_succ_of_le (h r hr)
    ·obtain⟨u,hu,rfl⟩:=List.mem_map.mp hr
     rw[Aq];exact Nat.succ_le_succ (h u hu)) q hq
   rw[Ap];omega
 intro q hq;have:=this ps [[]] 0 (fun r hr=>by simp at hr; subst hr; exact Af _) q hq;omega
def rises:List Int->Bool
 | a::b::r=>decide (a<b) && rises (b::r)
 | _=>true
def zdB:∀ps:List Int,((ps.zip (ps.drop 1)).map fun p=>decide (p.1<p.2)).all id=rises ps
 | []=>rfl
 | [_]=>rfl
 | a::b::r=>by
  have:=zdB (b::r);unfold rises;rw[<- this]
  rfl
def zdd:∀ps:List Int,rises ps=true ↔ ∀(i:Nat) a b,ps[i]?=some a->ps[i+1]?=some b->a<b
 | []=>by simp[rises]
 | [x]=>by simp[rises]
 | x::y::r=>by
  unfold rises;rw[AF,decide_eq_true_eq,zdd (y::r)];constructor
  ·rintro⟨h1,h2⟩ i a b ha hb
   cases i with
   | zero=>simp at ha hb; subst ha hb; exact h1
   | succ i=>exact h2 i a b (by simpa using ha) (by simpa using hb)
  ·intro h
   exact⟨h 0 x y rfl rfl,fun i a b ha hb=>h (i+1) a b (by simpa using ha) (by simpa using hb)⟩
def zfH (ps:List Int) (h:rises ps=true):∀(d i:Nat) a b,ps[i]?=some a->ps[i+d]?=some b->a<=b:=by
 intro d
 induction d with
 | zero=>intro i a b ha hb; rw[Nat.add_zero,ha] at hb; cases hb; exact Int.le_refl _
 | succ d ih=>
  intro i a b ha hb;have hl:i+(d+1)<ps.length:=(List.getElem?_eq_some_iff.mp hb).1;have hc:ps[i+d]?=some ps[i+d]:=Ah (by omega);have h1:=ih i a _ ha hc;have h2:=(zdd ps).mp h (i+d) _ b hc hb;omega
def zG (ps:List Int):Bool:=decide (1<=ps.length) && decide (ps.length<=5) && !(decide (ps.headD 0<0)) && !(decide (99<ps.getLastD 0)) && rises ps
def zax (ps:List Int):Bool:=decide (1<=ps.length) && decide (ps.length<=5) && ps.all (fun p=>decide (0<=p) && decide (p<=99)) && rises ps
def zfR (ps:List Int):zG ps=zax ps:=by
 unfold zG zax;cases ps with
 | nil=>rfl
 | cons x r=>
  by_cases hr:rises (x::r)=true
  ·rw[hr,Bool.and_true,Bool.and_true]
   by_cases h5:(x::r).length<=5
   ·have e1:(x::r).getLastD 0=(x::r)[(x::r).length - 1]:=by
     rw[List.getLastD_eq_getLast?,List.getLast?_eq_getElem?,Ah (by simp)]; rfl
    have key:(!(decide ((x::r).headD 0<0)) && !(decide (99<(x::r).getLastD 0)))=(x::r).all (fun p=>decide (0<=p) && decide (p<=99)):=by
     rw[Bool.eq_iff_iff];rw[AF,Bool.not_eq_true',Bool.not_eq_true',decide_eq_false_iff_not,decide_eq_false_iff_not,List.all_eq_true];constructor
     ·rintro⟨h0,h9⟩ p hp
      obtain⟨i,hi⟩:=List.mem_iff_getElem?.mp hp;have iw:i<(x::r).length:=(List.getElem?_eq_some_iff.mp hi).1;have g1:=zfH (x::r) hr i 0 x p rfl (by simpa using hi);have g2:=zfH (x::r) hr ((x::r).length - 1 - i) i p ((x::r)[(x::r).length - 1]) hi (by
       rw[show i+((x::r).length - 1 - i)=(x::r).length - 1 by omega];exact Ah (by simp))
      rw[e1] at h9;have yC:¬ x<0:=h0;simp only[AF,decide_eq_true_eq];constructor <;> omega
     ·intro h
      have g1:=h x Au;have g2:=h ((x::r)[(x::r).length - 1]) (List.getElem_mem _);rw[e1];simp only[AF,decide_eq_true_eq] at g1 g2;constructor
      ·show ¬ x<0; omega
      ·omega
    rw[<- key];simp only[Bool.and_assoc]
   ·rw[decide_eq_false h5]; simp
  ·have:rises (x::r)=false:=by simpa using hr
   rw[this,Bool.and_false,Bool.and_false]
def webM (ae:List (List Int)):Bool:=decide (ae.length<=20) && ae.all zG && !(decide ((dd ae).length<ae.length)) && decide ((dd (ae.flatMap parts)).length<=200)
def zkK (ae:List (List Int)) (k:Nat):Prop:=∀(i:Nat) ps,i<k->ae[i]?=some ps->ps∉ae.take i/\zax ps=true
def zj0 (ae:List (List Int)) (h:ae.length<=20) (hg:zkK ae ae.length):webM ae=decide ((dd (ae.flatMap parts)).length<=200):=by
 unfold webM;have h1:ae.all zG=true:=List.all_eq_true.mpr fun ps hp=>by
  obtain⟨i,hi⟩:=List.mem_iff_getElem?.mp hp;rw[zfR];exact (hg i ps (List.getElem?_eq_some_iff.mp hi).1 hi).2
 have h2:¬ (dd ae).length<ae.length:=fun z=>by
  obtain⟨k,x,e,hx⟩:=(zmS ae).mp z;exact (hg k x (List.getElem?_eq_some_iff.mp e).1 e).1 hx
 rw[decide_eq_true h,h1,decide_eq_false h2]
 rfl
def zjt (ae:List (List Int)) (h:¬ ae.length<=20):webM ae=false:=by unfold webM; rw[decide_eq_false h]; rfl
end K1
end
section
namespace L2
open PySem PySem.Spec PyProof.Rows
def capB (N N':List Str) (ar:List (Option Nat)) (scope:Scope):Bool:=decide (ar.length=N'.length) && (ar.zip N').all fun p=>match p.1 with
 | none=>true
 | some j=>decide (N[j]?=some p.2) && decide (scope.names.lookup p.2=some .free)
def zfQ {N N':List Str}{ar:List (Option Nat)}{scope:Scope} (h:capB N N' ar scope=true):zjy N N' ar scope:=by
 unfold capB at h;rw[AF,decide_eq_true_eq,List.all_eq_true] at h;refine⟨h.1,fun i j e=>?_⟩;have hi:i<ar.length:=(List.getElem?_eq_some_iff.mp e).1;have e2:N'[i]?=some N'[i]:=Ah (by rw[<- h.1]; exact hi);have:=h.2 (some j,N'[i]) (List.mem_iff_getElem?.mpr ⟨i,by rw[Srt.zipget,e,e2]; rfl⟩);simp only[AF,decide_eq_true_eq] at this;exact⟨N'[i],e2,this.1,this.2⟩
section
variable {X:Cx}{scope:Scope}{ar:List (Option Nat)}{tg iter bX:Expr}{bz:List Expr}{wi:TI}{g:TG}{tc:TT}{te:TE}{pos:Pos}
def zB (N N':List Str) (ar:List (Option Nat)) (hi:PI X tg iter wi) (hg:∀cl C s₀ H₀ ex,PG (cxC X scope N' cl C s₀ H₀ ex) tg g) (ht:∀cl C s₀ H₀ ex,PTL (cxC X scope N' cl C s₀ H₀ ex) bz tc) (he:∀cl C s₀ H₀ ex,PE (cxC X scope N' cl C s₀ H₀ ex) bX te)
  (hc:X.calm=true:=by rfl) (hk:scope.kind=.function:=by rfl) (aD:∀y∈scope.names,y.2≠.cell:=by decide +kernel) (aJ:∀y∈scope.names,y.2=.local->scope.names.lookup y.1=some .local:=by decide +kernel)
  (hfr:∀y∈scope.names,y.2=.free->X.env.kindOf y.1=some .cell \/ X.env.kindOf y.1=some .free) (hN:X.N=N:=by rfl) (bM:capB N N' ar scope=true:=by decide +kernel)
  (hs:∀x,foldedSetIterable iter X.env x=pure x:=by intro _; rfl):PE X (.ListComp bX [⟨tg,iter,bz,0⟩] scope pos) (tLC wi ar g tc te):=
 zkZ hc hk aD aJ hfr (zfQ (by rw[hN]; exact bM)) hi hg ht he hs
end
def nofr {env:Env}{scope:Scope} (h:scope.names.all (fun y=>decide (y.2≠.free))=true):∀y∈scope.names,y.2=.free->env.kindOf y.1=some .cell \/ env.kindOf y.1=some .free:=fun y hy e=>
 absurd e (of_decide_eq_true (List.all_eq_true.mp h y hy))
def frOf {env:Env}{scope:Scope} (sc:Scope) (h:scope.names.all (fun y=>decide (y.2≠.free) || decide (sc.names.lookup y.1=some .cell) || decide (sc.names.lookup y.1=some .free))=true) (vh:env.scope=sc:=by rfl):∀y∈scope.names,y.2=.free->env.kindOf y.1=some .cell \/ env.kindOf y.1=some .free:=fun y hy e=>by
 subst vh;have:=List.all_eq_true.mp h y hy;simp only[Bool.or_eq_true,decide_eq_true_eq] at this;rcases this with (q | q) | q
 ·exact absurd e q
 ·exact .inl q
 ·exact .inr q
def ndN (l:List Str) (h:l.Nodup:=by decide +kernel):l.Nodup:=h
def yes_ {te:TE}{σ:St}{H:Hp}{P:VK}{S:Hp->Prop} (h:te σ H P):tYes σ H fun b H5=>if b=true then te σ H5 P else S H5:=by
 show if true=true then te σ H P else S H;rw[if_pos rfl];exact h
def gyes {i:Nat}{v:V}{te:TE}{σ:St}{H:Hp}{P:St->VK}{S:St->Hp->Prop} (h:te (σ.set i (some v)) H (P (σ.set i (some v)))) :
  zZ i v σ H fun av H4=>tYes av H4 fun b H5=>if b=true then te av H5 (P av) else S av H5:=yes_ (S:=S (σ.set i (some v))) h
def zI {J:It}{g:TG}{tc:TT}{te:TE}{σ:St}{H1:Hp}{Q:VK}{D:Addr} (h:zaf J g tc te σ H1 D Q):zaf J g tc te σ H1 D Q:=h
end L2
namespace L2
open PySem PySem.Spec PyProof.Rows
def Paired.of_at {α β:Type}{R:α->β->Prop}:∀{l:List α}{m:List β},l.length=m.length->(∀(i:Nat) x y,l[i]?=some x->m[i]?=some y->R x y)->Paired R l m
 | [],[],_,_=>.nil
 | x::l,y::m,h,f=>.cons (f 0 x y rfl rfl) (Paired.of_at (by simpa using h) fun i a b h1 h2=>f (i+1) a b (by simpa using h1) (by simpa using h2))
 | [],_::_,h,_=>by simp at h
 | _::_,[],h,_=>by simp at h
end L2
end
section
namespace HT
open PySem PyProof.Rows
section
variable {prog:Program}{w:World}{A:Around}{E:Value->Shared->Prop}{s:Shared}
def za9 {t sl:Addr}{af:Array Value}{vl vu:Value}{lo hi:Option Int}{Q:Value->Shared->Prop} (ht:IsTup s.heap t af) (hs:s.heap.IsSliceOf sl vl vu .none) (pl:IsPart vl lo) (pu:IsPart vu hi)
  (hw:sIx af.size 0 lo=0/\sIx af.size af.size hi=af.size)
  (h:Q (.ref t) s):wpAny (model prog w) A (getItem (.ref t) (.ref sl)) Q E s:=by
 obtain⟨os,gH,eY,dq⟩:=id hs;have nX:s.TypeIs (.ref sl) "slice":=⟨os,gH,eY⟩;obtain⟨ot,yL,l8,nt,xI⟩:=id ht;unfold getItem
 try with_reducible refine AM ?_
 first | refine Aa (Ac ?_) | skip
 refine Aa (wpAny_sequenceKey ht.typeIs (by decide) ?_);refine Aa (AO (name:=A3 "__getitem__") ht.typeIs PyProof.Rows.slot_tuple_getitem
  (AV PyProof.Rows.slot_tuple_getitem ht.typeIs entry_tuple_getitem ?_ (args_tuple_getitem _ _)))
 show wpAny _ _ (Builtin.Tuple.tupleItemsOf (.ref t) >>= _) _ _ s;refine Aa (tupleItemsOf_ ht ?_);refine Aa (wpAny_typeOf nX ?_);rw[if_pos (by decide)];refine Aa (zay hs pl pu ?_);have lJ:((((sIx af.size 0 lo:Nat):Int) == 0 && (1:Int) == 1 && (sIx af.size af.size hi - sIx af.size 0 lo) == af.size)=true):=by
  rw[hw.1,hw.2]; simp
 show wpAny _ _ (if (((sIx af.size 0 lo:Nat):Int) == 0 && (1:Int) == 1 && (sIx af.size af.size hi - sIx af.size 0 lo) == af.size)=true then _ else _) _ _ s;rw[if_pos lJ];refine Aa ?_;unfold Builtin.Tuple.tupleIsExact;refine Aa (wpAny_typeOf ht.typeIs (Ac ?_));rw[if_pos (by decide)];refine Aa (wpAny_rule ?_);exact Ac ⟨_,rfl,Ac h⟩
end
end HT
namespace L2
open PySem PySem.Spec PyProof.Rows
section
variable {X:Cx}
def rSlA:V->Option Int->Option Int->Hp->VK->Prop:=fun x lo hi H Q=>∃a xs,x=.ref a/\H a=some (.tup xs)/\∀p H',Same H H'->H' p=some (.tup (cutV xs lo hi))->Q (.ref p) H'
def zhG:SlR X rSlA:=by
 intro aa s σ H x v vl vu lo hi sl Q I rx hs pl pu h;obtain⟨a,xs,rfl,hx,q⟩:=h
 by_cases hw:HT.sIx xs.length 0 lo=0/\HT.sIx xs.length xs.length hi=xs.length
 ·cases rx
  obtain⟨ah,r,ht,hz⟩:=I.tuple (SqT.of (K:=X.K) hx);have hlen:ah.toArray.size=xs.length:=by rw[Ag]; exact r.length.symm
  refine⟨"tuple",_,PyProof.Rows.slot_tuple_getitem.lookup,ht.typeIs,HT.za9 ht hs pl pu (by rw[hlen]; exact hw) ⟨.ref a,H,I,rfl,q a H (Same.refl H) ?_⟩⟩;rw[hx];unfold cutV;rw[hw.1,hw.2,List.drop_zero,Nat.sub_zero,Av (Af _)]
 ·exact zkj aa s σ H (.ref a) v vl vu lo hi sl Q I rx hs pl pu ⟨a,xs,rfl,SqT.of hx,hw,fun p hp=>q p _ (Same.new hp) upd_same⟩
end
end L2
end
section
namespace K19
open K1
open PySem L2
def top (i:Nat):Stmt:=PySem.Challenge.pw_seamwright_k19_chains_refused_ahead.main.body.getD i (.Pass ⟨0,0,0,0⟩)
abbrev zfJ:Stmt:=top 16
abbrev zct:Stmt:=top 17
abbrev sKey:Stmt:=top 19
abbrev zcG:Stmt:=top 20
abbrev sAll:Stmt:=top 21
abbrev zfn:Stmt:=top 25
structure Bt (mg:Str->Option Value):Prop where
 len:mg "len"=none
 all:mg "all"=none
 zip:mg "zip"=none
 sorted:mg "sorted"=none
 set:mg "set"=none
 list:mg "list"=none
 tuple:mg "tuple"=none
 range:mg "range"=none
 enumerate:mg "enumerate"=none
 int:mg "int"=none
 isinstance:mg "isinstance"=none
 reversed:mg "reversed"=none
 bool:mg "bool"=none
 dict:mg "dict"=none
def zau:AW "len"=some (.builtin "len"):=by decide +kernel
def zi5:AW "all"=some (.builtin "all"):=by decide +kernel
def znY:AW "zip"=some (.type "zip"):=by decide +kernel
def zcW:AW "sorted"=some (.builtin "sorted"):=by decide +kernel
def zjv:AW "set"=some (.type "set"):=by decide +kernel
def zan:AW "list"=some (.type "list"):=by decide +kernel
def zeg:AW "tuple"=some (.type "tuple"):=by decide +kernel
def zeN:AW "enumerate"=some (.type "enumerate"):=by decide +kernel
def znW:AW "int"=some (.type "int"):=by decide +kernel
def zbw:AW "isinstance"=some (.builtin "isinstance"):=by decide +kernel
def zbx:AW "dict"=some (.type "dict"):=by decide +kernel
def zb {n:Nat} (h:n<=100000):n<=sizeLine:=by rw[sizeLine_eq]; omega
def zR {n:Nat} (h:n<=100000):n<sizeLine:=by rw[sizeLine_eq]; omega
def zlj (x:Int) (r:List Int):atI ((x::r).map V.int) (-1)=some (.int ((x::r).getLastD 0)):=by
 obtain⟨q,z,e⟩:∃q z,x::r=q++[z]:=⟨(x::r).dropLast,(x::r).getLast (List.cons_ne_nil x r),(List.dropLast_concat_getLast (List.cons_ne_nil x r)).symm⟩;rw[e,Ar,List.getLastD_eq_getLast?,List.getLast?_append];exact zi6 _ _
def zcF {ps:List Int}{i:Nat}{x:V} (h:(ps.map V.int)[i]?=some x):∃p,ps[i]?=some p/\x=.int p:=by
 rw[Am] at h;cases e:ps[i]? with
 | none=>rw[e] at h; cases h
 | some p=>rw[e] at h; exact⟨p,rfl,(Al h).symm⟩
def zah {as:List Addr}{i:Nat}{x:V} (h:(as.map V.ref)[i]?=some x):∃a,as[i]?=some a/\x=.ref a:=by
 rw[Am] at h;cases e:as[i]? with
 | none=>rw[e] at h; cases h
 | some p=>rw[e] at h; exact⟨p,rfl,(Al h).symm⟩
def AY {α:Type}{l:List α}{i:Nat}{x:α} (h:l[i]?=some x):l.take (i+1)=l.take i++[x]:=by rw[List.take_add_one,h]; rfl
def take_all {α:Type} (l:List α):l.take l.length=l:=Av (Af _)
def cut1 (x:Int) (r:List Int):cutV ((x::r).map V.int) (some 1) none=r.map V.int:=by
 unfold cutV;have e:HT.sIx ((x::r).map V.int).length 0 (some 1)=1:=by
  have:=HT.zb1 ((x::r).map V.int).length 0 1;rw[show ((1:Nat):Int)=1 from rfl] at this;rw[this,Ab,Ap]; omega
 rw[e,HT.zbX];show List.take _ (r.map V.int)=_;rw[Av (by simp)]
section
variable {P:Program}{w:World}{K:Ad}{mg:Str->Option Value}{base:Heap}
def zgU:Sp:=fun vs H Q _=>∃a ps,vs=[.ref a]/\Tp H a ps/\∀H',Same H H'->Q (.bl (zG ps)) H'
def zlX:zi ["numbers"] ["numbers"] (zf zfJ):=⟨rfl,rfl,rfl,by decide +kernel,rfl,by decide +kernel,by decide +kernel⟩
def zjB {f:Addr}{fd:FuncData}{t5 ng:Tok} (F:Fun K "is_piece" "is_piece" zfJ f fd) (B:Bt mg) (m5:mg "MOST_POINTS"=some (.int 5 t5)) (mZ:mg "LAST_POINT"=some (.int 99 ng)) :
  FnOk P w K mg base CX0 1 f fd ["numbers"] zgU:=by
 refine F.ok zlX (fun vs H Q E h=>?_) (fun cdv A outer s H vs Q E hr h=>?_)
 ·obtain⟨a,ps,rfl,_⟩:=h; rfl
 ·obtain⟨a,ps,rfl,ha,k⟩:=h
  refine⟨_,za (zD (zaB (ze1 zgp zgp ze (zq zt rfl B.len zau (pa_cons (pv 0) pa_nil)) (zaQ rfl m5 (v:=.int 5) ⟨_,rfl⟩))) (zd (zl za8)) zn)
   (za (zD (PW.pt (znx (zp zgd (zaz zfc (pv 0) ze (fun _ _=>rfl)) ze (nomark _)) (zkn (zp zgW (zaz zfc (pv 0) (zlc zif ze) (fun _ _=>rfl)) (zaQ rfl mZ (v:=.int 99) ⟨_,rfl⟩) (nomark _))))) (zd (zl za8)) zn)
   (zd (zl (zq (zbT rfl) rfl B.all zi5 (pa_cons
    (zB ["numbers"] ["low","high"] [none,none] (zmQ rfl B.zip znY (pa_cons (pv 0) (pa_cons (zbP zkj (pv 0) (zcZ ze) zcU) pa_nil)))
     (fun cl C s₀ H₀ ex=>zhq rfl (zaT (zm (i:=0) (ndN ["low","high"]) rfl (Or.inl rfl)) (zaT (zm (i:=1) (ndN ["low","high"]) rfl (Or.inl rfl)) zeJ)))
     (fun cl C s₀ H₀ ex=>zM) (fun cl C s₀ H₀ ex=>zaL zgd (pv 0) (pv 1) (nomark _)) (hfr:=nofr (by decide +kernel)) (g:=gTup K 2 (zeo (zZ 0) (zeo (zZ 1) gNil)))) pa_nil))))),?_⟩
  have no:zG ps=false->Q (.bl false) H:=fun e=>by have:=k H (Same.refl H); rw[e] at this; exact this
  refine⟨_,rfl,a,_,rfl,.inr (SqT.of ha),_,_,rfl,rfl,_,rfl,?_⟩;rw[Ab];refine ite2 (fun h1=>?_) (fun h1=>?_)
  ·refine⟨_,_,rfl,rfl,_,rfl,?_⟩
   have h1':1<=ps.length:=by have:=of_decide_eq_true h1; omega
   cases h5:decide ((ps.length:Int)<=5) with
   | false=>
    have h5':¬ ps.length<=5:=by have:=of_decide_eq_false h5; omega
    exact iteT (no (by unfold zG; rw[decide_eq_false h5']; simp))
   | true=>
    have h5':ps.length<=5:=by have:=of_decide_eq_true h5; omega
    refine iteF ?_;obtain⟨x,r,rfl⟩:∃x r,ps=x::r:=by
     cases ps with
     | nil=>simp at h1'
     | cons x r=>exact⟨x,r,rfl⟩
    refine⟨_,rfl,a,_,_,_,rfl,rfl,SqT.of ha,zS (j:=0) rfl,_,_,rfl,rfl,_,rfl,?_⟩;refine ite2 (fun hx=>?_) (fun hx=>?_)
    ·refine iteT (no ?_)
     unfold zG;rw[show decide ((x::r).headD 0<0)=true from hx];simp
    ·refine⟨_,rfl,_,rfl,a,_,_,_,rfl,rfl,SqT.of ha,zlj x r,_,_,rfl,rfl,_,rfl,?_⟩
     cases hl:decide (99<(x::r).getLastD 0) with
     | true=>
      refine iteT (no ?_);unfold zG;rw[hl];simp
     | false=>
      refine iteF ?_;refine⟨_,rfl,_,rfl,_,rfl,a,_,rfl,SqT.of ha,?_,fun p hp=>?_⟩
      ·intro z
       have e:=HT.zb1 ((x::r).map V.int).length 0 1;rw[show ((1:Nat):Int)=1 from rfl,z.1,Ab,Ap] at e;omega
      ·rw[cut1]
       have s1:Same H (upd H p (.tup (r.map V.int))):=Same.new hp;refine⟨a,p,rfl,⟨_,SqT.of (s1.tp ha)⟩,⟨_,SqT.of upd_same⟩,fun D hD=>?_⟩;have hm:min ((x::r).map V.int).length (r.map V.int).length=r.length:=by simp
       refine zI (zjD (K:=K) (xs:=(x::r).map V.int) (ys:=r.map V.int) (fun i σ zs H3=>∃v1 v2,σ=[v1,v2]/\Same (upd H p (.tup (r.map V.int))) H3/\H3 D=some (.lst zs)/\zs=((((x::r).zip r).map fun q=>decide (q.1<q.2)).take i).map V.bl)
        ⟨none,none,rfl,Same.new hD,upd_same,rfl⟩ (fun i σ zs H3 ⟨_,_,_,sm,_⟩=>⟨SqT.of (sm.tp (s1.tp ha)),SqT.of (sm _ _ upd_same)⟩) ?_ ?_)
       ·rintro i σ zs H3 p' y1 y2 e1 e2 hi hz ⟨v1,v2,rfl,sm,aj,rfl⟩ cz
        obtain⟨q1,g1,rfl⟩:=zcF e1;obtain⟨q2,g2,rfl⟩:=zcF e2;refine⟨p',_,rfl,SqT.of upd_same,rfl,_,_,rfl,_,_,rfl,rfl,yes_ ?_⟩;refine⟨_,rfl,_,rfl,_,_,rfl,rfl,cput (AA (Nat.min_le_right _ _) (by rw[Ab]; exact zb (by simp at h5'; omega))) hi hz (by rw[zh (zg aj cz)]; exact aj) ⟨_,_,rfl,?_,upd_same,?_⟩⟩
        ·exact (sm.then (sm.free cz)).then hD
        ·have e3:(((x::r).zip r).map fun q=>decide (q.1<q.2))[i]?=some (decide (q1<q2)):=by
          rw[Am,Srt.zipget,g1,g2]; rfl
         rw[AY e3,Ar]; rfl
       ·rintro σ zs H3 ⟨v1,v2,rfl,sm,aj,rfl⟩
        refine⟨D,(((x::r).zip r).map fun q=>decide (q.1<q.2)),rfl,SqL.of ?_,?_⟩
        ·rw[aj,hm,Av (by simp)]
        ·have:=k H3 (s1.trans sm)
         have e4:=zdB (x::r);rw[show (x::r).drop 1=r from rfl] at e4;rw[e4];have e5:zG (x::r)=rises (x::r):=by
          unfold zG;rw[decide_eq_true h1',decide_eq_true h5',hl];rw[show decide ((x::r).headD 0<0)=false from by simpa using hx]
          rfl
         rw[e5] at this;exact this
  ·refine⟨_,rfl,iteT (no ?_)⟩
   have h1':¬ 1<=ps.length:=fun z=>h1 (decide_eq_true (by omega));unfold zG;rw[decide_eq_false h1']
   rfl
end
end K19
end
section
namespace K19
open K1
open PySem L2
section
variable {P:Program}{w:World}{K:Ad}{mg:Str->Option Value}{base:Heap}
def zdp:Sp:=fun vs H Q _=>∃a ps,vs=[.ref a]/\Tp H a ps/\ps.length<=5/\∀D as H',Same H H'->H D=none->H' D=some (.lst (as.map V.ref))->Tps H' as (parts ps)->Q (.ref D) H'
def zc6:zi ["piece","found","point"] ["piece"] (zf zct):=⟨rfl,rfl,rfl,by decide +kernel,rfl,by decide +kernel,by decide +kernel⟩
def pow5 {n:Nat} (h:n<=5):2 ^ n<=32:=by
 have:2 ^ n<=2 ^ 5:=Nat.pow_le_pow_right (by decide) h;exact this
def zcv {H2:Hp}{as:List Addr}{fs:List (List Int)}{q:Int}{D:Addr}{l:Addr}{Q:VK} (hl:H2 l=some (.lst (as.map V.ref))) (ht:Tps H2 as fs) (hz:as.length<=100) (v8:∀f∈fs,f.length<=100) (hD:H2 D=none)
  (k:∀bs H3,Same H2 H3->H3 D=some (.lst (bs.map V.ref))->Tps H3 bs (fs.map (·++[q]))->Q (.ref D) H3) :
  zaf (Itl K l) (zZ 0) tYes (tOp zlr (tVar 0) (tTup (zy (tVar 1) tNil))) [none,some (.int q)] H2 D Q:=by
 have aG:=ht.length;refine z0 (xs:=as.map V.ref) (fun j σ ys H3=>∃bs v,σ=[v,some (.int q)]/\Same H2 H3/\H3 D=some (.lst ys)/\ys=bs.map V.ref/\Tps H3 bs ((fs.take j).map (·++[q]))) ?_ ?_ ?_ ?_
 ·exact⟨[],none,rfl,Same.new hD,upd_same,rfl,.nil⟩
 ·rintro j σ ys H3 ⟨bs,v,rfl,sm,aj,rfl,hb⟩
  exact SqL.of (sm _ _ hl)
 ·rintro j σ ys H3 x hx hj hy ⟨bs,v,rfl,sm,aj,rfl,hb⟩
  obtain⟨a,ea,rfl⟩:=zah hx;obtain⟨f,ef,hf⟩:=ht.get ea;refine gyes ?_;refine⟨_,rfl,_,rfl,zb (by simp),fun t bW=>?_⟩;have jU:=sm.tp hf;have s1:Same H3 (upd H3 t (.tup [.int q])):=Same.new bW;refine⟨a,t,_,_,rfl,rfl,s1 _ _ jU,upd_same,?_,fun p H4 s2 hp=>?_⟩
  ·rw[Ab]
   exact zb (by have:=v8 f (At ef); simp; omega)
  ·have s3:Same H3 H4:=s1.trans s2
   refine cput (ys:=bs.map V.ref) (by rw[Ab]; exact zb (by omega)) hj hy (s3 _ _ aj) ⟨bs++[p],_,rfl,(sm.trans s3).then hD,upd_same,by rw[Ar]; rfl,?_⟩;rw[AY ef,Ar];have yr:p≠D:=zaX hp (s3 _ _ aj) (by intro z; cases z);have keep:∀c xs,H4 c=some (.tup xs)->upd H4 D (.lst (bs.map V.ref++[V.ref p])) c=some (.tup xs):=fun c xs e=>by
    rw[zh (zaX e (s3 _ _ aj) (by intro z; cases z))]; exact e
   refine Tps.snoc (Paired.mapP (s3.tps hb) fun c xs e=>keep c _ e) (keep p _ ?_);rw[hp,Ar]; rfl
 ·rintro σ ys H3 ⟨bs,v,rfl,sm,aj,rfl,hb⟩
  rw[Ab,aG,take_all] at hb;exact k bs H3 sm aj hb
def zjL {f:Addr}{fd:FuncData} (F:Fun K "parts_of" "parts_of" zct f fd):FnOk P w K mg base CX0 1 f fd ["piece"] zdp:=by
 refine F.ok zc6 (fun vs H Q E h=>?_) (fun cdv A outer s H vs Q E hr h=>?_)
 ·obtain⟨a,ps,rfl,_⟩:=h; rfl
 ·obtain⟨a,ps,rfl,ha,h5,k⟩:=h
  refine⟨_,za (zo (i:=1) zc6.nd rfl (Or.inl rfl) (zC (pa_cons (zU pa_nil) pa_nil)))
   (za (zaa AZ rfl (zeZ (pv 0)) (zm (i:=2) zc6.nd rfl (Or.inr rfl))
    (zd (zo (i:=1) zc6.nd rfl (Or.inl rfl) (zw zaj (pv 1) (zB ["piece","found","point"] ["part","point"] [none,some 2] (zL (pv 1)) (fun cl C s₀ H₀ ex=>zm (i:=0) (ndN ["part","point"]) rfl (Or.inl rfl)) (fun cl C s₀ H₀ ex=>zM)
     (fun cl C s₀ H₀ ex=>zw zev (pv 0) (zU (pa_cons (pv 1) pa_nil))) (hfr:=frOf (zf zct) (by decide +kernel)))))))
   (zd (zl (zbP zle (pv 1) (zcZ ze) zcU)))),?_⟩
  refine⟨zb (by simp),fun e he=>⟨zb (by simp),fun l hl=>?_⟩⟩;have s1:Same H (upd (upd H e (.tup [])) l (.lst [.ref e])):=(Same.new he).then ((Same.new he).free hl);have fM:e≠l:=zg (H:=upd H e (.tup [])) upd_same hl;refine⟨_,rfl,a,rfl,⟨_,SqT.of (s1 _ _ ha)⟩,ziL (K:=K) (a:=a) (xs:=ps.map V.int) (fun i σ H2=>∃l as v,σ=[some (.ref a),some (.ref l),v]/\Same H H2/\H l=none/\H2 l=some (.lst (as.map V.ref))/\Tps H2 as (subs (ps.take i)))
   ⟨l,[e],none,rfl,s1,(Same.new he).free hl,upd_same,.cons (by show upd _ _ _ e=_; rw[zh fM]; exact upd_same) .nil⟩ (fun i σ H2 _ ⟨_,_,_,_,sm,_⟩=>SqT.of (sm _ _ ha)) ?_ ?_⟩
  ·rintro i x σ H2 hx ⟨l,as,v,rfl,sm,lB,hl,ht⟩
   obtain⟨q,eq,rfl⟩:=zcF hx;have hi:i<ps.length:=(List.getElem?_eq_some_iff.mp eq).1;have aG:=ht.length;have hn:as.length<=32:=by
    rw[aG,zbU,AJ];exact pow5 (by omega)
   have hm:∀f∈subs (ps.take i),f.length<=100:=fun f hf=>by
    have:=zbz _ f hf;rw[AJ] at this;omega
   refine⟨_,rfl,_,rfl,l,rfl,⟨_,SqL.of hl⟩,fun D hD=>zI (zcv hl ht (by omega) hm hD fun bs H3 aE aj hb=>?_)⟩;have iK:=hb.length;rw[Ab] at iK;refine⟨l,D,_,_,rfl,rfl,aE _ _ hl,aj,by rw[Ab,Ab]; exact zb (by omega),fun l2 bO=>?_⟩;have jm:H l2=none:=(sm.trans aE).free bO;refine⟨l2,as++bs,_,rfl,(sm.trans aE).then jm,jm,by rw[upd_same,Ar],?_⟩;rw[AY eq,zb2];exact (Same.new bO).tps ((aE.tps ht).append hb)
  ·rintro σ H2 ⟨l,as,v,rfl,sm,lB,hl,ht⟩
   rw[Ab,take_all] at ht;refine⟨_,rfl,_,rfl,l,_,rfl,SqL.of hl,fun D hD=>?_⟩;have h0:H D=none:=sm.free hD;obtain⟨t,et,_⟩:=zcl ps;refine k D (as.drop 1) _ (sm.then h0) h0 ?_ ?_
   ·rw[upd_same]
    unfold cutV;have hl1:1<=as.length:=by rw[ht.length,et]; simp
    have e1:HT.sIx (as.map V.ref).length 0 (some 1)=1:=by
     have:=HT.zb1 (as.map V.ref).length 0 1;rw[show ((1:Nat):Int)=1 from rfl] at this;rw[this,Ab]; omega
    rw[e1,HT.zbX,<- List.map_drop,Av (by simp)]
   ·exact (Same.new hD).tps (ht.drop 1)
def znU:zi ["piece"] ["piece"] (zf sKey):=⟨rfl,rfl,rfl,by decide +kernel,rfl,by decide +kernel,by decide +kernel⟩
def zm4 {f:Addr}{fd:FuncData} (F:Fun K "order_key" "order_key" sKey f fd) (B:Bt mg):FnOk P w K mg base CX0 1 f fd ["piece"] zj2:=by
 refine F.ok znU (fun vs H Q E h=>?_) (fun cdv A outer s H vs Q E hr h=>?_)
 ·obtain⟨a,ps,rfl,_⟩:=h; rfl
 ·obtain⟨a,ps,rfl,ha,k⟩:=h
  refine⟨_,zd (zl (zU (pa_cons (zq zt rfl B.len zau (pa_cons (pv 0) pa_nil)) (pa_cons (pv 0) pa_nil)))),?_⟩;refine⟨_,rfl,a,_,rfl,.inr (SqT.of ha),_,rfl,zb (by simp),fun p hp=>?_⟩;rw[Ab];exact k p hp
def zeI (K:Ad):Sp:=fun vs H Q _=>∃l as ae,vs=[.ref l]/\SqL K H l (as.map V.ref)/\Tps H as ae/\ae.length<64/\
 ∀D H2 (qs:List (List Int×Addr)),Same H H2->H D=none->H2 D=some (.lst (qs.map fun q=>V.ref q.2))->qs.Perm (ae.zip as)->qs.Pairwise (fun a b=>HT.lexLt ((b.1.length:Int)::b.1) ((a.1.length:Int)::a.1)=false)->Q (.ref D) H2
def zld:zi ["some"] ["some"] (zf zcG):=⟨rfl,rfl,rfl,by decide +kernel,rfl,by decide +kernel,by decide +kernel⟩
def ze0 {f fk:Addr}{fd cE:FuncData} (F:Fun K "in_order" "in_order" zcG f fd) (B:Bt mg) (Fk:Fun K "order_key" "order_key" sKey fk cE) (bk:Binds K cE ["piece"] []) (mk:mg "order_key"=some (.ref fk)):FnOk P w K mg base CX0 4 f fd ["some"] (zeI K):=by
 have Gk:FnOk P w K mg base CX0 1 fk cE ["piece"] zj2:=zm4 Fk B;refine F.ok zld (fun vs H Q E h=>?_) (fun cdv A outer s H vs Q E hr h=>?_)
 ·obtain⟨l,as,ae,rfl,_⟩:=h; rfl
 ·obtain⟨l,as,ae,rfl,hl,ht,h64,k⟩:=h
  refine⟨_,zd (zl (zgj Gk hr bk rfl B.sorted zcW rfl mk (pa_cons (pv 0) pa_nil))),?_⟩;exact⟨_,rfl,l,as,ae,rfl,hl,ht,h64,k⟩
end
end K19
end
section
namespace K19
open K1
open PySem L2 STb
def Tps.upd {H:Hp}{d:Addr}{o o':HO}{as:List Addr}{ae:List (List Int)} (h:Tps H as ae) (hd:H d=some o') (hn:∀xs,o'≠.tup xs):Tps (L2.upd H d o) as ae:=
 Paired.mapP h fun a ps e=>by
  show L2.upd H d o a=_;rw[zh (zaX (show H a=some _ from e) hd fun z=>hn _ z.symm)]; exact e
def kvM (seq:List (List Int)):List (List Key×V):=(dd seq).map fun ps=>((ps.map Sum.inl:List Key),V.bl true)
def zh2 (seq:List (List Int)):(kvM seq).length<=seq.length:=by unfold kvM; rw[Ab]; exact zaA seq
def zig (seq:List (List Int)) (ps:List Int):putK (kvM seq) (ps.map Sum.inl) (.bl true)=kvM (seq++[ps]):=by
 unfold putK kvM;rw[zas];have ha:(((dd seq).map fun ps=>((ps.map Sum.inl:List Key),V.bl true)).any fun kv=>decide (kv.1=ps.map Sum.inl))=decide (ps∈dd seq):=by
  rw[List.any_map]
  by_cases h:ps∈dd seq
  ·rw[decide_eq_true h,List.any_eq_true]
   exact⟨ps,h,by simp⟩
  ·rw[decide_eq_false h,List.any_eq_false]
   intro q hq;simp only[Function.comp,decide_eq_true_eq,zar];rintro rfl;exact h hq
 rw[ha]
 by_cases h:ps∈dd seq
 ·rw[decide_eq_true h,if_pos rfl,if_pos h,Az]
  refine List.map_congr_left fun q hq=>?_;simp only[Function.comp];split <;> rfl
 ·rw[decide_eq_false h,if_neg (by simp),if_neg h,Ar]
  rfl
def zfa {H:Hp}{seq:List (List Int)}{bs:List Addr} (h:Paired (fun (p:List Key×V) b=>H b=some (.tup (p.1.map kV))) (kvM seq) bs):Tps H bs (dd seq):=by
 unfold kvM at h;generalize dd seq=l at h
 induction l generalizing bs with
 | nil=>cases h; exact .nil
 | cons x l ih=>
  rw[AH] at h;cases h with
  | cons r t=>
   refine .cons ?_ (ih t);show H _=_;rw[r,Az]
   rfl
def zcP (ae:List (List Int)) (h:∀ps∈ae,ps.length<=5):(ae.flatMap parts).length<=31*ae.length:=by
 induction ae with
 | nil=>simp
 | cons x l ih=>
  rw[List.flatMap_cons,Aq,zao,Ap];have:=ih fun ps hp=>h ps (Aw _ hp);have:=pow5 (h x Au);omega
def zdy {ae:List (List Int)}{i:Nat}{ps:List Int} (h:ae[i]?=some ps):(ae.take (i+1)).flatMap parts=(ae.take i).flatMap parts++parts ps:=by
 rw[AY h,List.flatMap_append]; simp
def Told (H H2:Hp) (ae:List (List Int)) (D:Addr) (qs:List (List Int×Addr)):Prop:=
 Same H H2/\H D=none/\H2 D=some (.lst (qs.map fun q=>V.ref q.2))/\(∀q∈qs,Tp H2 q.2 q.1)/\(qs.map (·.1)).Perm (dd (ae.flatMap parts))/\qs.Pairwise (fun a b=>HT.lexLt ((b.1.length:Int)::b.1) ((a.1.length:Int)::a.1)=false)
section
variable {P:Program}{w:World}{K:Ad}{mg:Str->Option Value}{base:Heap}
def zg4 (K:Ad):Sp:=fun vs H Q _=>∃l as ae,vs=[.ref l]/\SqL K H l (as.map V.ref)/\Tps H as ae/\(∀ps∈ae,ps.length<=5)/\ae.length<=20/\(dd (ae.flatMap parts)).length<64/\∀D H2 qs,Told H H2 ae D qs->Q (.ref D) H2
def ziZ:zi ["some","found","piece","part"] ["some"] (zf sAll):=⟨rfl,rfl,rfl,by decide +kernel,rfl,by decide +kernel,by decide +kernel⟩
def zkG {f fp fo fk:Addr}{fd ci bL cE:FuncData} (F:Fun K "all_parts" "all_parts" sAll f fd) (B:Bt mg)
  (Fp:Fun K "parts_of" "parts_of" zct fp ci) (bp:Binds K ci ["piece"] []) (mp:mg "parts_of"=some (.ref fp)) (Fo:Fun K "in_order" "in_order" zcG fo bL) (bo:Binds K bL ["some"] []) (mo:mg "in_order"=some (.ref fo))
  (Fk:Fun K "order_key" "order_key" sKey fk cE) (bk:Binds K cE ["piece"] []) (mk:mg "order_key"=some (.ref fk)):FnOk P w K mg base CX0 5 f fd ["some"] (zg4 K):=by
 have Gp:FnOk P w K mg base CX0 1 fp ci ["piece"] zdp:=zjL Fp;have Go:FnOk P w K mg base CX0 4 fo bL ["some"] (zeI K):=ze0 Fo B Fk bk mk;refine F.ok ziZ (fun vs H Q E h=>?_) (fun cdv A outer s H vs Q E hr h=>?_)
 ·obtain⟨l,as,ae,rfl,_⟩:=h; rfl
 ·obtain⟨l,as,ae,rfl,hl,ht,h5,cV,h64,k⟩:=h
  have hu:=zbE hr;have hr1:Room 1 _:=hr.mono (by decide);refine⟨_,za (zo (i:=1) ziZ.nd rfl (Or.inl rfl) zaR)
   (za (zaa AZ rfl (zL (pv 0)) (zm (i:=2) ziZ.nd rfl (Or.inl rfl))
    (zd (zaa AZ rfl (zL (zk Gp hr1 rfl mp Fp.kp bp .nil pass0 (pa_cons (pv 2) pa_nil))) (zm (i:=3) ziZ.nd rfl (Or.inl rfl))
     (zd (za3 hu (pv 1) (pv 3) za8 rfl)))))
   (zd (zl (zk Go hr rfl mo Fo.kp bo .nil pass0 (pa_cons (zj (zby rfl) rfl B.list zan (pa_cons (pv 1) pa_nil)) pa_nil))))),?_⟩
  intro d hd;have aG:=ht.length;refine⟨_,rfl,l,rfl,⟨_,(Same.new hd).seq hl⟩,zae (K:=K) (a:=l) (xs:=as.map V.ref) (fun i σ H2=>∃v v',σ=[some (.ref l),some (.ref d),v,v']/\Same H H2/\H2 d=some (.dT (kvM ((ae.take i).flatMap parts))))
   ⟨none,none,rfl,Same.new hd,upd_same⟩ (fun i σ H2 _ ⟨_,_,_,sm,_⟩=>sm.seq hl) ?_ ?_⟩
  ·rintro i x σ H2 hx ⟨v,v',rfl,sm,ax⟩
   obtain⟨a,ea,rfl⟩:=zah hx;obtain⟨ps,cj,cF⟩:=ht.get ea;have c6:=h5 ps (At cj);have hi:i<ae.length:=(List.getElem?_eq_some_iff.mp cj).1;refine⟨_,rfl,a,ps,rfl,sm.tp cF,c6,fun D cs H3 aE cG hD eY=>⟨D,rfl,⟨_,SqL.of hD⟩,?_⟩⟩;have kZ:=eY.length;have mq:D≠d:=zaX hD (aE _ _ ax) (by intro z; cases z);refine zae (K:=K) (a:=D) (xs:=cs.map V.ref) (fun j σ H4=>∃v',σ=[some (.ref l),some (.ref d),some (.ref a),v']/\Same H H4/\H4 D=some (.lst (cs.map V.ref))/\Tps H4 cs (parts ps)/\H4 d=some (.dT (kvM ((ae.take i).flatMap parts++(parts ps).take j))))
    ⟨_,rfl,sm.trans aE,hD,eY,by rw[List.take_zero,List.append_nil]; exact aE _ _ ax⟩ (fun j σ H4 _ ⟨_,_,_,q,_⟩=>SqL.of q) ?_ ?_
   ·rintro j x σ H4 hx ⟨v',rfl,aT,cu,cU,bK⟩
    obtain⟨c,ec,rfl⟩:=zah hx;obtain⟨f,ef,hf⟩:=cU.get ec;have hlen:(kvM ((ae.take i).flatMap parts++(parts ps).take j)).length<sizeLine:=by
     refine zR (AA (zh2 _) ?_);rw[Aq];have h1:=zcP (ae.take i) (fun q hq=>h5 q (List.mem_of_mem_take hq));have h2:=zao ps;have h3:=pow5 c6;rw[AJ] at h1 ⊢;omega
    refine⟨_,rfl,_,rfl,d,_,rfl,DPut.t (k:=f.map Sum.inl) bK (by rw[Az]; exact hf) hlen,⟨_,rfl,aT.then hd,?_,?_,?_⟩⟩
    ·rw[zh mq]; exact cu
    ·exact Tps.upd cU bK (by intro xs z; cases z)
    ·rw[upd_same,zig,List.append_assoc,<- AY ef]
   ·rintro σ H4 ⟨v',rfl,aT,cu,cU,bK⟩
    refine⟨_,_,rfl,aT,?_⟩;rw[Ab,kZ,take_all] at bK;rw[zdy cj];exact bK
  ·rintro σ H2 ⟨v,v',rfl,sm,ax⟩
   rw[Ab,aG,take_all] at ax;refine⟨_,rfl,d,_,rfl,ax,fun bs hb l2 bO=>?_⟩;have tb:=zfa hb;have iK:=tb.length;refine⟨l2,bs,dd (ae.flatMap parts),rfl,SqL.of upd_same,(Same.new bO).tps tb,h64,fun D H3 qs aE hD aj hp hs=>?_⟩;have gR:H l2=none:=sm.free bO;refine k D H3 qs ⟨(sm.then gR).trans aE,(sm.then gR).free hD,aj,fun q hq=>?_,?_,hs⟩
   ·obtain⟨m,em⟩:=List.mem_iff_getElem?.mp (hp.mem_iff.mp hq)
    rw[Srt.zipget] at em;cases e1:(dd (ae.flatMap parts))[m]? with
    | none=>rw[e1] at em; cases em
    | some f=>
     cases e2:bs[m]? with
     | none=>rw[e1,e2] at em; cases em
     | some b=>
      rw[e1,e2] at em;obtain rfl:(f,b)=q:=Al em;exact aE.tp ((Same.new bO).tp (zbe tb m b f e2 e1))
   ·have:=hp.map (·.1)
    rw[List.map_fst_zip (by omega)] at this;exact this
def zeF (K:Ad):Sp:=fun vs H Q _=>∃l as ae,vs=[.ref l]/\SqL K H l (as.map V.ref)/\Tps H as ae/\(ae.all zG=true->(dd (ae.flatMap parts)).length<64)/\∀H',Same H H'->Q (.bl (webM ae)) H'
def zk8:zi ["web"] ["web"] (zf zfn):=⟨rfl,rfl,rfl,by decide +kernel,rfl,by decide +kernel,by decide +kernel⟩
def zjH {f fi fa fp fo fk:Addr}{fd gF gz ci bL cE:FuncData}{t5 ng t20 nY:Tok} (F:Fun K "is_web" "is_web" zfn f fd) (B:Bt mg) (m5:mg "MOST_POINTS"=some (.int 5 t5)) (mZ:mg "LAST_POINT"=some (.int 99 ng))
  (mJ:mg "MOST_HANDED"=some (.int 20 t20)) (mG:mg "MOST_PIECES"=some (.int 200 nY))
  (Fi:Fun K "is_piece" "is_piece" zfJ fi gF) (bi:Binds K gF ["numbers"] []) (mi:mg "is_piece"=some (.ref fi))
  (Fa:Fun K "all_parts" "all_parts" sAll fa gz) (ba:Binds K gz ["some"] []) (ma:mg "all_parts"=some (.ref fa))
  (Fp:Fun K "parts_of" "parts_of" zct fp ci) (bp:Binds K ci ["piece"] []) (mp:mg "parts_of"=some (.ref fp)) (Fo:Fun K "in_order" "in_order" zcG fo bL) (bo:Binds K bL ["some"] []) (mo:mg "in_order"=some (.ref fo))
  (Fk:Fun K "order_key" "order_key" sKey fk cE) (bk:Binds K cE ["piece"] []) (mk:mg "order_key"=some (.ref fk)):FnOk P w K mg base CX0 6 f fd ["web"] (zeF K):=by
 have Gi:FnOk P w K mg base CX0 1 fi gF ["numbers"] zgU:=zjB Fi B m5 mZ;have Ga:FnOk P w K mg base CX0 5 fa gz ["some"] (zg4 K):=zkG Fa B Fp bp mp Fo bo mo Fk bk mk;refine F.ok zk8 (fun vs H Q E h=>?_) (fun cdv A outer s H vs Q E hr h=>?_)
 ·obtain⟨l,as,ae,rfl,_⟩:=h; rfl
 ·obtain⟨l,as,ae,rfl,hl,ht,h64,k⟩:=h
  have aS:=hr.units;have hr1:Room 1 _:=hr.mono (by decide);refine⟨_,za (zD (zp zgW (zq zt rfl B.len zau (pa_cons (pv 0) pa_nil)) (zaQ rfl mJ (v:=.int 20) ⟨_,rfl⟩) (nomark _)) (zd (zl za8)) zn)
   (za (zD (zaB (zaY (zq (zbT rfl) rfl B.all zi5 (pa_cons
    (zB ["web"] ["numbers"] [none] (zL (pv 0)) (fun cl C s₀ H₀ ex=>zm (i:=0) (ndN ["numbers"]) rfl (Or.inl rfl)) (fun cl C s₀ H₀ ex=>zM)
     (fun cl C s₀ H₀ ex=>zk Gi hr1 rfl mi Fi.kp bi .nil pass0 (pa_cons (pv 0) pa_nil)) (hfr:=nofr (by decide +kernel))) pa_nil)))) (zd (zl za8)) zn)
   (za (zD (zp zgd (zq zcO rfl B.len zau (pa_cons (zj (zdL rfl aS) rfl B.set zjv (pa_cons (pv 0) pa_nil)) pa_nil)) (zq zt rfl B.len zau (pa_cons (pv 0) pa_nil)) (nomark _)) (zd (zl za8)) zn)
   (zd (zl (zaL zgp (zq zt rfl B.len zau (pa_cons (zk Ga hr rfl ma Fa.kp ba .nil pass0 (pa_cons (pv 0) pa_nil)) pa_nil)) (zaQ rfl mG (v:=.int 200) ⟨_,rfl⟩) (nomark _)))))),?_⟩
  have aG:=ht.length;refine⟨_,rfl,l,_,rfl,.inl hl,_,_,rfl,rfl,_,rfl,?_⟩;rw[Ab];refine ite2 (fun h1=>?_) (fun h1=>?_)
  ·have:=k H (Same.refl H)
   rw[zjt ae (by have:=of_decide_eq_true h1; omega)] at this;exact this
  ·have cV:ae.length<=20:=by
    have:¬ ((20:Int)<as.length):=fun z=>h1 (decide_eq_true z);omega
   refine⟨_,rfl,l,rfl,⟨_,hl⟩,fun D hD=>zI (z0 (K:=K) (a:=l) (xs:=as.map V.ref) (fun i σ ys H3=>∃v,σ=[v]/\Same H H3/\H3 D=some (.lst ys)/\ys=((ae.map zG).take i).map V.bl)
    ⟨none,rfl,Same.new hD,upd_same,rfl⟩ (fun i σ ys H3 ⟨_,_,sm,_⟩=>sm.seq hl) ?_ ?_)⟩
   ·rintro i σ ys H3 x hx hi hy ⟨v,rfl,sm,aj,rfl⟩
    obtain⟨a,ea,rfl⟩:=zah hx;obtain⟨ps,cj,cF⟩:=ht.get ea;refine gyes ?_;refine⟨_,rfl,a,ps,rfl,sm.tp cF,fun H4 aT=>cput (by rw[Ab]; exact zb (by omega)) hi hy (aT _ _ aj) ⟨_,rfl,(sm.trans aT).then hD,upd_same,?_⟩⟩;have e:(ae.map zG)[i]?=some (zG ps):=by rw[Am,cj]; rfl
    rw[AY e,Ar]; rfl
   ·rintro σ ys H3 ⟨v,rfl,sm,aj,rfl⟩
    rw[Ab,aG,Av (by simp)] at aj;refine⟨D,ae.map zG,rfl,SqL.of aj,_,rfl,?_⟩;have mj:(ae.map zG).all id=ae.all zG:=by rw[List.all_map]; rfl
    rw[mj];cases hp:ae.all zG with
    | false=>
     refine iteT ?_;have:=k H3 sm;rw[show webM ae=false from by unfold webM; rw[hp]; simp] at this;exact this
    | true=>
     refine iteF ?_;refine⟨_,rfl,l,as,ae,rfl,sm.seq hl,sm.tps ht,by omega,fun S hS=>?_⟩;have sS:Same H (upd H3 S (SetN S (dd ae).length)):=sm.then (sm.free hS);refine⟨S,_,rfl,upd_same,_,rfl,l,_,rfl,.inl (sS.seq hl),_,_,rfl,rfl,_,rfl,?_⟩;rw[Ab,aG];refine ite2 (fun h2=>?_) (fun h2=>?_)
     ·have jy:(dd ae).length<ae.length:=by have:=of_decide_eq_true h2; omega
      have:=k _ sS;rw[show webM ae=false from by unfold webM; rw[decide_eq_true jy]; simp] at this;exact this
     ·have jy:¬ (dd ae).length<ae.length:=fun z=>h2 (decide_eq_true (by omega))
      refine⟨_,rfl,l,as,ae,rfl,sS.seq hl,sS.tps ht,fun ps cF=>?_,cV,h64 hp,fun D2 H4 qs ⟨aT,_,cu,_,bq,_⟩=>?_⟩
      ·have:=List.all_eq_true.mp hp ps cF
       unfold zG at this;simp only[AF,decide_eq_true_eq] at this;exact this.1.1.1.2
      ·refine⟨D2,_,rfl,.inl (SqL.of cu),_,_,rfl,rfl,?_⟩
       have hlen:(qs.map fun q=>V.ref q.2).length=(dd (ae.flatMap parts)).length:=by
        rw[Ab,<- bq.length_eq,Ab]
       rw[hlen];have:=k H4 (sS.trans aT);have e:webM ae=decide (((dd (ae.flatMap parts)).length:Int)<=200):=by
        unfold webM;rw[hp,decide_eq_true cV,decide_eq_false jy]
        by_cases q:(dd (ae.flatMap parts)).length<=200
        ·rw[decide_eq_true q,decide_eq_true (show ((dd (ae.flatMap parts)).length:Int)<=200 by omega)]; rfl
        ·rw[decide_eq_false q,decide_eq_false (show ¬ ((dd (ae.flatMap parts)).length:Int)<=200 by omega)]; rfl
       rw[e] at this;exact this
end
end K19
end
section
namespace L2
open PySem PySem.Spec PyProof.Rows
section
variable {X:Cx}
def vwO (v d:Addr):HO:=.ext fun h=>h.IsValuesView v d
end
end L2
end
section
namespace Dk
open PySem PySem.Spec PyProof.Rows
section
variable {prog:Program}{w:World}{A:Around}{E:Value->Shared->Prop}{s:Shared}{it d v:Addr}{i ep:Nat}{es:Array DictEntry}
def viter {Q:Value->Shared->Prop} (hv:s.heap.IsValuesView v d) (hm:IsD s.heap d es ep)
  (hQ:Q (.ref s.heap.objs.size) { s with heap:=s.heap.push { cls:=.type "dict_valueiterator",data:=.fields #[.ref d,.int 0 0,.int es.size 0,.int ep 0] } }):wpAny (model prog w) A (pyIter (.ref v)) Q E s:=by
 obtain⟨ov,lK,rj,lN⟩:=id hv;obtain⟨o,ho,hc,aO⟩:=id hm;refine wpAny_pyIter_slot hv.typeIs PySem.F.slot_dict_values_iter (AV PySem.F.slot_dict_values_iter hv.typeIs PySem.F.entry_dict_values_iter ?_ (PySem.F.args_dict_values_iter_1 _));unfold Builtin.«dict_values.__iter__»;refine Aa (Ac ?_);refine Aa ?_;unfold Builtin.Dict_items.dictOf;refine Aa (AN lK lN (x:=.ref d) rfl (Ac ?_));refine Aa ?_;unfold Builtin.Dict_items.newIterator;refine Aa (AR ho aO ?_);refine Aa (wpAny_dictEpoch ho aO ?_);have aW:Builtin.Dict_items.ownsTuple "dict_valueiterator"=false:=by decide
 simp only[aW,Ai,if_false];refine AI (Ac ⟨_,rfl,"dict_valueiterator",_,⟨_,Ak _ rfl,rfl⟩,PySem.F.slot_dict_valueiterator_next.lookup,?_⟩)
 simpa[rawInt] using hQ
def vitem {Q:Option Value->Shared->Prop} (aw:s.heap.IsValIter it d i es.size ep) (hm:IsD s.heap d es ep) (hx:i<es.size)
  (hQ:∀h',h'.IsValIter it d (i+1) es.size ep->AC it s.heap h'->Q (some es[i].val) { s with heap:=h' }):wpAny (model prog w) A (pyNext (.ref it)) Q E s:=by
 obtain⟨o,ho,hc,hd⟩:=id aw;obtain⟨od,cB,bJ,cn⟩:=id hm;unfold pyNext;refine Aa (wpAny_attempt (AO (name:=A3 "__next__") aw.typeIs PySem.F.slot_dict_valueiterator_next
  (AV PySem.F.slot_dict_valueiterator_next aw.typeIs PySem.F.entry_dict_valueiterator_next ?_ (PySem.F.args_dict_valueiterator_next_1 _))))
 refine Aa (Ac ?_);refine Aa ?_;refine Aa ?_
 first | refine Aa (wpAny_typeNameOfWhole_valiter aw.typeIs (Ac ?_)) | refine Aa (wpAny_typeNameOf_valiter aw.typeIs (Ac ?_))
 refine Aa (wpAny_fieldsOf ho hd ?_);have aW:Builtin.Dict_items.ownsTuple "dict_valueiterator"=false:=by decide
 simp only[aW,Ai,if_false];show wpAny _ _ (if (Value.ref d == Value.none)=true then _ else _) _ _ s;rw[if_neg (show ¬ ((Value.ref d == Value.none)=true) from Ao)];refine Aa (Ac ?_);refine Aa (AR cB cn ?_);rw[if_neg (by simp)];refine Aa (Ac ?_);refine Aa (wpAny_dictEpoch cB cn ?_);rw[if_neg (by simp)];refine Ac ?_;simp only[show ¬ ((i:Int)<0) from by omega,if_false,Int.toNat_natCast,Array.getElem?_eq_getElem hx];refine Aa ?_
 first | refine Aa (wpAny_typeNameOfWhole_valiter aw.typeIs (Ac ?_)) | refine Aa (wpAny_typeNameOf_valiter aw.typeIs (Ac ?_))
 refine Aa (wpAny_isOneOf_valiter aw.typeIs ?_);show wpAny _ _ (setField (.ref it) 1 (rawInt ((i:Int)+1)) >>= _) _ _ s;refine Aa (wpAny_setField ho hd (by simp) ?_);have cr:(s.heap.update it (Obj.mapFields (·.setIfInBounds 1 (rawInt ((i:Int)+1))))).IsValIter it d (i+1) es.size ep:=
  ⟨_,AU _ ho (Obj.isFreed_of_fields (Obj.data_mapFields hd _)),(Obj.cls_mapFields ..).trans hc,by rw[Obj.data_mapFields hd]; simp[rawInt]⟩
 refine Aa (AM ?_);refine Aa (wpAny_isOneOf_valiter (s:={ s with heap:=s.heap.update it (Obj.mapFields (·.setIfInBounds 1 (rawInt ((i:Int)+1)))) }) cr.typeIs ?_);refine Aa (wpAny_isOneOf_valiter (s:={ s with heap:=s.heap.update it (Obj.mapFields (·.setIfInBounds 1 (rawInt ((i:Int)+1)))) }) cr.typeIs ?_);show wpAny _ _ (pure es[i].val) _ _ _;exact Ac (Ac ⟨_,rfl,Ac (hQ _ cr (AG ..))⟩)
def vdone {Q:Option Value->Shared->Prop} (hh:A.handled=none) (aw:s.heap.IsValIter it d es.size es.size ep) (hm:IsD s.heap d es ep)
  (hQ:∀h',Heap.ExtBut it s.heap h'->Q none { s with heap:=h' }):wpAny (model prog w) A (pyNext (.ref it)) Q E s:=by
 obtain⟨o,ho,hc,hd⟩:=id aw;obtain⟨od,cB,bJ,cn⟩:=id hm;unfold pyNext;refine Aa (wpAny_attempt (AO (name:=A3 "__next__") aw.typeIs PySem.F.slot_dict_valueiterator_next
  (AV PySem.F.slot_dict_valueiterator_next aw.typeIs PySem.F.entry_dict_valueiterator_next ?_ (PySem.F.args_dict_valueiterator_next_1 _))))
 refine Aa (Ac ?_);refine Aa ?_;refine Aa ?_
 first | refine Aa (wpAny_typeNameOfWhole_valiter aw.typeIs (Ac ?_)) | refine Aa (wpAny_typeNameOf_valiter aw.typeIs (Ac ?_))
 refine Aa (wpAny_fieldsOf ho hd ?_);have aW:Builtin.Dict_items.ownsTuple "dict_valueiterator"=false:=by decide
 simp only[aW,Ai,if_false];show wpAny _ _ (if (Value.ref d == Value.none)=true then _ else _) _ _ s;rw[if_neg (show ¬ ((Value.ref d == Value.none)=true) from Ao)];refine Aa (Ac ?_);refine Aa (AR cB cn ?_);rw[if_neg (by simp)];refine Aa (Ac ?_);refine Aa (wpAny_dictEpoch cB cn ?_);rw[if_neg (by simp)];refine Ac ?_;simp only[show ¬ ((es.size:Int)<0) from by omega,if_false,Int.toNat_natCast,Array.getElem?_eq_none (Af es.size)];refine Aa ?_
 first | refine Aa (wpAny_typeNameOfWhole_valiter aw.typeIs (Ac ?_)) | refine Aa (wpAny_typeNameOf_valiter aw.typeIs (Ac ?_))
 show wpAny _ _ (setField (.ref it) 0 .none >>= _) _ _ s;refine Aa (wpAny_setField ho hd (by simp) ?_);show wpAny _ _ (newExc (.type "StopIteration") [] >>= _) _ _ _;refine Aa ?_;simp only[newExc,newTuple];refine Aa (AI ?_ (by size_fits));refine Aa (m:=firstArgMember _ _) (wpAny_of_eq (a:=Value.none) (by first | rfl | (simp only[firstArgMember]; rfl)) ?_);refine AI ?_ (by size_fits);simp only[raiseNew];refine Aa (wpAny_handled ?_);rw[show A.in1.handled=none from hh];refine Aa (Ac (wpAny_throw ?_));refine Aa (wpAny_isInstance (T:="StopIteration") (b:=true) ⟨_,Ak _ rfl,rfl⟩ isSubtype_stop ?_);exact Ac (hQ _ (((AG ..).extBut.push _).push _))
end
end Dk
namespace L2
open PySem PySem.Spec PyProof.Rows
section
variable {X:Cx}
def zad (hc:X.calm=true):zX X (.type "list") (fun xs H Q=>∃a kvs,xs=[.ref a]/\Rd H a (.dT kvs)/\
  ∀(bs:List Addr),Paired (fun (p:List Key×V) b=>H b=some (.tup (p.1.map kV))) kvs bs->∀l,H l=none->Q (.ref l) (upd H l (.lst (bs.map V.ref)))):=by
 intro aa s σ H xs us Q I r h;obtain⟨a,kvs,rfl,hq,q⟩:=h;obtain⟨u,rfl,ru⟩:=vals1 r;cases ru;obtain⟨z,y,ys,rel,o,es,ep,h1,h2,h3,h4,h5⟩:=(show zx X.prog X.w H s.heap a (.dT kvs) from hq.ok I.hok);have hl:es.size=kvs.length:=by
  have:=congrArg List.length h4;rw[Ab,<- AX rel] at this
  simpa using this
 refine PySem.W.kdl_call (Dk.src (ep:=ep) (es:=es) y) (I.ok.hd hc) ⟨o,h1,h2,h3⟩ (by rw[hl]; exact z) fun h' tk acc c' kk e it=>?_;obtain⟨n1,n2⟩:=it;have pb:Paired (fun (p:List Key×V) b=>H b=some (.tup (p.1.map kV))) kvs (ys.map (·.2.1)):=by
  have:∀{l:List (List Key×V)} {m:List (List Key×Addr×Value)},KT H l m->Paired (fun (p:List Key×V) b=>H b=some (.tup (p.1.map kV))) l (m.map (·.2.1)):=by
   intro l m q
   induction q with
   | nil=>exact .nil
   | cons hq t ih=>exact .cons hq.2.1 ih
  exact this rel
 have ea:acc.toList=(ys.map (·.2.1)).map Value.ref:=by
  apply List.ext_getElem?;intro i;have hy:ys.length=acc.size:=by rw[n1,hl]; exact (AX rel).symm
  by_cases hi:i<acc.size
  ·obtain⟨e',g1,g2⟩:=n2 i acc[i] (by simp[hi])
   have g3:es.toList[i]?=some e':=by simpa using g1
   rw[h4,Am] at g3;have g4:ys[i]?=some ys[i]:=by simp[hy,hi]
   rw[g4] at g3;simp only[Option.map_some,Option.some.injEq] at g3;simp only[Am,g4,Option.map_some,AK,Array.getElem?_eq_getElem hi];rw[g2,<- g3]
   rfl
  ·have g1:acc.toList.length<=i:=by simp; omega
   have g2:((ys.map (·.2.1)).map Value.ref).length<=i:=by simp[hy]; omega
   rw[List.getElem?_eq_none g1,List.getElem?_eq_none g2]
 have vv:Vals ((ys.map (·.2.1)).map V.ref) acc.toList:=by
  rw[ea];generalize ys.map (·.2.1)=bs
  induction bs with
  | nil=>exact .nil
  | cons b bs ih=>exact .cons rfl ih
 refine⟨.ref s.heap.objs.size,_,I.laid kk (Af _) (show zx X.prog X.w _ h' _ (.lst ((ys.map (·.2.1)).map V.ref)) from ⟨?_,acc.toList,c',vv,by simpa using e⟩),rfl,q _ pb _ (I.hok.fresh (Af _))⟩;simp only[Ab];rw[<- AX rel];exact z
def zki:V->List V->Hp->VK->Prop:=fun x vs H Q=>∃d kvs,x=.ref d/\vs=[]/\Rd H d (.dT kvs)/\∀v,H v=none->Q (.ref v) (upd H v (vwO v d))
def mt_valsT:MtR X "dict.values" zki:=by
 intro aa s σ H x vs v us Q I rx rv h;obtain⟨d,kvs,rfl,rfl,hd,q⟩:=h;cases rx;obtain rfl:=rv.zero;obtain⟨z,hs,ys,rel,o,es,ep,h1,h2,h3,h4,h5⟩:=(show zx X.prog X.w H s.heap d (.dT kvs) from hd.ok I.hok);have hT:s.TypeIs (.ref d) "dict":=⟨o,h1,h2.1⟩;have mm:MeetsIn X.prog X.w (Builtin.«dict.values» ⟨[.ref d],[]⟩) (fun _ R s=>s.TypeIs (.ref d) "dict"/\R (.ok (.ret (.ref s.heap.objs.size))) { s with heap:=s.heap.push { cls:=.type "dict_values",data:=.fields #[.ref d] } }):=
  .of_wp fun A R s ⟨hT,h⟩=>by
   refine Aa ?_;unfold Builtin.Dict.noArgs;refine Aa (wpAny_notOrdered_dict hT ?_);show wpAny _ _ (pure d) _ _ s;refine Ac ?_;show wpAny _ _ (Builtin.Dict.showsAll d >>= _) _ _ s;unfold Builtin.Dict.showsAll;rw[if_neg (by rw[hs]; exact Ao)];refine Aa (Ac ?_);exact Aa (AI (Ac ⟨_,rfl,h⟩))
 refine call_meetsIn PySem.F.slot_dict_values hT PySem.F.entry_dict_values (PySem.F.args_dict_values_1 _) mm ⟨hT,?_⟩;refine⟨.ref s.heap.objs.size,_,I.laid (t':=s.toks) (o:=vwO s.heap.objs.size d) (fun b ob q=>Ae _ q) (Af _) ?_,rfl,q _ (I.hok.fresh (Af _))⟩;refine⟨⟨_,Ak _ rfl,rfl,rfl⟩,⟨_,Ak _ rfl⟩,fun h1 h2 p k=>?_⟩;obtain⟨o,ho,c⟩:=p;exact⟨o,k o ho,c⟩
def Itv (d:Addr) (o:Obj) (kvs:List (List Key×V)):It:=⟨fun i H=>i<kvs.length/\H d=some (.frz o (.dT kvs)),fun i H v H'=>H'=H/\∃kv,kvs[i]?=some kv/\v=kv.2,fun i H=>i=kvs.length/\H d=some (.frz o (.dT kvs))⟩
def zf7 {P:Program}{w:World}{K:Ad}{tg:Expr} (d it:Addr) {o:Obj}{kvs:List (List Key×V)}{es:Array DictEntry}{ep:Nat} (hx:o.ExactDict) (aO:o.data=.dict es ep) (hsz:es.size=kvs.length)
  (hk:∀(i:Nat) kv (hi:i<es.size),kvs[i]?=some kv->RelV kv.2 es[i].val):Turn P w K tg (Itv d o kvs) [it] it (fun i h=>h.IsValIter it d i es.size ep) where
 mem:=by simp
 obj:=fun i h st b hb=>by
  have e:b=it:=by simpa using hb
  subst e;obtain⟨o,e,c,dd⟩:=st;exact⟨o,e,fun v z=>by rw[dd] at z; cases z⟩
 keep:=fun i h h' st k=>by
  obtain⟨o,e,c⟩:=st;exact⟨o,k it (by simp) o e,c⟩
 item:=by
  intro X hP hw hK hc i aa s σ H E I hf st hg;subst hP hw hK;obtain⟨f0,f1,f2,f3,f4,f5⟩:=hf it (by simp);obtain⟨hi,hH⟩:=hg;have hm:Dk.IsD s.heap d es ep:=⟨o,(show zx X.prog X.w H s.heap d (.frz o (.dT kvs)) from I.hok d _ hH).1,hx,aO⟩;have hi':i<es.size:=by rw[hsz]; exact hi
  refine Dk.vitem st hm hi' fun h' ak sb=>?_;have I1:Inv X aa σ H { s with heap:=h' }:=I.turned (t':=s.toks) (fun b o hb e=>(sb.2 b hb).trans e) f0 f1 f3 f4 f5;obtain⟨oi,e1,e2,e3⟩:=id ak;have ek:kvs[i]?=some kvs[i]:=Ah hi;exact⟨_,rfl,zgn (s:={ s with heap:=h' }) e1 e2 e3 (by decide) ⟨kvs[i].2,H,I1,hk i _ hi' ek,⟨rfl,_,ek,rfl⟩,ak,fun b hb=>(hf b hb).1⟩⟩
 done:=by
  intro X hP hw hK hc i aa s σ H E I hf st hg;subst hP hw hK;obtain⟨f0,f1,f2,f3,f4,f5⟩:=hf it (by simp);obtain⟨hi,hH⟩:=hg;have hm:Dk.IsD s.heap d es ep:=⟨o,(show zx X.prog X.w H s.heap d (.frz o (.dT kvs)) from I.hok d _ hH).1,hx,aO⟩;have hi':i=es.size:=by rw[hsz]; exact hi
  subst hi';exact Dk.vdone (I.ok.hd hc) st hm fun h' eb=>⟨rfl,I.turned (t':=s.toks) (fun b o hb e=>eb b o hb e) f0 f1 f3 f4 f5⟩
 self:=fun A i s Q E st h=>wpAny_pyIter_valiter st h
def znG (te:TE):TI:=fun σ H R=>te σ H fun x H1=>∃v d kvs,x=.ref v/\H1 v=some (vwO v d)/\Rd H1 d (.dT kvs)/\∀o H2,H2 d=some (.frz o (.dT kvs))->(∀b,b≠d->H2 b=H1 b)->R (Itv d o kvs) H2
def zhR {H:Hp}:∀{l:List (List Key×V)}{m:List (List Key×Addr×Value)}{i:Nat}{kv:List Key×V},KT H l m->l[i]?=some kv->∃w,m[i]?=some w/\kv.1=w.1/\RelV kv.2 w.2.2
 | _,_,0,_,.cons h _,e=>by cases e; exact⟨_,rfl,h.1,h.2.2⟩
 | _,_,i+1,_,.cons _ t,e=>zhR (i:=i) t (by simpa using e)
def zlZ {tg l:Expr}{tl:TE} (hl:PE X l tl):PI X tg l (znG tl):=by
 intro aa s σ H R I h;refine thn (hl aa s σ H _ I h) fun v s1 ⟨x,H1,I1,r1,q1⟩=>?_;obtain⟨v,d,kvs,e,hv,hd,q⟩:=q1;subst e;cases r1;have ij:s1.heap.IsValuesView v d:=(show zx X.prog X.w H1 s1.heap v (vwO v d) from I1.hok v _ hv).1;have go:∀(o:Obj) (H2:Hp),Inv X aa σ H2 s1->H2 d=some (.frz o (.dT kvs))->(∀b,b≠d->H2 b=H1 b)->wpAny (model X.prog X.w) X.A (pyIter (.ref v)) (PIE X aa σ tg R) X.xe s1:=by
  intro o H2 I2 ax aL;obtain⟨g0,z,hs,ys,rel,o',es,ep,h1,h2,h3,h4,h5⟩:=(show zx X.prog X.w H2 s1.heap d (.frz o (.dT kvs)) from I2.hok d _ ax);obtain rfl:o=o':=Al (g0.symm.trans h1);have hsz:es.size=kvs.length:=by
   have:=congrArg List.length h4;rw[Ab,<- AX rel] at this
   simpa using this
  have hm:Dk.IsD s1.heap d es ep:=⟨o,h1,h2,h3⟩;refine Dk.viter ij hm ?_;have hfr:H2 s1.heap.objs.size=none:=I2.hok.fresh (Af _);refine⟨s1.heap.objs.size,[s1.heap.objs.size],_,_,_,rfl,I2.kept (t':=s1.toks) fun b o e=>Ae _ e,zf7 d _ h2 h3 hsz (fun i kv hi e=>?_),⟨_,Ak _ rfl,rfl,rfl⟩,fun b hb=>?_,q o H2 ax aL⟩
  ·obtain⟨w',ew,g1,g2⟩:=zhR rel e
   have g3:es.toList[i]?=some es[i]:=by simp[hi]
   rw[h4,Am,ew] at g3;simp only[Option.map_some,Option.some.injEq] at g3;rw[<- g3];exact g2
  ·have e:b=s1.heap.objs.size:=by simpa using hb
   subst e;exact I2.fpOk (Af _) hfr
 rcases hd with hd | ⟨o,hd⟩
 ·obtain⟨z,hs,ys,rel,o,es,ep,h1,h2,h3,h4,h5⟩:=(show zx X.prog X.w H1 s1.heap d (.dT kvs) from I1.hok d _ hd)
  have hkt:KT (upd H1 d (.frz o (.dT kvs))) kvs ys:=KT.keeps rel fun b zs e=>by rw[zh (fun zz=>by rw[zz,hd] at e; cases e)]; exact e
  exact go o (upd H1 d (.frz o (.dT kvs))) (zb4 (ob:=.frz o (.dT kvs)) (t':=s1.toks) I1 (by rw[hd]; exact True.intro) (Heap.SameBut.refl _ _) ⟨o,h1⟩ ⟨h1,z,hs,ys,hkt,o,es,ep,h1,h2,h3,h4,h5⟩) upd_same fun b hb=>zh hb
 ·exact go o H1 I1 hd fun _ _=>rfl
end
end L2
end
section
namespace DCp
open PySem
def zc0:mroOf (.type "dict")=pure [.type "dict",.type "object"]:=by rw[mroOf_type]; kernel_rfl
def zci:typeLookup (.type "dict") "__new__"=pure (some (.builtin "dict.__new__")):=by rw[typeLookup_type,builtinLookup_eq_fast]; kernel_rfl
def zJ:TypeCalled "dict" "dict.__new__" "dict.__init__":=
 ⟨by decide +kernel,by decide +kernel,⟨_,_,zc0⟩,madeBy_type zc0 zci (by decide +kernel),by decide +kernel,by rw[isSubtype_type]; kernel_rfl,PySem.F.slot_dict_init⟩
def zcg (a:Value):checkTypeCall "dict" ⟨[a],[]⟩=pure ():=by kernel_rfl
def zcp (a:Value):checkBuiltinCall "dict.__new__" ⟨[.type "dict",a],[]⟩=pure ():=by kernel_rfl
def zco:entryFor table "dict.__new__"=some Builtin.«dict.__new__»:=entryFor_of_tree (by kernel_rfl)
def za0:plainId "dict.__new__"=true:=by decide +kernel
def zbl:isSubtype (.type "dict") (.type "dict")=pure true:=by rw[isSubtype_type]; kernel_rfl
section
variable {prog:Program}{w:World}{A:Around}{E:Value->Shared->Prop}{s:Shared}
def zii (a:Value) {Q₁:Value->Shared->Prop} (h:Q₁ (.ref s.heap.objs.size) { s with heap:=s.heap.push { cls:=.type "dict",data:=.dict #[] } }) :
  codeAny (model prog w) A (.call (.builtin "dict.__new__") ⟨[.type "dict",a],[]⟩) (wants Q₁ E) s:=by
 refine codeAny_of_tree (show wpAny _ A.in1 (do checkBuiltinCall "dict.__new__" ⟨[.type "dict",a],[]⟩; again (.builtin "dict.__new__" ⟨[.type "dict",a],[]⟩)) _ _ s from Aa (wpAny_of_eq (zcp a) (Ac ⟨plainId_quiet za0 _,codeAny_builtin zco ?_⟩)));rw[Around.under_plainId za0 _]; unfold Builtin.«dict.__new__»;have aH:=zbl;have fE:=zc0;obtain⟨hp,g,d,tk,os⟩:=s;dsimp only;refine Aa (wpAny_of_eq (a:=true) rfl ?_);simp only[Bool.not_true,Ai,if_false];refine Aa (wpAny_of_eq aH ?_);simp only[Bool.not_true,Ai,if_false];refine Aa (wpAny_of_eq fE ?_);rw[if_neg (by decide)];refine Aa (AI ?_);exact Ac h
def zgB {id:String}{d:Addr}{o:Obj}{es:Array DictEntry}{ep:Nat}{Q:Array DictEntry->Shared->Prop} (ho:s.heap.get? d=some o) (hd:o.data=.dict es ep) (hk:∀e∈es.toList,∃b,e.key=.ref b/\s.TypeIs (.ref b) "tuple")
  (hh:∀e∈es.toList,(es.filter (·.hash == e.hash)).size<=1) (h:Q es s):wpAny (model prog w) A (Builtin.Dict.entriesForEmpty id d) Q E s:=by
 unfold Builtin.Dict.entriesForEmpty;refine Aa (AR ho hd ?_);refine Aa ?_;show wpAny _ _ (forIn es _ _) _ _ s;rw[<- Array.forIn_toList];refine wpAny_forIn_list _ (fun rest r s'=>s'=s/\∀e∈rest,e∈es.toList) _ ?_ ?_ _ _ ⟨rfl,fun _ z=>z⟩
 ·rintro e rest r s' ⟨rfl,hall⟩
  have he:=hall e Au;obtain⟨b,ek,hT⟩:=hk e he;have nx:∀e∈rest,e∈es.toList:=fun u jb=>hall u (Aw _ jb);have hs:=hh e he;unfold Builtin.Dict.quietEq;rw[ek];refine Aa ?_;dsimp only;refine Aa (wpAny_specialOf hT F.slot_tuple_eq.lookup (Ac ?_));rw[if_pos (by decide),if_neg (by omega)];exact Ac ⟨rfl,nx⟩
 ·rintro r s' ⟨rfl,_⟩
  exact Ac h
def zjT {id:String}{D d:Addr}{o:Obj}{es:Array DictEntry}{ep:Nat}{Q:Unit->Shared->Prop} (ho:s.heap.get? d=some o) (hd:o.data=.dict es ep) (dq:(d == sysModules)=false) (hz:es.size<=sizeLine) (hne:D≠d) (hk:∀e∈es.toList,∃b,e.key=.ref b/\s.TypeIs (.ref b) "tuple")
  (hh:∀e∈es.toList,(es.filter (·.hash == e.hash)).size<=1) (hD:s.heap.get? D=some { cls:=.type "dict",data:=.dict #[] })
  (h:∀h' aX,h'.get? D=some { cls:=.type "dict",data:=.dict es aX }->AC D s.heap h'->Q () { s with heap:=h' }):wpAny (model prog w) A (Builtin.Dict.mergeDict id D d) Q E s:=by
 unfold Builtin.Dict.mergeDict;rw[if_neg (by simpa using hne)];unfold Builtin.Dict.showsAll;rw[if_neg (by rw[dq]; exact Ao)];refine Aa (Ac ?_);refine Aa (AR ho hd ?_)
 by_cases q:es.size=0
 ·have he:es=#[]:=Array.eq_empty_of_size_eq_zero q
  subst he;have ef:(decide ((#[]:Array DictEntry).size<=8) && (#[]:Array DictEntry).all fun e=>(keyPart e.key).isSome)=true:=by simp
  dsimp only;rw[ef];simp only[Bool.not_true,Ai,if_false];refine Aa (wpAny_dictEpoch ho hd ?_);refine Aa (AR ho hd ?_);refine Aa ?_;rw[Std.Legacy.Range.forIn_eq_forIn_range'];refine wpAny_of_eq (a:=PUnit.unit) rfl ?_;exact Ac (h s.heap 0 hD (Heap.SameBut.refl ..))
 ·have ef:(decide (es.size<=8) && es.all fun e=>(keyPart e.key).isSome)=false:=by
   have h0:0<es.size:=Nat.pos_of_ne_zero q;obtain⟨b,eb,_⟩:=hk es[0] (by simp);have:(es.all fun e=>(keyPart e.key).isSome)=false:=by
    rw[Bool.eq_false_iff];intro z;rw[Array.all_eq_true] at z;have:=z 0 h0;rw[eb] at this;exact absurd this (by simp[keyPart])
   rw[this,Bool.and_false]
  dsimp only;rw[ef];simp only[Bool.not_false,if_true];refine Aa (AR hD rfl ?_);rw[if_pos (show (#[]:Array DictEntry).isEmpty=true from rfl)];refine Aa (zgB ho hd hk hh ?_);rw[if_pos (by simpa[Array.isEmpty] using q)];refine Aa (wpAny_updateDictKeysTo hD rfl ?_ (by omega));refine Ac (h _ 1 ?_ (AG ..));rw[AU _ hD (by simp[Obj.mapDictKeys,Obj.isFreed])]
  rfl
def zcr {d:Addr}{o:Obj}{es:Array DictEntry}{ep:Nat}{Q:Value->Shared->Prop} (ho:s.heap.get? d=some o) (hx:o.ExactDict) (hd:o.data=.dict es ep) (dq:(d == sysModules)=false) (hz:es.size<=sizeLine) (hk:∀e∈es.toList,∃b,e.key=.ref b/\s.TypeIs (.ref b) "tuple")
  (hh:∀e∈es.toList,(es.filter (·.hash == e.hash)).size<=1)
  (h:∀h' aX,h'.get? s.heap.objs.size=some { cls:=.type "dict",data:=.dict es aX }->(∀b o,b<s.heap.objs.size->s.heap.get? b=some o->h'.get? b=some o)->Q (.ref s.heap.objs.size) { s with heap:=h' }) :
  wpAny (model prog w) A (call (.type "dict") [.ref d]) Q E s:=by
 obtain⟨c,tl,fE⟩:=zJ.mro;have gn:=zJ.made;have aH:=zJ.sub;refine wpAny_call (codeAny_of_tree ?_);show wpAny _ _ (callAny (.type "dict") _) _ _ _;refine Ac ⟨Code.quiet_builtin _ (by decide +kernel),codeAny_builtin F.entry_type_call ?_⟩;rw[Around.under_plain (weight_type_call_type "dict" [.ref d] []) rfl];have h1:=zJ.notType;have h2:=zJ.canCreate;have l8:=zcg (.ref d)
 repeat (any_goals (first | assumption | wp_step))
 refine codeAny_mono (zii (.ref d) (E:=E) (Q₁:=fun obj am=>obj=.ref s.heap.objs.size/\am={ s with heap:=s.heap.push { cls:=.type "dict",data:=.dict #[] } }) ⟨rfl,rfl⟩) fun r am hr=>?_;cases r with
 | error e=>exact hr
 | ok fl=>
  cases fl with
  | ret obj=>
   obtain⟨rfl,rfl⟩:=hr;have hS:(s.heap.push { cls:=.type "dict",data:=.dict #[] }).get? s.heap.objs.size=some { cls:=.type "dict",data:=.dict #[] }:=Ak _ rfl;have iH:Shared.TypeIs { s with heap:=s.heap.push { cls:=.type "dict",data:=.dict #[] } } (.ref s.heap.objs.size) "dict":=⟨_,hS,rfl⟩;have pE:=zJ.init.lookup;have qu:=zJ.init.bind (.ref s.heap.objs.size)
   repeat (any_goals (first | assumption | wp_step))
   refine codeAny_mono (codeAny_call_builtin (R:=wants (fun r az=>r=.none/\∃h' aX,az={ s with heap:=h' }/\
     h'.get? s.heap.objs.size=some { cls:=.type "dict",data:=.dict es aX }/\
     (∀b o,b<s.heap.objs.size->s.heap.get? b=some o->h'.get? b=some o)) E) zJ.init.plain F.entry_dict_init (zJ.init.check _ _ _ _ _ _ _ _ iH (F.args_dict_init_2 _ _) ?_)) fun dP az aQ=>?_
   ·have nN:d<s.heap.objs.size:=Aj ho
    have ho':(s.heap.push { cls:=.type "dict",data:=.dict #[] }).get? d=some o:=Ae _ ho;have hTd:Shared.TypeIs { s with heap:=s.heap.push { cls:=.type "dict",data:=.dict #[] } } (.ref d) "dict":=⟨o,ho',hx.1⟩;unfold Builtin.«dict.__init__»;refine Aa ?_;unfold Builtin.Dict.selfAndRest;refine Aa (wpAny_notOrdered_dict iH ?_);refine Aa (show wpAny _ _ (pure s.heap.objs.size) _ _ _ from Ac ?_);refine Ac ?_;show wpAny _ _ (Builtin.Dict.updateCommon "dict.__init__" "dict" s.heap.objs.size [Value.ref d] []) _ _ _;unfold Builtin.Dict.updateCommon Builtin.Dict.updateFrom;dsimp only;refine Aa (wpAny_typeOf hTd ?_);rw[if_neg (by decide)];unfold Builtin.Dict.merge Builtin.Dict.readDirectly;refine Aa (Aa (Aa (wpAny_isInstance hTd zbl ?_)));simp only[Bool.not_true,Ai,if_false];refine Aa (wpAny_specialOf hTd F.slot_dict_iter.lookup (Ac ?_));rw[if_pos (by decide)];refine Aa (show wpAny _ _ (pure d) _ _ _ from Ac ?_);refine zjT (s:={ s with heap:=s.heap.push { cls:=.type "dict",data:=.dict #[] } }) ho' hd dq hz (A1 nN) (fun e he=>let ⟨b,e1,o,e2,e3⟩:=hk e he; ⟨b,e1,o,Ae _ e2,e3⟩) hh hS fun h' aX bj sb=>?_;unfold Builtin.Dict.addKeywords;refine Aa (wpAny_of_eq (a:=()) rfl ?_);refine Ac ⟨rfl,h',aX,rfl,bj,fun b o hb e=>?_⟩;rw[sb.2 b (As hb)];exact Ae _ e
   ·cases dP with
    | error e=>exact aQ
    | ok fl₂=>
     cases fl₂ with
     | ret r=>
      obtain⟨rfl,h',aX,rfl,dQ,hk'⟩:=aQ
      repeat (any_goals (first | assumption | wp_step))
      exact h _ _ dQ hk'
     | _=>exact aQ.elim
  | _=>exact hr.elim
end
end DCp
end
section
set_option maxHeartbeats 3200000
namespace STb
open PySem PySem.SetTable PyProof.Rows
def zix {α:Type} (next:Nat->Nat):∀(fuel k:Nat) (left:List α) (a_:Array α),left.length=fuel->∃l,l.Perm left/\(pickOrder.go next fuel k left a_).toList=a_.toList++l
 | 0,k,left,a_,h=>⟨[],by rw[List.eq_nil_of_length_eq_zero h],by simp[pickOrder.go]⟩
 | fuel+1,k,left,a_,h=>by
  have hlt:next k % left.length<left.length:=Nat.mod_lt _ (by omega);unfold pickOrder.go;rw[Ah hlt];dsimp only;obtain⟨l,hl,e⟩:=zix next fuel (k+1) (left.eraseIdx (next k % left.length)) (a_.push left[next k % left.length]) (by rw[List.length_eraseIdx,if_pos hlt]; omega);refine⟨left[next k % left.length]::l,?_,?_⟩
  ·refine (List.Perm.cons _ hl).trans ?_
   rw[List.eraseIdx_eq_take_drop_succ];refine (List.perm_middle (l₁:=left.take (next k % left.length))).symm.trans ?_;rw[<- List.drop_eq_getElem_cons hlt,List.take_append_drop]
  ·rw[e,Array.toList_push,List.append_assoc]
   rfl
def zih {α:Type} (next:Nat->Nat) (xs:Array α):(pickOrder next xs).toList.Perm xs.toList:=by
 obtain⟨l,hl,e⟩:=zix next xs.size 0 xs.toList #[] (by simp);unfold pickOrder;rw[e]
 simpa using hl
section
variable {prog:Program}{w:World}{K:Type} [DecidableEq K] {knd:KeyKind prog w K}{A:Around}{E:Value->Shared->Prop}{s:Shared}
def zkP {B:List Addr}{S:Addr}{o:Obj}{es:Array (Int×Value)}{ep:Nat}{t:SetTable}{ks:List (List K)} (X:TS knd s.heap S o es ep t ks B) (hu:A.units<cLine) {k:List K}{b:Addr} (hk:AB knd s.heap k b) {Q:Option Nat->Shared->Prop}
  (h:∀r:Option Nat,r.isSome=decide (k∈ks)->Q r s):wpAny (model prog w) A (setFind S (.ref b) (An knd k)) Q E s:=by
 have T:=X.tb;have cC:=fits_of T;unfold setFind setFindIn;refine Aa (A5 X.at_ X.dt cC ?_);dsimp only;have nb:byScan (.ref b) es=false:=rfl;rw[nb];simp only[Ai,if_false];obtain⟨ne,hne,he,hm⟩:=zcA T (An knd k);refine Aa ?_;unfold setSearch;refine zed X hu hk hne he hm (fun hin r hr=>?_) (fun eK=>?_) 100000 0 none ?_ (AQ _) rfl (fun m i c eJ=>absurd eJ (Nat.not_lt_zero _))
 ·exact Ac (h r (by rw[hr rfl,decide_eq_true hin]))
 ·exact Ac (h none (by rw[decide_eq_false eK]; rfl))
 ·have:t.mask<=255:=by rcases X.msk with ⟨a,_⟩ | ⟨a,_⟩ | ⟨a,_⟩ | ⟨a,_⟩ | ⟨a,_⟩ | ⟨a,_⟩ <;> omega
  unfold turns at hne;omega
def zck {Q:Bool->Shared->Prop} (h:Q (w.params.followText "set-order") s):wpAny (model prog w) A setsByText Q E s:=by
 unfold setsByText;exact Aa (wpAny_askSetting (Ac h))
def wp_walk {B:List Addr}{S:Addr}{o:Obj}{es:Array (Int×Value)}{ep:Nat}{t:SetTable}{ks:List (List K)} (X:TS knd s.heap S o es ep t ks B) {Q:Array (Int×Value)->Shared->Prop}
  (h:∀r:Array (Int×Value),r.toList.Perm es.toList->Q r s):wpAny (model prog w) A (setWalk S) Q E s:=by
 have cC:=fits_of X.tb;unfold setWalk;refine Aa (A5 X.at_ X.dt cC ?_);dsimp only;refine Aa (zck ?_);cases hb:w.params.followText "set-order" with
 | true=>
  simp only[if_true];exact Aa (wpAny_askSetting (Ac (h _ (zih _ es))))
 | false=>
  have hw:t.led=true/\t.plain=true:=X.wk.resolve_left (by rw[hb]; simp);simp only[Ai,if_false];show wpAny _ _ (ite ((!t.plain && decide (es.size > 1))=true) _ _) _ _ _;rw[hw.2];simp only[Bool.not_true,Bool.false_and,Ai,if_false];show wpAny _ _ ((ite ((!t.led && decide (es.size > 1))=true) _ _) >>= _) _ _ _;rw[hw.1];simp only[Bool.not_true,Bool.false_and,Ai,if_false];exact Aa (Ac (Ac (h es (List.Perm.refl _))))
def zgt {B:List Addr}{S:Addr}{o:Obj}{es:Array (Int×Value)}{ep:Nat}{t:SetTable}{ks:List (List K)} (X:TS knd s.heap S o es ep t ks B) {gN:List Addr}{fl:Option Addr}{Q:Array (Int×Value)->Shared->Prop}
  (h:∀r:Array (Int×Value),r.toList.Perm es.toList->Q r s):wpAny (model prog w) A (setWalkUnseen S gN fl) Q E s:=by
 have cC:=fits_of X.tb;unfold setWalkUnseen;refine Aa (A5 X.at_ X.dt cC ?_);dsimp only;refine Aa (zck ?_);have c:(w.params.followText "set-order" || (t.led && t.plain) || decide (es.size<=1))=true:=by
  rcases X.wk with e | ⟨e1,e2⟩
  ·rw[e]; rfl
  ·rw[e1,e2]; simp
 rw[if_pos c];exact wp_walk X h
def zfA {B:List Addr}{S:Addr}{o:Obj}{es:Array (Int×Value)}{ep:Nat}{t:SetTable}{ks:List (List K)} (X:TS knd s.heap S o es ep t ks B) {Q:Nat->Shared->Prop} (h:Q ep s):wpAny (model prog w) A (setEpoch S) Q E s:=by
 unfold setEpoch;exact Aa (A5 X.at_ X.dt (fits_of X.tb) (Ac h))
def ziq {B:List Addr}{S:Addr}{o:Obj}{es:Array (Int×Value)}{ep:Nat}{t:SetTable}{ks:List (List K)} (X:TS knd s.heap S o es ep t ks B) {Q:Nat->Shared->Prop} (h:Q ks.length s):wpAny (model prog w) A (Builtin.Frozenset.sizeOf S) Q E s:=by
 unfold Builtin.Frozenset.sizeOf setEntries;refine Aa (Aa (A5 X.at_ X.dt (fits_of X.tb) (Ac (Ac ?_))));rw[X.sz];exact h
def zlo {S:Addr} (hT:s.TypeIs (.ref S) "set") {Q:Bool->Shared->Prop} (h:Q true s):wpAny (model prog w) A (Builtin.Frozenset.isAnySet (.ref S)) Q E s:=by
 unfold Builtin.Frozenset.isAnySet orM;refine Aa (wpAny_isInstance hT sub_set_self ?_);exact Ac h
def ziO {B1 B2:List Addr}{S1 S2 R:Addr}{id:String}{bG bN:List (List K)}{o1 o2:Obj}{eU gA:Array (Int×Value)}{cZ gX:Nat}{t1 t2:SetTable} (n1:S1≠R) (n2:S2≠R) (hu:A.units<cLine) (hv:∀k v n,knd.is k v=true->hashByValue n v=pure true) (hz:bG.length<60) :
  ∀(l:List (Int×Value)) (s:Shared) (kr:List (List K)) (Q:Unit->Shared->Prop),(∀e∈l,∃k b,k∈bG/\b∈B1/\e=(An knd k,Value.ref b)/\AB knd s.heap k b)->TS knd s.heap S1 o1 eU cZ t1 bG B1->TS knd s.heap S2 o2 gA gX t2 bN B2->
   (∃o es ep t,TS knd s.heap R o es ep t kr B1)->(∀k∈kr,k∈bG/\k∉bN)->
   (∀h' j9,(∃o es ep t,TS knd h' R o es ep t j9 B1)->AC R s.heap h'->(∀k∈j9,k∈bG/\k∉bN)->(∀k∈kr,k∈j9)->(∀e∈l,∀k,e.1=An knd k->(∃b,e.2=Value.ref b/\AB knd s.heap k b)->k∉bN->k∈j9)->Q () { s with heap:=h' })->
   wpAny (model prog w) A (forIn l PUnit.unit fun x _=>do
    holding [x.snd] (do
     let y <- setFind S2 x.snd x.fst
     let there <- pure y.isSome
     if (!there)=true then do
       let _ <- setAddHashed R x.snd x.fst
       pure ()
      else pure ())
    Builtin.Frozenset.unchanged id S1 cZ
    pure (ForInStep.yield PUnit.unit)) Q E s:=by
 intro l
 induction l with
 | nil=>
  intro s kr Q _ _ _ hR hk h;exact Ac (h s.heap kr hR (Heap.SameBut.refl ..) hk (fun _ z=>z) (fun e he=>by cases he))
 | cons e l ih=>
  intro s kr Q hl X1 X2 hR hk h;obtain⟨k,b,tP,i5,rfl,nO⟩:=hl e (Au);obtain⟨oR,xx,wp,tR,XR⟩:=hR;have n8:kr.length<60:=Nat.lt_of_le_of_lt (XR.nd.length_le_of_subset fun x hx=>(hk x hx).1) hz;rw[List.forIn_cons];have jO:∀(h1:Heap) (iR:List (List K)),(∃o es ep t,TS knd h1 R o es ep t iR B1)->AC R s.heap h1->(∀k∈iR,k∈bG/\k∉bN)->(∀k∈kr,k∈iR)->(k∉bN->k∈iR)->
    ∀QQ:ForInStep PUnit->Shared->Prop,((wpAny (model prog w) A (forIn l PUnit.unit fun x _=>do
      holding [x.snd] (do
       let y <- setFind S2 x.snd x.fst
       let there <- pure y.isSome
       if (!there)=true then do
         let _ <- setAddHashed R x.snd x.fst
         pure ()
        else pure ())
      Builtin.Frozenset.unchanged id S1 cZ
      pure (ForInStep.yield PUnit.unit)) Q E { s with heap:=h1 })->QQ (ForInStep.yield PUnit.unit) { s with heap:=h1 })->wpAny (model prog w) A (do
     Builtin.Frozenset.unchanged id S1 cZ
     pure (ForInStep.yield PUnit.unit)) QQ E { s with heap:=h1 }:=by
   intro h1 iR wJ sb nV jj ni QQ rW;have mv:∀k' b',AB knd s.heap k' b'->AB knd h1 k' b':=fun k' b' z=>zag z XR.at_ XR.dt sb;have X1':TS knd h1 S1 o1 eU cZ t1 bG B1:=X1.moved (by rw[sb.2 S1 n1]; exact X1.at_) mv;have nj:TS knd h1 S2 o2 gA gX t2 bN B2:=X2.moved (by rw[sb.2 S2 n2]; exact X2.at_) mv;unfold Builtin.Frozenset.unchanged;refine Aa (Aa (zfA (s:={ s with heap:=h1 }) X1' ?_));simp only[bne_self_eq_false,Ai,if_false];refine Ac (Ac (rW ?_));refine ih { s with heap:=h1 } iR Q (fun e' he'=>?_) X1' nj wJ nV fun h2 xt uB bU a1 a2 a3=>h h2 xt uB (sb.trans bU) a1 (fun x hx=>a2 x (jj x hx)) fun e' he' k' e1 e2 hn=>?_
   ·obtain⟨k',b',c1,c2,c3,c4⟩:=hl e' (Aw _ he')
    exact⟨k',b',c1,c2,c3,mv k' b' c4⟩
   ·rcases List.mem_cons.mp he' with rfl | he'
    ·obtain⟨b',e3,e4⟩:=e2
     obtain rfl:b=b':=by simpa using e3
     obtain rfl:k=k':=IsTupleKey.inj nO e4;exact a2 k (ni hn)
    ·obtain⟨b',e3,e4⟩:=e2
     exact a3 e' he' k' e1 ⟨b',e3,mv k' b' e4⟩ hn
  refine Aa (Aa (AM (Aa (zkP X2 hu nO fun r hr=>Aa (Ac ?_)))));rw[hr]
  by_cases hin:k∈bN
  ·rw[decide_eq_true hin]
   simp only[Bool.not_true,Ai,if_false];exact Ac (jO s.heap kr ⟨oR,xx,wp,tR,XR⟩ (Heap.SameBut.refl ..) hk (fun _ z=>z) (fun z=>absurd hin z) _ fun z=>z)
  ·rw[decide_eq_false hin]
   simp only[Bool.not_false,if_true];refine Aa (zeM XR hu hv nO i5 n8 fun r' h' o' bg aX t' xi sb=>Ac ?_);refine jO h' _ ⟨o',bg,aX,t',xi⟩ sb (fun x hx=>?_) (fun x hx=>?_) (fun _=>?_) _ fun z=>z
   ·split at hx
    ·exact hk x hx
    ·rcases List.mem_append.mp hx with hx | hx
     ·exact hk x hx
     ·rw[List.mem_singleton.mp hx]; exact⟨tP,hin⟩
   ·split
    ·exact hx
    ·exact List.mem_append_left _ hx
   ·split
    ·assumption
    ·exact AT _ (List.mem_singleton.mpr rfl)
def zdq {B1 B2:List Addr}{S1 S2:Addr}{id:String}{bG bN:List (List K)}{o1 o2:Obj}{eU gA:Array (Int×Value)}{cZ gX:Nat}{t1 t2:SetTable} (X1:TS knd s.heap S1 o1 eU cZ t1 bG B1) (X2:TS knd s.heap S2 o2 gA gX t2 bN B2)
  (hu:A.units<cLine) (hv:∀k v n,knd.is k v=true->hashByValue n v=pure true) (hz:bG.length<60) (hq:¬ bG.length / 4 > bN.length) {Q:Value->Shared->Prop}
  (h:∀h' kr,(∃o es ep t,TS knd h' s.heap.objs.size o es ep t kr B1)->(∀b o,b<s.heap.objs.size->s.heap.get? b=some o->h'.get? b=some o)->(∀k,k∈kr ↔ k∈bG/\k∉bN)->Q (.ref s.heap.objs.size) { s with heap:=h' }) :
  wpAny (model prog w) A (Builtin.Frozenset.difference id S1 (.ref S2)) Q E s:=by
 have hT1:s.TypeIs (.ref S1) "set":=⟨o1,X1.at_,X1.ex.1⟩;have hJ:s.TypeIs (.ref S2) "set":=⟨o2,X2.at_,X2.ex.1⟩;unfold Builtin.Frozenset.difference;dsimp only;refine Aa (zlo hJ ?_);simp only[Bool.not_true,Ai,if_false];refine Aa (Ac ?_);simp only[Bool.false_and,Ai,if_false,if_true];refine Aa (ziq X2 (Aa (ziq X1 ?_)));rw[if_neg hq];unfold Builtin.Frozenset.baseOf;refine Aa (Aa (wpAny_isInstance hT1 sub_set_self (Ac ?_)));simp only[if_true];unfold newSet;refine Aa (Aa (zck ?_));dsimp only;simp only[newObj];rw[if_neg (by simp)];unfold newObjAsIs;refine Aa (wpAny_alloc ?_);refine Ac ?_;refine Aa (Ac ?_);have u7:S1<s.heap.objs.size:=Aj X1.at_;have vq:S2<s.heap.objs.size:=Aj X2.at_;obtain⟨led,du⟩:∃led:Bool,led=!w.params.followText "set-order":=⟨_,rfl⟩;rw[<- du];have keep:∀b o,s.heap.get? b=some o->(s.heap.push { cls:=.type "set",dict:=none,data:=.set #[] 0 (.fresh 0 0 led) }).get? b=some o:=fun b o e=>Ae _ e;have X1':=X1.moved (keep _ _ X1.at_) fun k b z=>zaw z fun o e=>keep b o e;have nj:=X2.moved (keep _ _ X2.at_) fun k b z=>zaw z fun o e=>keep b o e;have XR:TS knd (s.heap.push { cls:=.type "set",dict:=none,data:=.set #[] 0 (.fresh 0 0 led) }) s.heap.objs.size { cls:=.type "set",dict:=none,data:=.set #[] 0 (.fresh 0 0 led) } #[] 0 (.fresh 0 0 led) ([]:List (List K)) B1:=
  ⟨Ak _ rfl,⟨rfl,rfl,rfl⟩,rfl,(by simpa using zcX 0 0 led),rfl,List.nodup_nil,(fun e he=>by simp at he),(fun k hk=>by cases hk),.inl ⟨rfl,AQ _⟩,(fun e he=>by simp at he),by
   rw[du];cases w.params.followText "set-order" <;> simp[SetTable.fresh]⟩
 refine Aa (zfA (s:={ s with heap:=s.heap.push { cls:=.type "set",dict:=none,data:=.set #[] 0 (.fresh 0 0 led) } }) X1' ?_);refine Aa (AM ?_);refine Aa (zgt (s:={ s with heap:=s.heap.push { cls:=.type "set",dict:=none,data:=.set #[] 0 (.fresh 0 0 led) } }) X1' fun r hr=>?_);rw[<- Array.forIn_toList];refine Aa ?_;refine ziO (s:={ s with heap:=s.heap.push { cls:=.type "set",dict:=none,data:=.set #[] 0 (.fresh 0 0 led) } }) (As u7) (As vq) hu hv hz r.toList [] _ (fun e he=>?_) X1' nj ⟨_,_,_,_,XR⟩ (fun k hk=>by cases hk) fun h' kr hR sb a1 _ a3=>?_
 ·obtain⟨k,b,c1,c2,c3⟩:=X1'.el e (hr.mem_iff.mp he)
  obtain⟨b',d1,d2⟩:=X1'.ad e (hr.mem_iff.mp he);rw[c2] at d2;obtain rfl:b=b':=by simpa using d2
  exact⟨k,b,c1,d1,c2,c3⟩
 ·refine Ac (Ac (h h' kr hR (fun b o hb e=>?_) fun k=>⟨a1 k,fun ⟨z1,z2⟩=>?_⟩))
  ·rw[sb.2 b (As hb)]
   exact keep b o e
  ·obtain⟨b,c1,c2⟩:=X1'.ke k z1
   exact a3 _ (hr.mem_iff.mpr c1) k rfl ⟨b,rfl,c2⟩ z2
end
end STb
end
section
set_option maxHeartbeats 3200000
namespace STb
open PySem PySem.SetTable PyProof.Rows
def zcL:entryFor table "set.__sub__"=some Builtin.«frozenset.__sub__»:=
 entryFor_alias (id':="frozenset.__sub__") (by kernel_rfl) rfl (by decide +kernel) (by kernel_rfl)
section
variable {prog:Program}{w:World}{K:Type} [DecidableEq K] {knd:KeyKind prog w K}{A:Around}{E:Value->Shared->Prop}{s:Shared}
def zjj {B1 B2:List Addr}{S1 S2:Addr}{bG bN:List (List K)}{o1 o2:Obj}{eU gA:Array (Int×Value)}{cZ gX:Nat}{t1 t2:SetTable} (X1:TS knd s.heap S1 o1 eU cZ t1 bG B1) (X2:TS knd s.heap S2 o2 gA gX t2 bN B2)
  (hu:A.units+64<cLine) (hv:∀k v n,knd.is k v=true->hashByValue n v=pure true) (hz:bG.length<60) (hq:¬ bG.length / 4 > bN.length) {Q:Value->Shared->Prop}
  (h:∀h' kr,(∃o es ep t,TS knd h' s.heap.objs.size o es ep t kr B1)->(∀b o,b<s.heap.objs.size->s.heap.get? b=some o->h'.get? b=some o)->(∀k,k∈kr ↔ k∈bG/\k∉bN)->Q (.ref s.heap.objs.size) { s with heap:=h' }) :
  wpAny (model prog w) A (binaryOp .Sub (.ref S1) (.ref S2)) Q E s:=by
 have hT1:s.TypeIs (.ref S1) "set":=⟨o1,X1.at_,X1.ex.1⟩;have hJ:s.TypeIs (.ref S2) "set":=⟨o2,X2.at_,X2.ex.1⟩;refine wpAny_binaryOp_same (op:=.Sub) (T:="set") hT1 hJ PySem.F.fills_set_sub PySem.F.slot_set_sub ?_;refine AV PySem.F.slot_set_sub hT1 zcL ?_ (PySem.F.args_set_sub_2 _ _);unfold Builtin.«frozenset.__sub__»
 wp_delta
 refine Aa (show wpAny (model prog w) A.in1 (pure (Value.ref S1,Value.ref S2)) _ _ _ from Ac ?_);dsimp only;simp only[Ai,if_false];unfold andM;refine Aa (Aa (zlo hT1 ?_));refine zlo hJ ?_;simp only[Bool.not_true,Ai,if_false];unfold Builtin.Frozenset.addrOf;refine Aa (Ac (Aa (zdq X1 X2 (by show A.units+1<cLine; omega) hv hz hq fun h' kr hR hk hm=>?_)));exact Ac ⟨_,rfl,by simp,h h' kr hR hk hm⟩
end
end STb
end
section
set_option maxHeartbeats 3200000
namespace STb
open PySem PySem.SetTable PyProof.Rows
def zgq:∀n,n<60->5<=n->(sizeAbove (n*2)<=sizeLine)/\(sizeAbove (n*2) - 1=15 \/ sizeAbove (n*2) - 1=31 \/ sizeAbove (n*2) - 1=63 \/ sizeAbove (n*2) - 1=127):=by decide +kernel
section
variable {prog:Program}{w:World}{K:Type} [DecidableEq K] {knd:KeyKind prog w K}{A:Around}{E:Value->Shared->Prop}{s:Shared}
def zgh {B:List Addr}{S:Addr}{o:Obj}{es:Array (Int×Value)}{ep:Nat}{t:SetTable} (X:TS knd s.heap S o es ep t ([]:List (List K)) B) (hm:t.mask=7) {n:Nat} (hn:n<60) {Q:Unit->Shared->Prop}
  (h:∀h' o' bg aX t',TS knd h' S o' bg aX t' ([]:List (List K)) B->AC S s.heap h'->Q () { s with heap:=h' }):wpAny (model prog w) A (setRoomFor S n) Q E s:=by
 have T:=X.tb;have cC:=fits_of T;have e0:es.size=0:=X.sz;have p0:t.place.size=0:=by rw[T.size,Array.size_map]; exact e0
 have f0:t.fill=0:=by unfold SetTable.fill; rw[T.dum,p0]; rfl
 unfold setRoomFor;refine Aa (A5 X.at_ X.dt cC ?_);dsimp only;unfold SetTable.roomFor;rw[f0,p0,hm,Nat.zero_add]
 by_cases q:n*5 ≥ 7*3
 ·rw[if_pos q]
  dsimp only;obtain⟨z1,z2⟩:=zgq n hn (by omega);have go:∀m2,sizeAbove (n*2) - 1=m2->Cov m2->m2 % 2=1->((m2=7/\es.size<=4) \/ (m2=31/\es.size<=18) \/ (m2=127/\es.size<=76) \/ (m2=15/\es.size<=8) \/ (m2=63/\es.size<=37) \/ (m2=255/\es.size<=152))->
    wpAny (model prog w) A (setRelay S (n*2)) Q E s:=fun m2 a1 a2 a3 a4=>
   zfU X.at_ X.ex X.dt T X.sz X.nd X.ad X.el X.ke a1 z1 a2 a3 (by omega) (by omega) a4 X.wk h
  rcases z2 with z | z | z | z
  ·exact go 15 z cov15 rfl (by omega)
  ·exact go 31 z cov31 rfl (by omega)
  ·exact go 63 z cov63 rfl (by omega)
  ·exact go 127 z cov127 rfl (by omega)
 ·rw[if_neg q]
  exact Ac (h s.heap o es ep t X (Heap.SameBut.refl ..))
end
end STb
end
section
set_option maxHeartbeats 3200000
namespace STb
open PySem PySem.SetTable PyProof.Rows
section
variable {prog:Program}{w:World}{K:Type} [DecidableEq K] {knd:KeyKind prog w K}{A:Around}{E:Value->Shared->Prop}{s:Shared}
def zjM {B:List Addr}{S d:Addr}{id:String}{o od:Obj}{es:Array (Int×Value)}{bI:Array DictEntry}{lT ep:Nat}{t:SetTable} (X:TS knd s.heap S o es ep t ([]:List (List K)) B) (hm:t.mask=7)
  (dE:s.heap.get? d=some od) (jR:od.cls=.type "dict") (ax:od.data=.dict bI lT) (dq:(d == sysModules)=false) (hne:d≠S) (hu:A.units<cLine) (hv:∀k v n,knd.is k v=true->hashByValue n v=pure true)
  {vals:List (List K)} {adr:Nat->Addr} (hn:vals.length=bI.size) (hz:bI.size<=59) (hB:∀i,i<bI.size->adr i∈B)
  (aw:∀(i:Nat) e x,bI[i]?=some e->vals[i]?=some x->e.key=.ref (adr i)/\e.hash=An knd x) (hT:∀(j:Nat) x,vals[j]?=some x->AB knd s.heap x (adr j)) {Q:Unit->Shared->Prop}
  (h:∀h',(∃o es ep t,TS knd h' S o es ep t (dd vals) B)->AC S s.heap h'->Q () { s with heap:=h' }) :
  wpAny (model prog w) A (Builtin.Frozenset.updateFrom id S (.ref d)) Q E s:=by
 have hTd:s.TypeIs (.ref d) "dict":=⟨od,dE,jR⟩;unfold Builtin.Frozenset.updateFrom Builtin.Frozenset.isAnySet orM;refine Aa (Aa (wpAny_isInstance hTd F.sub_dict_set ?_));refine wpAny_isInstance hTd F.sub_dict_frozenset ?_;simp only[Ai,if_false];refine Aa (wpAny_typeOf hTd ?_);rw[if_pos (by decide)];refine Aa (wpAny_rule ?_);unfold Builtin.Frozenset.addrOf;refine Aa (Ac ?_);rw[if_neg (by rw[dq]; exact Ao)];refine Aa (wpAny_dictEpoch dE ax ?_);refine Aa (AR dE ax ?_);refine Aa (zgh X hm (by omega) fun h1 o1 eU cZ t1 X1 aM=>?_);have k6:h1.get? d=some od:=by rw[aM.2 d hne]; exact dE
 refine Aa (AR (s:={ s with heap:=h1 }) k6 ax ?_);refine Aa ?_;rw[Std.Legacy.Range.forIn_eq_forIn_range'];simp only[Std.Legacy.Range.size,Nat.sub_zero,Nat.add_sub_cancel,Nat.div_one];refine wpAny_forIn_list _
  (fun rest _ s'=>∃h' i,s'={ s with heap:=h' }/\rest=List.range' i (bI.size - i)/\i<=bI.size/\(∃o es ep t,TS knd h' S o es ep t (dd (vals.take i)) B)/\AC S s.heap h')
  _ ?_ ?_ _ _ ⟨h1,0,rfl,by simp,AQ _,⟨o1,eU,cZ,t1,by simpa[dd] using X1⟩,aM⟩
 ·rintro x rest b s' ⟨h',i,rfl,hr,hi,⟨o',bg,aX,t',X'⟩,gI⟩
  have hlt:i<bI.size:=by
   rcases Nat.lt_or_ge i bI.size with h | h
   ·exact h
   ·rw[Nat.sub_eq_zero_of_le h] at hr; simp at hr
  obtain⟨rfl,eL⟩:x=i/\rest=List.range' (i+1) (bI.size - (i+1)):=by
   have e:bI.size - i=(bI.size - (i+1))+1:=by omega
   rw[e,List.range'_succ] at hr;injection hr with h1 h2
   exact⟨h1,h2⟩
  have hd':h'.get? d=some od:=by rw[gI.2 d hne]; exact dE
  refine Aa (AR (s:={ s with heap:=h' }) hd' ax ?_);rw[Array.getElem?_eq_getElem hlt];have hx:vals[x]?=some vals[x]:=Ah (by omega);obtain⟨q1,q2⟩:=aw x bI[x] _ (by simp[hlt]) hx;show wpAny _ _ (holding [bI[x].key] (setAddHashed S bI[x].key bI[x].hash) >>= _) _ _ _;rw[q1,q2];have hlen:=zaA (vals.take x);rw[AJ] at hlen;refine Aa (AM (zeM X' hu hv (zag (hT x _ hx) X.at_ X.dt gI) (hB x hlt) (by omega) fun r fR kR fu fj kc X2 ck=>?_));have i_:AC S s.heap fR:=gI.trans ck;have lQ:fR.get? d=some od:=by rw[i_.2 d hne]; exact dE
  refine Aa (wpAny_dictEpoch (s:={ s with heap:=fR }) lQ ax ?_);rw[if_neg (by simp)];have etake:vals.take (x+1)=vals.take x++[vals[x]]:=by rw[List.take_add_one,hx]; rfl
  have X3:TS knd fR S kR fu fj kc (dd (vals.take (x+1))) B:=by
   rw[etake,zas]
   by_cases q:vals[x]∈dd (vals.take x)
   ·rw[if_pos q] at X2 ⊢; exact X2
   ·rw[if_neg q] at X2 ⊢; exact X2
  exact Ac ⟨fR,x+1,rfl,eL,hlt,⟨kR,fu,fj,kc,X3⟩,i_⟩
 ·rintro b s' ⟨h',i,rfl,hr,hi,hX,gI⟩
  have hin:i=bI.size:=by
   have e:=congrArg List.length hr;simp at e;omega
  subst hin;rw[Av (by omega)] at hX;exact Ac (h h' hX gI)
end
end STb
end
section
namespace STb
open PySem PySem.SetTable PyProof.Rows
section
variable {prog:Program}{w:World}{K:Type} [DecidableEq K] {knd:KeyKind prog w K}{A:Around}{E:Value->Shared->Prop}{s:Shared}
def zc2 {B:List Addr}{d:Addr}{od:Obj}{bI:Array DictEntry}{lT:Nat}{vals:List (List K)}{adr:Nat->Addr}{Q:Value->Shared->Prop}
  (dE:s.heap.get? d=some od) (jR:od.cls=.type "dict") (ax:od.data=.dict bI lT) (dq:(d == sysModules)=false) (hu:A.units+64<cLine) (hv:∀k v n,knd.is k v=true->hashByValue n v=pure true) (hz:bI.size<=59) (hn:vals.length=bI.size) (hB:∀i,i<bI.size->adr i∈B)
  (aw:∀(i:Nat) e x,bI[i]?=some e->vals[i]?=some x->e.key=.ref (adr i)/\e.hash=An knd x) (hT:∀(j:Nat) x,vals[j]?=some x->AB knd s.heap x (adr j))
  (h:∀h' tk,(∃o es ep t,TS knd h' s.heap.objs.size o es ep t (dd vals) B)->(∀b o,b<s.heap.objs.size->s.heap.get? b=some o->h'.get? b=some o)->Q (.ref s.heap.objs.size) { s with heap:=h',toks:=tk }) :
  wpAny (model prog w) A (call (.type "set") [.ref d]) Q E s:=by
 obtain⟨c,tl,fE⟩:=F.called_set.mro;have gn:=F.called_set.made;have aH:=F.called_set.sub;refine wpAny_call (codeAny_of_tree ?_);show wpAny _ _ (callAny (.type "set") _) _ _ _;refine Ac ⟨Code.quiet_builtin _ (by decide +kernel),codeAny_builtin F.entry_type_call ?_⟩;rw[Around.under_plain (weight_type_call_type "set" [.ref d] []) rfl];have h1:=F.called_set.notType;have h2:=F.called_set.canCreate;have l8:=F.typeCall_set_1 (.ref d)
 repeat (any_goals (first | assumption | wp_step))
 refine codeAny_mono (ze3 (.ref d) (E:=E) (Q₁:=fun obj am=>∃led:Bool,(w.params.followText "set-order"=true \/ led=true)/\obj=.ref s.heap.objs.size/\am={ s with heap:=s.heap.push { cls:=.type "set",dict:=none,data:=.set #[] 0 (.fresh 0 0 led) } }) ⟨_,by cases w.params.followText "set-order" <;> simp,rfl,rfl⟩) fun r am hr=>?_;cases r with
 | error e=>exact hr
 | ok fl=>
  cases fl with
  | ret obj=>
   obtain⟨led,du,rfl,rfl⟩:=hr;have hS:(s.heap.push { cls:=.type "set",dict:=none,data:=.set #[] 0 (.fresh 0 0 led) }).get? s.heap.objs.size=some { cls:=.type "set",dict:=none,data:=.set #[] 0 (.fresh 0 0 led) }:=Ak _ rfl;have iH:Shared.TypeIs { s with heap:=s.heap.push { cls:=.type "set",dict:=none,data:=.set #[] 0 (.fresh 0 0 led) } } (.ref s.heap.objs.size) "set":=⟨_,hS,rfl⟩;have pE:=F.called_set.init.lookup;have qu:=F.called_set.init.bind (.ref s.heap.objs.size)
   repeat (any_goals (first | assumption | wp_step))
   refine codeAny_mono (codeAny_call_builtin (R:=wants (fun r az=>r=.none/\∃h' tk,az={ s with heap:=h',toks:=tk }/\
     (∃o es ep t,TS knd h' s.heap.objs.size o es ep t (dd vals) B)/\
     (∀b o,b<s.heap.objs.size->s.heap.get? b=some o->h'.get? b=some o)) E) F.called_set.init.plain F.entry_set_init (check_set_init_1 iH ?_)) fun dP az aQ=>?_
   ·have nN:d<s.heap.objs.size:=Aj dE
    have X0:TS knd (s.heap.push { cls:=.type "set",dict:=none,data:=.set #[] 0 (.fresh 0 0 led) }) s.heap.objs.size { cls:=.type "set",dict:=none,data:=.set #[] 0 (.fresh 0 0 led) } #[] 0 (.fresh 0 0 led) ([]:List (List K)) B:=
     ⟨hS,⟨rfl,rfl,rfl⟩,rfl,(by simpa using zcX 0 0 led),rfl,List.nodup_nil,fun e he=>by simp at he,fun k hk=>by simp at hk,.inl ⟨rfl,AQ _⟩,(fun e he=>by simp at he),du.imp id fun z=>⟨z,rfl⟩⟩
    unfold Builtin.«set.__init__» noKeywords;generalize hPI:Builtin.Frozenset.updateFrom=PI
    wp_walk
    subst hPI;refine zjM (s:={ s with heap:=s.heap.push { cls:=.type "set",dict:=none,data:=.set #[] 0 (.fresh 0 0 led) } }) X0 rfl (Ae _ dE) jR ax dq (As nN) (by show A.units+1+1<cLine; omega) hv hn hz hB aw
     (fun j x hx=>zaw (hT j x hx) fun o e=>Ae _ e) fun h' hX sb=>?_
    show wpAny _ _ (ret Value.none) _ _ _;refine Ac ⟨rfl,h',s.toks,rfl,hX,fun b o hb e=>?_⟩;rw[sb.2 b (As hb)];exact Ae _ e
   ·cases dP with
    | error e=>exact aQ
    | ok fl₂=>
     cases fl₂ with
     | ret r=>
      obtain⟨rfl,h',tk,rfl,dQ,hk'⟩:=aQ
      repeat (any_goals (first | assumption | wp_step))
      exact h _ _ dQ hk'
     | _=>exact aQ.elim
  | _=>exact hr.elim
end
end STb
end
section
namespace STb
open PySem PySem.SetTable PyProof.Rows
section
variable {prog:Program}{w:World}{K:Type} [DecidableEq K] {knd:KeyKind prog w K}
def TO (knd:KeyKind prog w K) (h:Heap) (S:Addr) (ks:List (List K)) (B:List (List K×Addr)):Prop:=
 ∃o es ep t,h.get? S=some o/\o.ExactSet/\o.data=.set es ep t/\Tb t (es.map (·.1))/\es.size=ks.length/\ks.Nodup/\
  (∀e∈es.toList,∃k b,k∈ks/\(k,b)∈B/\e=(An knd k,Value.ref b))/\(∀k∈ks,∃b,(k,b)∈B/\(An knd k,Value.ref b)∈es.toList)/\
  ((t.mask=7/\es.size<=4) \/ (t.mask=31/\es.size<=18) \/ (t.mask=127/\es.size<=76) \/ (t.mask=15/\es.size<=8) \/ (t.mask=63/\es.size<=37) \/ (t.mask=255/\es.size<=152))/\
  (w.params.followText "set-order"=true \/ (t.led=true/\t.plain=true))
def TO.keep {h h':Heap}{S:Addr}{ks:List (List K)}{B:List (List K×Addr)} (x:TO knd h S ks B) (k:∀o,h.get? S=some o->h'.get? S=some o):TO knd h' S ks B:=
 let ⟨o,es,ep,t,h1,r⟩:=x; ⟨o,es,ep,t,k o h1,r⟩
def TO.of {h:Heap}{S:Addr}{ks:List (List K)}{B:List (List K×Addr)} (x:∃o es ep t,TS knd h S o es ep t ks (B.map (·.2))) (hB:∀p∈B,AB knd h p.1 p.2):TO knd h S ks B:=by
 obtain⟨o,es,ep,t,X⟩:=x;have hin:∀e∈es.toList,∀k b,e=(An knd k,Value.ref b)->AB knd h k b->(k,b)∈B:=fun e he k b e1 e2=>by
  obtain⟨b',hb',e3⟩:=X.ad e he;rw[e1] at e3;obtain rfl:b=b':=by simpa using e3
  obtain⟨p,hp,rfl⟩:=List.mem_map.mp hb';obtain rfl:=e2.inj (hB p hp);exact hp
 refine⟨o,es,ep,t,X.at_,X.ex,X.dt,X.tb,X.sz,X.nd,fun e he=>?_,fun k hk=>?_,X.msk,X.wk⟩
 ·obtain⟨k,b,a1,a2,a3⟩:=X.el e he
  exact⟨k,b,a1,hin e he k b a2 a3,a2⟩
 ·obtain⟨b,a1,a2⟩:=X.ke k hk
  exact⟨b,hin _ a1 k b rfl a2,a1⟩
def TO.ts {h:Heap}{S:Addr}{ks:List (List K)}{B:List (List K×Addr)} (x:TO knd h S ks B) (hB:∀p∈B,AB knd h p.1 p.2):∃o es ep t,TS knd h S o es ep t ks (B.map (·.2)):=by
 obtain⟨o,es,ep,t,h1,h2,h3,h4,h5,h6,h7,h8,h9,h10⟩:=x;refine⟨o,es,ep,t,h1,h2,h3,h4,h5,h6,fun e he=>?_,fun k hk=>?_,h9,fun e he=>?_,h10⟩
 ·obtain⟨k,b,a1,a2,a3⟩:=h7 e he
  exact⟨k,b,a1,a3,hB _ a2⟩
 ·obtain⟨b,a1,a2⟩:=h8 k hk
  exact⟨b,a2,hB _ a1⟩
 ·obtain⟨k,b,a1,a2,a3⟩:=h7 e he
  exact⟨b,List.mem_map.mpr ⟨_,a2,rfl⟩,by rw[a3]⟩
end
end STb
namespace L2
open PySem PySem.Spec PyProof.Rows
def SetT (P:Program) (w:World) (D:Addr) (ks:List (List Int)) (B:List (List Int×Addr)):HO:=.ext fun h=>STb.TO (intKind P w) h D ks B
def TB (H:Hp) (B:List (List Int×Addr)):Prop:=∀p∈B,Tp H p.2 p.1
def TB.mono {H H':Hp}{B:List (List Int×Addr)} (h:TB H B) (e:Same H H'):TB H' B:=fun p hp=>e.tp (h p hp)
def TB.zip {H:Hp}{as:List Addr}{ae:List (List Int)} (h:Tps H as ae):TB H (ae.zip as):=by
 induction h with
 | nil=>intro p hp; simp at hp
 | cons q t ih=>
  intro p hp;rw[List.zip_cons_cons] at hp;rcases List.mem_cons.mp hp with rfl | hp
  ·exact q
  ·exact ih p hp
section
variable {X:Cx}
def TB.keys {aa:List (Addr×Obj)}{s:Shared}{σ:St}{H:Hp}{B:List (List Int×Addr)} (h:TB H B) (I:Inv X aa σ H s):∀p∈B,AB (intKind X.prog X.w) s.heap p.1 p.2:=fun p hp=>by
 obtain⟨ah,r2,p2,_⟩:=I.tuple (SqT.of (K:=X.K) (h p hp));exact zhw p2 (intsAre_of r2)
def zeL {P:Program}{w:World}{H:Hp}{h:Heap}{D:Addr}{ks:List (List Int)}{B:List (List Int×Addr)} (x:STb.TO (intKind P w) h D ks B):zx P w H h D (SetT P w D ks B):=
 ⟨x,(let ⟨o,_,_,_,h1,_⟩:=x; ⟨o,h1⟩),fun h1 h2 y kp=>y.keep fun o e=>kp o e⟩
def zex {aa:List (Addr×Obj)}{s:Shared}{σ:St}{H:Hp}{D:Addr}{ks:List (List Int)}{B:List (List Int×Addr)} (I:Inv X aa σ H s) (e:H D=some (SetT X.prog X.w D ks B)):STb.TO (intKind X.prog X.w) s.heap D ks B:=
 (show zx X.prog X.w H s.heap D (SetT X.prog X.w D ks B) from I.hok D _ e).1
def zdm (hc:X.calm=true) (hu:X.A.units+64<cLine):zX X (.type "set") (fun xs H Q=>∃(l:Addr) (as:List Addr) (ae:List (List Int)),xs=[.ref l]/\SqL X.K H l (as.map V.ref)/\Tps H as ae/\ae.length<=59/\
  ∀D,H D=none->Q (.ref D) (upd H D (SetT X.prog X.w D (STb.dd ae) (ae.zip as)))):=by
 intro aa s σ H xs us Q I r h;obtain⟨l,as,ae,rfl,hq,hp,hz,q⟩:=h;obtain⟨u,rfl,ru⟩:=vals1 r;cases ru;obtain⟨ah,r1,p1,_⟩:=I.list hq;obtain rfl:=vals_refs r1;have aG:=hp.length;have bP:=(TB.zip hp).keys I;have gK:(ae.zip as).map (·.2)=as:=by rw[List.map_snd_zip (by omega)]
 refine STb.zaN (B:=as) (knd:=intKind X.prog X.w) (vals:=ae) (adr:=fun i=>as.getD i 0) (I.ok.hd hc) p1.isList hu zdt (by rw[Ag,Ab]; omega) (by rw[Ag,Ab]; omega) (fun i hi=>by rw[Ag,Ab] at hi; rw[AL,Ah hi]; exact List.getElem_mem hi)
  (fun i v e=>?_) (fun j x e=>?_) fun h' tk T kk=>?_
 ·have e':(as.map Value.ref)[i]?=some v:=by simpa using e
  rw[Am] at e';cases ea:as[i]? with
  | none=>rw[ea] at e'; simp at e'
  | some a=>
   rw[ea] at e';rw[<- Al e',AL,ea]
   rfl
 ·have hj:j<as.length:=by rw[aG]; exact (List.getElem?_eq_some_iff.mp e).1
  have ea:as[j]?=some as[j]:=Ah hj;rw[AL,ea];refine bP (x,as[j]) (At (i:=j) ?_);rw[List.getElem?_zip_eq_some];exact⟨e,ea⟩
 ·refine⟨.ref s.heap.objs.size,_,I.laid (o:=SetT X.prog X.w s.heap.objs.size (STb.dd ae) (ae.zip as)) (fun b u e=>kk b u (Aj e) e) (Af _) (zeL (STb.TO.of (by rw[gK]; exact T) fun p hp=>?_)),rfl,q _ (I.hok.fresh (Af _))⟩
  exact STb.zaw (bP p hp) fun o e=>kk _ o (Aj e) e
def zl8 (hu:X.A.units+64<cLine):OpR X (binaryOp .Sub) (fun x y H Q=>∃D1 D2 bG bN B1 B2,x=.ref D1/\y=.ref D2/\H D1=some (SetT X.prog X.w D1 bG B1)/\H D2=some (SetT X.prog X.w D2 bN B2)/\TB H B1/\TB H B2/\bG.length<60/\¬ bG.length / 4 > bN.length/\
  ∀kr,(∀k,k∈kr ↔ k∈bG/\k∉bN)->∀D,H D=none->Q (.ref D) (upd H D (SetT X.prog X.w D kr B1))):=by
 intro aa s σ H x y v u Q I rx ry h;obtain⟨D1,D2,bG,bN,B1,B2,rfl,rfl,e1,e2,b1,b2,hz,hq,q⟩:=h;cases rx;cases ry;obtain⟨o1,eU,cZ,t1,X1⟩:=(zex I e1).ts (b1.keys I);obtain⟨o2,gA,gX,t2,X2⟩:=(zex I e2).ts (b2.keys I);refine STb.zjj X1 X2 hu zdt hz hq fun h' kr T kk hm=>?_;refine⟨.ref s.heap.objs.size,_,I.laid (t':=s.toks) (o:=SetT X.prog X.w s.heap.objs.size kr B1) (fun b u e=>kk b u (Aj e) e) (Af _) (zeL (STb.TO.of T fun p hp=>?_)),rfl,q kr hm _ (I.hok.fresh (Af _))⟩;exact STb.zaw (b1.keys I p hp) fun o e=>kk _ o (Aj e) e
def zdr:zX X (.builtin "len") (fun xs H Q=>∃D ks B,xs=[.ref D]/\H D=some (SetT X.prog X.w D ks B)/\Q (.int ks.length) H):=by
 intro aa s σ H xs us Q I r h;obtain⟨D,ks,B,rfl,hq,q⟩:=h;obtain⟨u,rfl,ru⟩:=vals1 r;cases ru;obtain⟨o,es,ep,t,h1,h2,h3,h4,h5,h6,h7,h8,h9,h10⟩:=zex I hq;have hs:es.size<=152:=by rcases h9 with z | z | z | z | z | z <;> omega
 exact call_len_set h1 h2 h3 (STb.fits_of h4) (by omega) ⟨.int ks.length,H,I.tok _,⟨_,by rw[h5]⟩,q⟩
end
end L2
end
section
namespace L2
open PySem PySem.Spec PyProof.Rows
def zfI {P:Program}{w:World} (ps:List Int):An (zu P w) (ps.map Sum.inl)=An (intKind P w) ps:=by
 unfold An;rw[Az]
 rfl
section
variable {X:Cx}
def zei (hu:X.A.units+64<cLine):zX X (.type "set") (fun xs H Q=>∃(a:Addr) (kvs:List (List Key×V)) (ae:List (List Int)),xs=[.ref a]/\Rd H a (.dT kvs)/\kvs.map (·.1)=ae.map (·.map Sum.inl)/\ae.length<=59/\
  ∀B,TB H B->∀D,H D=none->Q (.ref D) (upd H D (SetT X.prog X.w D (STb.dd ae) B))):=by
 intro aa s σ H xs us Q I r h;obtain⟨a,kvs,ae,rfl,hq,hp,hz,q⟩:=h;obtain⟨u,rfl,ru⟩:=vals1 r;cases ru;obtain⟨z,y,ys,rel,o,es,ep,h1,h2,h3,h4,h5⟩:=(show zx X.prog X.w H s.heap a (.dT kvs) from hq.ok I.hok);have hyl:kvs.length=ys.length:=AX rel;have hpl:kvs.length=ae.length:=by simpa using congrArg List.length hp
 have hl:es.size=ys.length:=by
  have:=congrArg List.length h4;rw[Ab] at this
  simpa using this
 have tps:Tps H (ys.map (·.2.1)) ae:=by
  have:∀{l:List (List Key×V)} {m:List (List Key×Addr×Value)} {ae:List (List Int)},KT H l m->l.map (·.1)=ae.map (·.map Sum.inl)->Tps H (m.map (·.2.1)) ae:=by
   intro l m ae q
   induction q generalizing ae with
   | nil=>intro e; cases ae with
    | nil=>exact .nil
    | cons p ps=>simp at e
   | cons hq t ih=>intro e; cases ae with
    | nil=>simp at e
    | cons p ps=>
     simp only[AH,List.cons.injEq] at e;refine .cons ?_ (ih e.2);have:=hq.2.1;rw[e.1,Az] at this;exact this
  exact this rel hp
 have yk:ys.map (·.1)=ae.map (·.map Sum.inl):=by
  rw[<- hp];have:∀{l:List (List Key×V)} {m:List (List Key×Addr×Value)},KT H l m->m.map (·.1)=l.map (·.1):=by
   intro l m q
   induction q with
   | nil=>rfl
   | cons hq t ih=>rw[AH,AH,ih,hq.1]
  exact this rel
 have qw:=TB.zip tps;have bP:=qw.keys I;have gK:(ae.zip (ys.map (·.2.1))).map (·.2)=ys.map (·.2.1):=by rw[List.map_snd_zip (by rw[Ab]; omega)]
 refine STb.zc2 (B:=ys.map (·.2.1)) (knd:=intKind X.prog X.w) (vals:=ae) (adr:=fun i=>(ys.map (·.2.1)).getD i 0) h1 h2.1 h3 y hu zdt (by omega) (by omega) (fun i hi=>by rw[AL,Ah (by rw[Ab]; omega)]; exact List.getElem_mem _)
  (fun i e x e1 e2=>?_) (fun j x e=>?_) fun h' tk T kk=>?_
 ·have hi:i<ys.length:=by rw[<- hl]; exact (Array.getElem?_eq_some_iff.mp e1).1
  have g3:es.toList[i]?=some e:=by simpa using e1
  have g4:ys[i]?=some ys[i]:=Ah hi;rw[h4,Am,g4] at g3;simp only[Option.map_some,Option.some.injEq] at g3;have g5:=congrArg (·[i]?) yk;simp only[Am,g4,e2,Option.map_some,Option.some.injEq] at g5;rw[<- g3,AL,Am,g4];refine⟨rfl,?_⟩;show An (zu X.prog X.w) ys[i].1=_;rw[g5,zfI]
 ·have hj:j<(ys.map (·.2.1)).length:=by rw[Ab,<- hyl,hpl]; exact (List.getElem?_eq_some_iff.mp e).1
  have ea:(ys.map (·.2.1))[j]?=some (ys.map (·.2.1))[j]:=Ah hj;rw[AL,ea];refine bP (x,(ys.map (·.2.1))[j]) (At (i:=j) ?_);rw[List.getElem?_zip_eq_some];exact⟨e,ea⟩
 ·refine⟨.ref s.heap.objs.size,_,I.laid (o:=SetT X.prog X.w s.heap.objs.size (STb.dd ae) (ae.zip (ys.map (·.2.1)))) (fun b u e=>kk b u (Aj e) e) (Af _) (zeL (STb.TO.of (by rw[gK]; exact T) fun p hp=>?_)),rfl,q _ qw _ (I.hok.fresh (Af _))⟩
  exact STb.zaw (bP p hp) fun o e=>kk _ o (Aj e) e
end
end L2
end
section
namespace L2
open PySem PySem.Spec PyProof.Rows
def zcw {α:Type} (f:α->Int):∀(l:List α),(l.map f).Nodup->∀c,(l.filter fun x=>f x == c).length<=1
 | [],_,c=>by simp
 | x::l,h,c=>by
  rw[AH,List.nodup_cons] at h;have ih:=zcw f l h.2 c
  by_cases q:f x=c
  ·rw[List.filter_cons_of_pos (by simpa using q)]
   have:l.filter (fun x=>f x == c)=[]:=List.filter_eq_nil_iff.mpr fun y hy z=>h.1 (by rw[q,<- (by simpa using z:f y=c)]; exact List.mem_map_of_mem hy);rw[this];simp
  ·rw[List.filter_cons_of_neg (by simpa using q)]
   exact ih
section
variable {X:Cx}
def zF:zX X (.type "dict") (fun xs H Q=>∃(a:Addr) (kvs:List (List Key×V)) (ae:List (List Int)),xs=[.ref a]/\Rd H a (.dT kvs)/\kvs.map (·.1)=ae.map (·.map Sum.inl)/\(ae.map (An (intKind X.prog X.w))).Nodup/\
  ∀D,H D=none->Q (.ref D) (upd H D (.dT kvs))):=by
 intro aa s σ H xs us Q I r h;obtain⟨a,kvs,ae,rfl,hq,hp,hn,q⟩:=h;obtain⟨u,rfl,ru⟩:=vals1 r;cases ru;obtain⟨z,y,ys,rel,o,es,ep,h1,h2,h3,h4,h5⟩:=(show zx X.prog X.w H s.heap a (.dT kvs) from hq.ok I.hok);have hyl:kvs.length=ys.length:=AX rel;have hl:es.size=ys.length:=by
  have:=congrArg List.length h4;rw[Ab] at this
  simpa using this
 have yk:ys.map (·.1)=ae.map (·.map Sum.inl):=by
  rw[<- hp];have:∀{l:List (List Key×V)} {m:List (List Key×Addr×Value)},KT H l m->m.map (·.1)=l.map (·.1):=by
   intro l m q
   induction q with
   | nil=>rfl
   | cons hq t ih=>rw[AH,AH,ih,hq.1]
  exact this rel
 have hhash:es.toList.map (·.hash)=ae.map (An (intKind X.prog X.w)):=by
  rw[h4,Az];have e1:ys.map ((·.hash) ∘ entryOfKey (tupleKind (zu X.prog X.w)))=(ys.map (·.1)).map (An (zu X.prog X.w)):=by rw[Az]; rfl
  rw[e1,yk,Az];exact List.map_congr_left fun ps _=>zfI ps
 have tk:∀e∈es.toList,∃b,e.key=.ref b/\s.TypeIs (.ref b) "tuple":=fun e he=>by
  rw[h4] at he;obtain⟨w',hw,rfl⟩:=List.mem_map.mp he;have:∀{l:List (List Key×V)} {m:List (List Key×Addr×Value)},KT H l m->∀w'∈m,∃ks:List Key,H w'.2.1=some (.tup (ks.map kV)):=by
   intro l m q
   induction q with
   | nil=>intro w' hw; cases hw
   | cons hq t ih=>
    intro w' hw;rcases List.mem_cons.mp hw with rfl | hw
    ·exact⟨_,hq.2.1⟩
    ·exact ih w' hw
  obtain⟨ks,bP⟩:=this rel w' hw;exact⟨w'.2.1,rfl,(zcE (P:=X.prog) (w:=X.w) I.hok bP).typeIs⟩
 refine DCp.zcr h1 h2 h3 y (by omega) tk (fun e he=>?_) fun h' aX hD kk=>?_
 ·have:=zcw (fun e:DictEntry=>e.hash) es.toList (by rw[hhash]; exact hn) e.hash
  rw[<- AS,Array.toList_filter];exact this
 ·have fL:=I.hok.fresh (Af s.heap.objs.size)
  have hy:(s.heap.objs.size == sysModules)=false:=by
   have:=I.big
   simpa using A1 this
  have hkt:KT (upd H s.heap.objs.size (.dT kvs)) kvs ys:=KT.keeps rel fun b zs e=>by rw[zh (zg e fL)]; exact e
  exact⟨.ref s.heap.objs.size,_,I.laid (t':=s.toks) (o:=.dT kvs) (fun b u e=>kk b u (Aj e) e) (Af _) (show zx X.prog X.w _ h' _ (.dT kvs) from ⟨z,hy,ys,hkt,_,es,aX,hD,⟨rfl,rfl,rfl⟩,rfl,h4,h5⟩),rfl,q _ fL⟩
end
end L2
end
section
namespace L2
open PySem PySem.Spec PyProof.Rows
mutual
inductive DV (K:Ad) (H:Hp):V->PyData->Prop where
 | bl (b:Bool):DV K H (.bl b) (.bool b)
 | int (i:Int):DV K H (.int i) (.int i)
 | str (z:Str):DV K H (.str z) (.str z)
 | lst {l:Addr} {xs:List V} {ds:List PyData} (h:SqL K H l xs) (t:DVs K H xs ds):DV K H (.ref l) (.list ds)
inductive DVs (K:Ad) (H:Hp):List V->List PyData->Prop where
 | nil:DVs K H [] []
 | cons {x:V} {d:PyData} {xs:List V} {ds:List PyData} (h:DV K H x d) (t:DVs K H xs ds):DVs K H (x::xs) (d::ds)
end
section
variable {X:Cx}{aa:List (Addr×Obj)}{σ:St}{H:Hp}{s:Shared}
mutual
def DV.reads (I:Inv X aa σ H s):∀{x:V}{d:PyData}{u:Value},DV X.K H x d->RelV x u->∃ads,Reads s.heap u d ads
 | _,_,_,.bl b,r=>by cases r; exact⟨_,.bool b⟩
 | _,_,_,.int i,r=>by obtain⟨t,rfl⟩:=r; exact⟨_,.int i t⟩
 | _,_,_,.str z,r=>by obtain⟨t,rfl⟩:=r; exact⟨_,.str z t⟩
 | _,_,_,.lst h t,r=>by
  cases r;obtain⟨ah,rv,p,_⟩:=I.list h;obtain⟨o,ho,hc,n,hd⟩:=p.isList;obtain⟨ads,q⟩:=DVs.reads I t rv;exact⟨_,.list ho hc hd (by simpa using q)⟩
def DVs.reads (I:Inv X aa σ H s):∀{xs:List V}{ds:List PyData}{us:List Value},DVs X.K H xs ds->Vals xs us->∃ads,ReadsAll s.heap us ds ads
 | _,_,_,.nil,.nil=>⟨_,.nil⟩
 | _,_,_,.cons h t,.cons r rs=>by
  obtain⟨a,q⟩:=DV.reads I h r;obtain⟨b,q'⟩:=DVs.reads I t rs;exact⟨_,.cons q q'⟩
end
end
def rEqD (ip:Bool) (K:Ad):R2:=fun x y H Q=>∃d e,DV K H x d/\DV K H y e/\SeqAt.shaped d=true/\SeqAt.shaped e=true/\SeqAt.noMix d e=true/\Q (.bl (if ip then !same d e else same d e)) H
section
variable {X:Cx}
def zmA (hu:X.A.units+64<cLine):OpR X (compareOp .Eq) (rEqD false X.K):=by
 intro aa s σ H x y v u Q I rx ry h;obtain⟨d,e,h1,h2,s1,s2,nm,q⟩:=h;obtain⟨a1,r1⟩:=h1.reads I rx;obtain⟨a2,r2⟩:=h2.reads I ry;exact eq_dataH_same r1 r2 s1 s2 hu nm ⟨.bl _,H,I,rfl,q⟩
end
end L2
end
section
namespace L2
open PySem PySem.Spec PyProof.Rows
def znR (i j:Int):Prop:=0<j/\j<18446744073709551616
section
variable {X:Cx}
def zfF:OpR X (binaryOp .FloorDiv) (rI znR fun i j=>.int (i / j)):=opI fun i j _ _ _ _ _ hc q=>by
 have h1:(0:Int)<j:=hc.1;have h2:j<18446744073709551616:=hc.2;refine floordiv_int (by omega) (by rw[Int.fdiv_eq_ediv_of_nonneg i (by omega)]; exact q) (.inl (PyProof.noPylong_of_log2 ?_));have h0:j.natAbs≠0:=by omega
 have h64:j.natAbs.log2<64:=(Nat.log2_lt h0).mpr (by omega);omega
end
end L2
end
section
namespace K19
open K1
open PySem L2 STb
abbrev zk7:Stmt:=top 58
abbrev sBox:Stmt:=top 59
abbrev zgF:Stmt:=top 60
def zna (x y:Int):Prop:=0<=x/\(y=0 \/ (y=1/\x<4294967296))
def zN (H:Hp) (p:Addr):Prop:=∃x y,H p=some (.lst [.int x,.int y])/\zna x y
def zr (p:Addr) (H H':Hp):Prop:=∀b o,b≠p->H b=some o->H' b=some o
def zr.trans {p:Addr}{H H1 H2:Hp} (a:zr p H H1) (b:zr p H1 H2):zr p H H2:=fun c o hc e=>b c o hc (a c o hc e)
def zr.of {p:Addr}{H H1:Hp} (a:Same H H1):zr p H H1:=fun c o _ e=>a c o e
def zr.free {p:Addr}{H H':Hp} (e:zr p H H') (hb:zN H p) (hb':zN H' p) {l:Addr} (h:H' l=none):H l=none:=by
 cases q:H l with
 | none=>rfl
 | some o=>
  obtain⟨x,y,e1,_⟩:=hb';have hl:l≠p:=fun z=>by rw[z,e1] at h; cases h
  rw[e l o hl q] at h;cases h
def zN.same {H H':Hp}{p:Addr} (b:zN H p) (e:Same H H'):zN H' p:=let ⟨x,y,h,o⟩:=b; ⟨x,y,e _ _ h,o⟩
def zN.ne {H:Hp}{p l:Addr}{as:List Addr} (b:zN H p) (h:H l=some (.lst (as.map V.ref))):l≠p:=by
 obtain⟨x,y,e,_⟩:=b;refine zaX h e fun z=>?_;injection z with z
 cases as with
 | nil=>cases z
 | cons a r=>rw[AH] at z; cases z
def zN.net {H:Hp}{p t:Addr}{xs:List V} (b:zN H p) (h:H t=some (.tup xs)):t≠p:=by
 obtain⟨x,y,e,_⟩:=b;exact zaX h e (by intro z; cases z)
def zr.tp {p:Addr}{H H':Hp}{a:Addr}{ps:List Int} (e:zr p H H') (b:zN H p) (h:Tp H a ps):Tp H' a ps:=e _ _ (b.net h) h
def zr.tps {p:Addr}{H H':Hp}{as:List Addr}{ae:List (List Int)} (e:zr p H H') (b:zN H p) (h:Tps H as ae):Tps H' as ae:=Paired.mapP h fun _ _ q=>e.tp b q
def zr.then {p:Addr}{H H1:Hp}{a:Addr}{o:HO} (e:zr p H H1) (h:H a=none):zr p H (L2.upd H1 a o):=fun b u hb q=>by rw[zh (zg q h)]; exact e b u hb q
def zN.upd {H:Hp}{p l:Addr}{o:HO} (b:zN H p) (h:l≠p):zN (L2.upd H l o) p:=let ⟨x,y,e,k⟩:=b; ⟨x,y,by rw[zh h.symm]; exact e,k⟩
def zN.new {H:Hp}{p l:Addr}{o:HO} (b:zN H p) (h:H l=none):zN (L2.upd H l o) p:=b.same (Same.new h)
section
variable {P:Program}{w:World}{K:Ad}{mg:Str->Option Value}{base:Heap}
def zkl (K:Ad):Sp:=fun vs H Q _=>∃(l:Addr) (ns:List Int),vs=[.ref l,.int 0]/\SqL K H l (ns.map V.int)/\∀n,Q (.int n) H
def zmJ:zi ["script","k"] ["script","k"] (zf zk7):=⟨rfl,rfl,rfl,by decide +kernel,rfl,by decide +kernel,by decide +kernel⟩
def zkO {f:Addr}{fd:FuncData} (F:Fun K "_law_cell_at" "_law_cell_at" zk7 f fd) (B:Bt mg):FnOk P w K mg base CX0 1 f fd ["script","k"] (zkl K):=by
 refine F.ok zmJ (fun vs H Q E h=>?_) (fun cdv A outer s H vs Q E hr h=>?_)
 ·obtain⟨l,ns,rfl,_⟩:=h; rfl
 ·obtain⟨l,ns,rfl,hl,k⟩:=h
  refine⟨_,za (zD (zp zgd (pv 1) (zq zt rfl B.len zau (pa_cons (pv 0) pa_nil)) (nomark _)) (zd (zl (zaz zV (pv 0) (pv 1) (fun _ _=>rfl)))) zn) (zd (zl ze)),?_⟩;refine⟨_,rfl,_,rfl,l,_,rfl,.inl hl,_,_,rfl,rfl,_,rfl,?_⟩;refine ite2 (fun h1=>?_) (fun h1=>?_)
  ·cases ns with
   | nil=>have:=of_decide_eq_true h1; simp at this
   | cons n ns=>exact⟨_,rfl,_,rfl,l,_,_,_,rfl,rfl,hl,zS (j:=0) rfl,k n⟩
  ·exact k 0
def zng:Sp:=fun vs H Q _=>∃n,vs=[.int n]/\∀p x y,H p=none->zna x y->Q (.ref p) (upd H p (.lst [.int x,.int y]))
def zn1:zi ["cell"] ["cell"] (zf sBox):=⟨rfl,rfl,rfl,by decide +kernel,rfl,by decide +kernel,by decide +kernel⟩
def zmZ {f:Addr}{fd:FuncData} (F:Fun K "_law_box" "_law_box" sBox f fd):FnOk P w K mg base CX0 1 f fd ["cell"] zng:=by
 refine F.ok zn1 (fun vs H Q E h=>?_) (fun cdv A outer s H vs Q E hr h=>?_)
 ·obtain⟨n,rfl,_⟩:=h; rfl
 ·obtain⟨n,rfl,k⟩:=h
  refine⟨_,za (zD (zp zni (pv 0) (zw zef ze ze) (nomark _)) (zd (zl (zC (pa_cons (zw zkq (pv 0) (zw zef ze ze)) (pa_cons ze pa_nil))))) zn)
   (zd (zl (zC (pa_cons (zw zbA (zw zaq (zw zbk (zw zbA (pv 0) (zw zef ze ze)) ze) ze) ze) (pa_cons ze pa_nil))))),?_⟩
  have hc:CPow 10 18:=⟨by decide,by decide,by decide⟩;have u_:(10:Int) ^ (18:Int).toNat=1000000000000000000:=by decide
  refine⟨_,rfl,_,_,rfl,rfl,hc,_,_,rfl,rfl,_,rfl,?_⟩;refine ite2 (fun h1=>?_) (fun h1=>?_)
  ·refine⟨_,rfl,_,_,rfl,rfl,hc,_,_,rfl,rfl,zb (by simp),fun p hp=>k p _ 0 hp ⟨?_,.inl rfl⟩⟩
   have:=of_decide_eq_true h1;omega
  ·refine⟨_,rfl,_,_,rfl,rfl,hc,_,_,rfl,rfl,(by show (0:Int)<10 ^ (18:Int).toNat; rw[u_]; decide),_,_,rfl,rfl,.inr ⟨by decide,by decide⟩,_,_,rfl,rfl,_,_,rfl,rfl,(by show (0:Int)<2147483629; decide),zb (by simp),fun p hp=>k p _ 1 hp ⟨?_,.inr ⟨rfl,?_⟩⟩⟩
   ·exact Int.emod_nonneg _ (by decide)
   ·have:=Int.emod_lt_of_pos (n % 10 ^ (18:Int).toNat*69621+7001) (show (0:Int)<2147483629 by decide)
    omega
def zdV:Sp:=fun vs H Q _=>∃p m,vs=[.ref p,.int m]/\zN H p/\0<m/\m<18446744073709551616/\∀r H',0<=r->r<m->zr p H H'->zN H' p->Q (.int r) H'
def zhY:zi ["box","most","found","mixed"] ["box","most"] (zf zgF):=⟨rfl,rfl,rfl,by decide +kernel,rfl,by decide +kernel,by decide +kernel⟩
def zdv {f:Addr}{fd:FuncData} (F:Fun K "_law_take" "_law_take" zgF f fd):FnOk P w K mg base CX0 1 f fd ["box","most"] zdV:=by
 refine F.ok zhY (fun vs H Q E h=>?_) (fun cdv A outer s H vs Q E hr h=>?_)
 ·obtain⟨p,m,rfl,_⟩:=h; rfl
 ·obtain⟨p,m,rfl,⟨x,y,hp,h0,o6⟩,jg,hm,k⟩:=h
  refine⟨_,za (zD (zp zaK (zaz zV (pv 0) ze (fun _ _=>rfl)) ze (nomark _))
    (za (zo (i:=2) zhY.nd rfl (Or.inl rfl) (zw zbA (zaz zV (pv 0) ze (fun _ _=>rfl)) (pv 1)))
    (za (zkk (zw zfF (zaz zV (pv 0) ze (fun _ _=>rfl)) (pv 1)) (zkx (pv 0) ze set_list))
    (zd (zl (pv 2))))) zn)
   (za (zo (i:=3) zhY.nd rfl (Or.inl rfl) (zw zbA (zw zaq (zw zaq (zw zbk (zaz zV (pv 0) ze (fun _ _=>rfl)) (zaz zV (pv 0) ze (fun _ _=>rfl))) (zw zbk ze (zaz zV (pv 0) ze (fun _ _=>rfl)))) ze) ze))
   (za (zkk (zw zbA (zw zaq (zw zaq (zw zbk (pv 3) (pv 3)) (zw zbk ze (pv 3))) ze) ze) (zkx (pv 0) ze set_list))
   (zd (zl (zw zbA (zw zfF (zaz zV (pv 0) ze (fun _ _=>rfl)) ze) (pv 1)))))),?_⟩
  have a0:atI ([.int x,.int y]:List V) 0=some (.int x):=zS (j:=0) rfl;have a1:atI ([.int x,.int y]:List V) 1=some (.int y):=zS (j:=1) rfl;refine⟨_,rfl,p,_,_,_,rfl,rfl,SqL.of hp,a1,rfl,_,rfl,?_⟩;refine ite2 (fun h1=>?_) (fun h1=>?_)
  ·refine⟨_,rfl,p,_,_,_,rfl,rfl,SqL.of hp,a0,_,rfl,_,_,rfl,rfl,jg,?_⟩
   refine⟨_,rfl,p,_,_,_,rfl,rfl,SqL.of hp,a0,_,rfl,_,_,rfl,rfl,⟨jg,hm⟩,_,rfl,p,_,_,0,rfl,rfl,hp,rfl,?_⟩;refine⟨_,rfl,k (x % m) _ (Int.emod_nonneg _ (by omega)) (Int.emod_lt_of_pos _ jg) (fun b o hb e=>by rw[zh hb]; exact e) ⟨x / m,y,upd_same,Int.ediv_nonneg h0 (by omega),?_⟩⟩;rcases o6 with q | ⟨q,hx⟩
   ·exact .inl q
   ·refine .inr ⟨q,Int.lt_of_le_of_lt (Int.ediv_le_self _ h0) hx⟩
  ·have hy:y=1/\x<4294967296:=by
    rcases o6 with q | q
    ·exact absurd (by subst q; rfl) h1
    ·exact q
   obtain⟨rfl,hx⟩:=hy;have hb:CMul x x:=.inl ⟨by omega,by omega⟩;refine⟨_,rfl,p,_,_,_,rfl,rfl,SqL.of hp,a0,_,rfl,p,_,_,_,rfl,rfl,SqL.of hp,a0,_,_,rfl,rfl,hb,_,rfl,p,_,_,_,rfl,rfl,SqL.of hp,a0,_,_,rfl,rfl,.inl ⟨by decide,by decide⟩,_,_,rfl,rfl,_,_,rfl,rfl,_,_,rfl,rfl,(by show (0:Int)<2147483647; decide),?_⟩;have m0:=Int.emod_nonneg (x*x+39373*x+12345) (show (2147483647:Int)≠0 by decide);have m1:=Int.emod_lt_of_pos (x*x+39373*x+12345) (show (0:Int)<2147483647 by decide);obtain⟨z,ez⟩:∃z,z=(x*x+39373*x+12345) % 2147483647:=⟨_,rfl⟩;rw[<- ez] at m0 m1;show tSeq _ _ _ ([some (.ref p),some (.int m),none,some (.int ((x*x+39373*x+12345) % 2147483647))]:St) H;rw[<- ez];refine⟨_,rfl,_,rfl,_,_,rfl,rfl,.inl ⟨by omega,by omega⟩,_,rfl,_,_,rfl,rfl,.inl ⟨by decide,by decide⟩,_,_,rfl,rfl,_,_,rfl,rfl,_,_,rfl,rfl,(by show (0:Int)<2147483587; decide),_,rfl,p,_,_,0,rfl,rfl,hp,rfl,?_⟩;have g0:=Int.emod_nonneg (z*z+16807*z+7) (show (2147483587:Int)≠0 by decide);have g1:=Int.emod_lt_of_pos (z*z+16807*z+7) (show (0:Int)<2147483587 by decide);obtain⟨u,eu⟩:∃u,u=(z*z+16807*z+7) % 2147483587:=⟨_,rfl⟩;rw[<- eu] at g0 g1;have oX:upd H p (.lst [.int ((z*z+16807*z+7) % 2147483587),.int 1]) p=some (.lst [.int u,.int 1]):=by rw[eu]; exact upd_same
   refine⟨_,rfl,p,_,_,_,rfl,rfl,SqL.of oX,zS (j:=0) rfl,_,_,rfl,rfl,⟨by decide,by decide⟩,_,rfl,_,_,rfl,rfl,jg,?_⟩;exact k _ _ (Int.emod_nonneg _ (by omega)) (Int.emod_lt_of_pos _ jg) (fun b o hb e=>by rw[zh hb]; exact e) ⟨u,1,oX,g0,.inr ⟨rfl,by omega⟩⟩
end
end K19
end
section
namespace K19
open K1
open PySem L2 STb
abbrev zb7:Stmt:=top 61
abbrev zdf:Stmt:=top 62
section
variable {P:Program}{w:World}{K:Ad}{mg:Str->Option Value}{base:Heap}
def zeQ {H2:Hp}{as:List Addr}{fs:List (List Int)}{D l:Addr}{Q:VK} (hl:H2 l=some (.lst (as.map V.ref))) (ht:Tps H2 as fs) (hz:as.length<=100) (hD:H2 D=none)
  (k:∀bs H3,Same H2 H3->H3 D=some (.lst (bs.map V.ref))->Tps H3 bs (fs.filter fun q=>!decide (q=[]))->Q (.ref D) H3) :
  zaf (Itl K l) (zZ 0) (zgN (tOp (rEqT true K) (tVar 0) (tTup tNil))) (tVar 0) [none] H2 D Q:=by
 have aG:=ht.length;refine z0 (xs:=as.map V.ref) (fun j σ ys H3=>∃bs v,σ=[v]/\Same H2 H3/\H3 D=some (.lst ys)/\ys=bs.map V.ref/\Tps H3 bs ((fs.take j).filter fun q=>!decide (q=[]))) ?_ ?_ ?_ ?_
 ·exact⟨[],none,rfl,Same.new hD,upd_same,rfl,.nil⟩
 ·rintro j σ ys H3 ⟨bs,v,rfl,sm,aj,rfl,hb⟩
  exact SqL.of (sm _ _ hl)
 ·rintro j σ ys H3 x hx hj hy ⟨bs,v,rfl,sm,aj,rfl,hb⟩
  obtain⟨a,ea,rfl⟩:=zah hx;obtain⟨f,ef,hf⟩:=ht.get ea;refine⟨_,rfl,zb (by simp),fun t bW=>?_⟩;have jU:=sm.tp hf;have s1:Same H3 (upd H3 t (.tup [])):=Same.new bW;refine .inl ⟨a,t,f,[],rfl,rfl,s1.tp jU,upd_same,_,rfl,?_⟩;have bA:=sm.trans s1;have keep:∀(o:HO) c xs,upd H3 t (.tup []) c=some (.tup xs)->upd (upd H3 t (.tup [])) D o c=some (.tup xs):=fun o c xs e=>by
   rw[zh (zaX e (s1 _ _ aj) (by intro z; cases z))]; exact e
  by_cases h:f=[]
  ·subst h
   refine iteF (cskip hj hy ⟨bs,_,rfl,bA,s1 _ _ aj,rfl,?_⟩);rw[AY ef,List.filter_append]
   simpa using s1.tps hb
  ·rw[if_pos rfl,show (!decide (f=[]))=true by simp[h]]
   refine iteT ⟨_,rfl,cput (ys:=bs.map V.ref) (by rw[Ab]; exact zb (by omega)) hj hy (s1 _ _ aj) ⟨bs++[a],_,rfl,bA.then hD,upd_same,by rw[Ar]; rfl,?_⟩⟩;rw[AY ef,List.filter_append,show [f].filter (fun q=>!decide (q=[]))=[f] by simp[h]];exact Tps.snoc (Paired.mapP (s1.tps hb) fun c xs e=>keep _ c _ e) (keep _ a _ (s1.tp jU))
 ·rintro σ ys H3 ⟨bs,v,rfl,sm,aj,rfl,hb⟩
  rw[Ab,aG,take_all] at hb;exact k bs H3 sm aj hb
def zbQ:zi ["piece","found","point"] ["piece"] (zf zb7):=⟨rfl,rfl,rfl,by decide +kernel,rfl,by decide +kernel,by decide +kernel⟩
def zg9 {f:Addr}{fd:FuncData} (F:Fun K "_law_parts" "_law_parts" zb7 f fd):FnOk P w K mg base CX0 1 f fd ["piece"] zdp:=by
 refine F.ok zbQ (fun vs H Q E h=>?_) (fun cdv A outer s H vs Q E hr h=>?_)
 ·obtain⟨a,ps,rfl,_⟩:=h; rfl
 ·obtain⟨a,ps,rfl,ha,h5,k⟩:=h
  have aS:=hr.units;refine⟨_,za (zo (i:=1) zbQ.nd rfl (Or.inl rfl) (zC (pa_cons (zU pa_nil) pa_nil)))
   (za (zaa AZ rfl (zeZ (pv 0)) (zm (i:=2) zbQ.nd rfl (Or.inr rfl))
    (zd (zo (i:=1) zbQ.nd rfl (Or.inl rfl) (zw zaj (pv 1) (zB ["piece","found","point"] ["part","point"] [none,some 2] (zL (pv 1)) (fun cl C s₀ H₀ ex=>zm (i:=0) (ndN ["part","point"]) rfl (Or.inl rfl)) (fun cl C s₀ H₀ ex=>zM)
     (fun cl C s₀ H₀ ex=>zw zev (pv 0) (zU (pa_cons (pv 1) pa_nil))) (hfr:=frOf (zf zb7) (by decide +kernel)))))))
   (zd (zl (zB ["piece","found","point"] ["part"] [none] (zL (pv 1)) (fun cl C s₀ H₀ ex=>zm (i:=0) (ndN ["part"]) rfl (Or.inl rfl)) (fun cl C s₀ H₀ ex=>zlD (zp (zml aS) (pv 0) (zU pa_nil) (nomark _)))
     (fun cl C s₀ H₀ ex=>pv 0) (hfr:=nofr (by decide +kernel)) (tc:=zgN (tOp (rEqT true K) (tVar 0) (tTup tNil))))))),?_⟩
  refine⟨zb (by simp),fun e he=>⟨zb (by simp),fun l hl=>?_⟩⟩;have s1:Same H (upd (upd H e (.tup [])) l (.lst [.ref e])):=(Same.new he).then ((Same.new he).free hl);have fM:e≠l:=zg (H:=upd H e (.tup [])) upd_same hl;refine⟨_,rfl,a,rfl,⟨_,SqT.of (s1 _ _ ha)⟩,ziL (K:=K) (a:=a) (xs:=ps.map V.int) (fun i σ H2=>∃l as v,σ=[some (.ref a),some (.ref l),v]/\Same H H2/\H l=none/\H2 l=some (.lst (as.map V.ref))/\Tps H2 as (subs (ps.take i)))
   ⟨l,[e],none,rfl,s1,(Same.new he).free hl,upd_same,.cons (by show upd _ _ _ e=_; rw[zh fM]; exact upd_same) .nil⟩ (fun i σ H2 _ ⟨_,_,_,_,sm,_⟩=>SqT.of (sm _ _ ha)) ?_ ?_⟩
  ·rintro i x σ H2 hx ⟨l,as,v,rfl,sm,lB,hl,ht⟩
   obtain⟨q,eq,rfl⟩:=zcF hx;have hi:i<ps.length:=(List.getElem?_eq_some_iff.mp eq).1;have aG:=ht.length;have hn:as.length<=32:=by
    rw[aG,zbU,AJ];exact pow5 (by omega)
   have hm:∀f∈subs (ps.take i),f.length<=100:=fun f hf=>by
    have:=zbz _ f hf;rw[AJ] at this;omega
   refine⟨_,rfl,_,rfl,l,rfl,⟨_,SqL.of hl⟩,fun D hD=>zI (zcv hl ht (by omega) hm hD fun bs H3 aE aj hb=>?_)⟩;have iK:=hb.length;rw[Ab] at iK;refine⟨l,D,_,_,rfl,rfl,aE _ _ hl,aj,by rw[Ab,Ab]; exact zb (by omega),fun l2 bO=>?_⟩;have jm:H l2=none:=(sm.trans aE).free bO;refine⟨l2,as++bs,_,rfl,(sm.trans aE).then jm,jm,by rw[upd_same,Ar],?_⟩;rw[AY eq,zb2];exact (Same.new bO).tps ((aE.tps ht).append hb)
  ·rintro σ H2 ⟨l,as,v,rfl,sm,lB,hl,ht⟩
   rw[Ab,take_all] at ht;have aG:=ht.length;refine⟨_,rfl,l,rfl,⟨_,SqL.of hl⟩,fun D hD=>zI (zeQ hl ht (by rw[aG,zbU]; have:=pow5 h5; omega) hD fun bs H3 aE aj hb=>?_)⟩;rw[zdx] at hb;exact k D bs H3 (sm.trans aE) (sm.free hD) aj hb
def zgx {H2:Hp}{bs:List Addr}{fs:List (List Int)}{D l:Addr}{Q:VK} (hl:H2 l=some (.lst (bs.map V.ref))) (ht:Tps H2 bs fs) (hz:bs.length<=1000) (hD:H2 D=none)
  (k:∀(cs:List Addr) H3,Same H2 H3->H3 D=some (.lst (cs.map V.ref))->cs.length=bs.length->(∀(i:Nat) c,cs[i]?=some c->∃b f,bs[i]?=some b/\fs[i]?=some f/\H3 c=some (.tup [.int f.length,.ref b]))->Q (.ref D) H3) :
  zaf (Itl K l) (zZ 0) tYes (tTup (zy (tCB (fun xs H Q=>∃p ys,xs=[V.ref p]/\(SqL K H p ys \/ SqT K H p ys)/\Q (.int ys.length) H) (zy (tVar 0) tNil)) (zy (tVar 0) tNil))) [none] H2 D Q:=by
 have aG:=ht.length;refine z0 (xs:=bs.map V.ref) (fun j σ ys H3=>∃(cs:List Addr) (v:Option V),σ=[v]/\Same H2 H3/\H3 D=some (.lst ys)/\ys=cs.map V.ref/\cs.length=j/\∀(i:Nat) c,cs[i]?=some c->∃b f,bs[i]?=some b/\fs[i]?=some f/\H3 c=some (.tup [.int f.length,.ref b])) ?_ ?_ ?_ ?_
 ·exact⟨[],none,rfl,Same.new hD,upd_same,rfl,rfl,fun i c e=>by simp at e⟩
 ·rintro j σ ys H3 ⟨cs,v,rfl,sm,aj,rfl,hj,hc⟩
  exact SqL.of (sm _ _ hl)
 ·rintro j σ ys H3 x hx hj hy ⟨cs,v,rfl,sm,aj,rfl,hcl,hc⟩
  obtain⟨b,eb,rfl⟩:=zah hx;obtain⟨f,ef,hf⟩:=ht.get eb;refine gyes ?_;refine⟨_,rfl,b,_,rfl,.inr (SqT.of (sm.tp hf)),_,rfl,zb (by simp),fun t bW=>?_⟩;rw[show (f.map V.int).length=f.length from Ab _];have s1:Same H3 (upd H3 t (.tup [.int f.length,.ref b])):=Same.new bW;have keep:∀(o:HO) c xs,upd H3 t (.tup [.int f.length,.ref b]) c=some (.tup xs)->upd (upd H3 t (.tup [.int f.length,.ref b])) D o c=some (.tup xs):=fun o c xs e=>by
   rw[zh (zaX e (s1 _ _ aj) (by intro z; cases z))]; exact e
  refine cput (ys:=cs.map V.ref) (by rw[Ab]; exact zb (by omega)) hj hy (s1 _ _ aj) ⟨cs++[t],_,rfl,(sm.trans s1).then hD,upd_same,by rw[Ar]; rfl,by rw[Aq,hcl]; rfl,fun i c e=>?_⟩
  by_cases hi:i<cs.length
  ·rw[List.getElem?_append_left hi] at e
   obtain⟨b',f',e1,e2,e3⟩:=hc i c e;exact⟨b',f',e1,e2,keep _ c _ (s1 _ _ e3)⟩
  ·rw[List.getElem?_append_right (by omega)] at e
   have h0:i - cs.length=0:=by
    rcases Nat.eq_zero_or_pos (i - cs.length) with z | z
    ·exact z
    ·rw[List.getElem?_eq_none (by simp only[Ap,List.length_nil]; omega)] at e; cases e
   rw[h0] at e;obtain rfl:t=c:=by simpa using e
   have:i=j:=by omega
   subst this;exact⟨b,f,eb,ef,keep _ t _ upd_same⟩
 ·rintro σ ys H3 ⟨cs,v,rfl,sm,aj,rfl,hcl,hc⟩
  rw[Ab] at hcl;exact k cs H3 sm aj hcl hc
def zdM (H:Hp) (c:Addr):Addr:=match H c with
 | some (.tup [_,.ref b])=>b
 | _=>0
def ziK {H2:Hp}{cs:List Addr}{D l:Addr}{Q:VK} (hl:H2 l=some (.lst (cs.map V.ref))) (ht:∀c∈cs,∃n b,H2 c=some (.tup [.int n,.ref b])) (hz:cs.length<=1000) (hD:H2 D=none)
  (k:∀H3,Same H2 H3->H3 D=some (.lst (cs.map fun c=>V.ref (zdM H2 c)))->Q (.ref D) H3) :
  zaf (Itl K l) (zZ 0) tYes (tOp (rIxT K) (tVar 0) (tC (.int 1))) [none] H2 D Q:=by
 refine z0 (xs:=cs.map V.ref) (fun j σ ys H3=>∃v,σ=[v]/\Same H2 H3/\H3 D=some (.lst ys)/\ys=(cs.take j).map fun c=>V.ref (zdM H2 c)) ?_ ?_ ?_ ?_
 ·exact⟨none,rfl,Same.new hD,upd_same,rfl⟩
 ·rintro j σ ys H3 ⟨v,rfl,sm,aj,rfl⟩
  exact SqL.of (sm _ _ hl)
 ·rintro j σ ys H3 x hx hj hy ⟨v,rfl,sm,aj,rfl⟩
  obtain⟨c,ec,rfl⟩:=zah hx;obtain⟨n,b,e⟩:=ht c (At ec);refine gyes ?_;refine⟨_,rfl,c,_,_,_,rfl,rfl,SqT.of (sm _ _ e),zS (j:=1) rfl,cput (by rw[Ab]; exact zb (by omega)) hj hy aj ⟨_,rfl,sm.then hD,upd_same,?_⟩⟩;rw[AY ec,Ar];have:zdM H2 c=b:=by unfold zdM; rw[e]
  rw[<- this]; rfl
 ·rintro σ ys H3 ⟨v,rfl,sm,aj,rfl⟩
  rw[Ab,take_all] at aj;exact k H3 sm aj
def zaP:zi ["web","found","piece","part","ranked"] ["web"] (zf zdf):=⟨rfl,rfl,rfl,by decide +kernel,rfl,by decide +kernel,by decide +kernel⟩
def zgm {f fp:Addr}{fd ci:FuncData} (F:Fun K "_law_pieces" "_law_pieces" zdf f fd) (B:Bt mg)
  (Fp:Fun K "_law_parts" "_law_parts" zb7 fp ci) (bp:Binds K ci ["piece"] []) (mp:mg "_law_parts"=some (.ref fp)):FnOk P w K mg base CX0 2 f fd ["web"] (zg4 K):=by
 have Gp:FnOk P w K mg base CX0 1 fp ci ["piece"] zdp:=zg9 Fp;refine F.ok zaP (fun vs H Q E h=>?_) (fun cdv A outer s H vs Q E hr h=>?_)
 ·obtain⟨l,as,ae,rfl,_⟩:=h; rfl
 ·obtain⟨l,as,ae,rfl,hl,ht,h5,cV,h64,k⟩:=h
  have hu:=zbE hr;have aS:=hr.units;refine⟨_,za (zo (i:=1) zaP.nd rfl (Or.inl rfl) zaR)
   (za (zaa AZ rfl (zL (pv 0)) (zm (i:=2) zaP.nd rfl (Or.inl rfl))
    (zd (zaa AZ rfl (zL (zk Gp hr rfl mp Fp.kp bp .nil pass0 (pa_cons (pv 2) pa_nil))) (zm (i:=3) zaP.nd rfl (Or.inl rfl))
     (zd (za3 hu (pv 1) (pv 3) za8 rfl)))))
   (za (zo (i:=4) zaP.nd rfl (Or.inl rfl) (zq (zch aS) rfl B.sorted zcW (pa_cons
    (zB ["web","found","piece","part","ranked"] ["piece"] [none] (zL (zj (zby rfl) rfl B.list zan (pa_cons (pv 1) pa_nil))) (fun cl C s₀ H₀ ex=>zm (i:=0) (ndN ["piece"]) rfl (Or.inl rfl)) (fun cl C s₀ H₀ ex=>zM)
     (fun cl C s₀ H₀ ex=>zU (pa_cons (zq zt rfl B.len zau (pa_cons (pv 0) pa_nil)) (pa_cons (pv 0) pa_nil))) (hfr:=nofr (by decide +kernel)) (te:=tTup (zy (tCB (fun xs H Q=>∃p ys,xs=[V.ref p]/\(SqL K H p ys \/ SqT K H p ys)/\Q (.int ys.length) H) (zy (tVar 0) tNil)) (zy (tVar 0) tNil)))) pa_nil)))
   (zd (zl (zB ["web","found","piece","part","ranked"] ["one"] [none] (zL (pv 4)) (fun cl C s₀ H₀ ex=>zm (i:=0) (ndN ["one"]) rfl (Or.inl rfl)) (fun cl C s₀ H₀ ex=>zM)
     (fun cl C s₀ H₀ ex=>zaz zfc (pv 0) ze (fun _ _=>rfl)) (hfr:=nofr (by decide +kernel)) (te:=tOp (rIxT K) (tVar 0) (tC (.int 1)))))))),?_⟩
  intro d hd;have aG:=ht.length;refine⟨_,rfl,l,rfl,⟨_,(Same.new hd).seq hl⟩,zae (K:=K) (a:=l) (xs:=as.map V.ref) (fun i σ H2=>∃v v' u,σ=[some (.ref l),some (.ref d),v,v',u]/\Same H H2/\H2 d=some (.dT (kvM ((ae.take i).flatMap parts))))
   ⟨none,none,none,rfl,Same.new hd,upd_same⟩ (fun i σ H2 _ ⟨_,_,_,_,sm,_⟩=>sm.seq hl) ?_ ?_⟩
  ·rintro i x σ H2 hx ⟨v,v',u,rfl,sm,ax⟩
   obtain⟨a,ea,rfl⟩:=zah hx;obtain⟨ps,cj,cF⟩:=ht.get ea;have c6:=h5 ps (At cj);have hi:i<ae.length:=(List.getElem?_eq_some_iff.mp cj).1;refine⟨_,rfl,a,ps,rfl,sm.tp cF,c6,fun D cs H3 aE cG hD eY=>⟨D,rfl,⟨_,SqL.of hD⟩,?_⟩⟩;have kZ:=eY.length;have mq:D≠d:=zaX hD (aE _ _ ax) (by intro z; cases z);refine zae (K:=K) (a:=D) (xs:=cs.map V.ref) (fun j σ H4=>∃v',σ=[some (.ref l),some (.ref d),some (.ref a),v',u]/\Same H H4/\H4 D=some (.lst (cs.map V.ref))/\Tps H4 cs (parts ps)/\H4 d=some (.dT (kvM ((ae.take i).flatMap parts++(parts ps).take j))))
    ⟨_,rfl,sm.trans aE,hD,eY,by rw[List.take_zero,List.append_nil]; exact aE _ _ ax⟩ (fun j σ H4 _ ⟨_,_,_,q,_⟩=>SqL.of q) ?_ ?_
   ·rintro j x σ H4 hx ⟨v',rfl,aT,cu,cU,bK⟩
    obtain⟨c,ec,rfl⟩:=zah hx;obtain⟨f,ef,hf⟩:=cU.get ec;have hlen:(kvM ((ae.take i).flatMap parts++(parts ps).take j)).length<sizeLine:=by
     refine zR (AA (zh2 _) ?_);rw[Aq];have h1:=zcP (ae.take i) (fun q hq=>h5 q (List.mem_of_mem_take hq));have h2:=zao ps;have h3:=pow5 c6;rw[AJ] at h1 ⊢;omega
    refine⟨_,rfl,_,rfl,d,_,rfl,DPut.t (k:=f.map Sum.inl) bK (by rw[Az]; exact hf) hlen,⟨_,rfl,aT.then hd,?_,?_,?_⟩⟩
    ·rw[zh mq]; exact cu
    ·exact Tps.upd cU bK (by intro xs z; cases z)
    ·rw[upd_same,zig,List.append_assoc,<- AY ef]
   ·rintro σ H4 ⟨v',rfl,aT,cu,cU,bK⟩
    refine⟨_,_,_,rfl,aT,?_⟩;rw[Ab,kZ,take_all] at bK;rw[zdy cj];exact bK
  ·rintro σ H2 ⟨v,v',u,rfl,sm,ax⟩
   rw[Ab,aG,take_all] at ax;refine⟨_,rfl,d,_,rfl,ax,fun bs hb l2 bO=>?_⟩;have tb:=zfa hb;have iK:=tb.length;have gv:(dd (ae.flatMap parts)).length<=620:=by
    have h1:=zaA (ae.flatMap parts);have h2:=zcP ae h5;omega
   have s2:Same H2 (upd H2 l2 (.lst (bs.map V.ref))):=Same.new bO;refine⟨l2,rfl,⟨_,SqL.of upd_same⟩,fun D hD=>zI (zgx (K:=K) upd_same (s2.tps tb) (by omega) hD fun cs H3 aE aj hcl hc=>?_)⟩;have pY:=aE.tps (s2.tps tb);refine⟨D,cs,(dd (ae.flatMap parts)).map fun f=>((f.length:Int)::f),rfl,SqL.of aj,?_,(by rw[Ab]; exact h64),fun R qs hp hs hR=>?_⟩
   ·refine Paired.of_at (by rw[Ab]; omega) fun i c y e1 e2=>?_
    obtain⟨b,f,g1,g2,g3⟩:=hc i c e1;rw[Am,g2] at e2;obtain rfl:=Al e2;exact⟨_,b,f,rfl,g3,zbe pY i b f g1 g2⟩
   ·have s4:Same H3 (upd H3 R (.lst (qs.map fun q=>V.ref q.2))):=Same.new hR
    have hq:∀q∈qs,∃b f,q.1=((f:List Int).length:Int)::f/\H3 q.2=some (.tup [.int f.length,.ref b])/\Tp H3 b f:=fun q hq=>by
     obtain⟨m,em⟩:=List.mem_iff_getElem?.mp (hp.mem_iff.mp hq);rw[Srt.zipget,Am] at em;cases e2:cs[m]? with
     | none=>rw[e2] at em; cases h:(dd (ae.flatMap parts))[m]? <;> rw[h] at em <;> cases em
     | some c=>
      obtain⟨b,f,g1,g2,g3⟩:=hc m c e2;rw[g2,e2] at em;obtain rfl:(((f.length:Int)::f),c)=q:=Al em;exact⟨b,f,rfl,g3,zbe pY m b f g1 g2⟩
    have hql:qs.length<=620:=by rw[hp.length_eq,List.length_zip,Ab]; omega
    refine⟨_,rfl,R,rfl,⟨_,SqL.of upd_same⟩,fun D2 bD=>zI (ziK (K:=K) (cs:=qs.map (·.2)) (by rw[upd_same,Az]; rfl) (fun c rM=>?_) (by rw[Ab]; omega) bD fun H5 bB di=>?_)⟩
    ·obtain⟨q,lE,rfl⟩:=List.mem_map.mp rM
     obtain⟨b,f,_,g2,_⟩:=hq q lE;exact⟨_,b,s4 _ _ g2⟩
    ·have sAll:Same H H5:=((sm.trans s2).trans aE).trans (s4.trans bB)
     have snd:∀q∈qs,∀b f,H3 q.2=some (.tup [.int (f:List Int).length,.ref b])->zdM (upd H3 R (.lst (qs.map fun q=>V.ref q.2))) q.2=b:=fun q _ b f e=>by
      unfold zdM; rw[s4 _ _ e]
     refine k D2 H5 (qs.map fun q=>(q.1.tail,zdM (upd H3 R (.lst (qs.map fun q=>V.ref q.2))) q.2)) ⟨sAll,(((sm.trans s2).trans aE).trans s4).free bD,?_,fun q lE=>?_,?_,?_⟩
     ·rw[di,Az,Az]; rfl
     ·obtain⟨q0,h0,rfl⟩:=List.mem_map.mp lE
      obtain⟨b,f,g1,g2,g3⟩:=hq q0 h0;show Tp H5 (zdM _ q0.2) q0.1.tail;rw[snd q0 h0 b f g2,g1];exact bB.tp (s4.tp g3)
     ·rw[Az]
      have h1:=hp.map (fun q:List Int×Addr=>q.1.tail);have e:((((dd (ae.flatMap parts)).map fun f=>((f.length:Int)::f)).zip cs).map fun q:List Int×Addr=>q.1.tail)=dd (ae.flatMap parts):=by
       rw[show (fun q:List Int×Addr=>q.1.tail)=(fun l:List Int=>l.tail) ∘ Prod.fst from rfl,<- Az,List.map_fst_zip (by rw[Ab]; omega),Az];exact List.map_id' _
      rw[e] at h1;exact h1
     ·rw[List.pairwise_map]
      refine hs.imp_of_mem fun {p q} h1 h2 h3=>?_;obtain⟨_,f,g1,_⟩:=hq p h1;obtain⟨_,f',oG,_⟩:=hq q h2;rw[g1,oG] at h3;rw[g1,oG];exact h3
end
end K19
end
section
namespace K19
open K1
open PySem L2 STb
abbrev zfB:Stmt:=top 63
abbrev zdW:Stmt:=top 64
def texts:List Str:=(["","0","01 12 02","012 013 023 123","01 02 03","012 023 034 014","0123","01 23 45","012 34"]:List Str)++(["012 123 234 034 014","01 12 23 03 13","012 013 014","0 1 2 3"]:List Str)++(["01 12 02 34 45 35","023 234 1"]:List Str)
++(["014 015 023 025 034 123 124 135 245 345","012 013 024 034 125 135 245 345"]:List Str)++(["01234","0123 0124 0134 0234 1234"]:List Str)++(["013 123 234 024 014 145 125 025 056 016 126 267 027 037 345 356 367"]:List Str)
def wordsOf (n:Nat):List Str:=Txt.split (texts.getD n "") " "
def digits (x:Str):List Int:=x.cps.toList.map fun (c:Nat)=>((c:Int) - 48)
def known (n:Nat):List (List Int):=((wordsOf n).filter fun (x:Str)=>!decide (x="")).map digits
def zjG:∀n,n<20->(texts.getD n "").length+2<=1000/\(wordsOf n).length<=20/\∀x∈wordsOf n,x.cps.size<=5/\∀c∈x.cps.toList,48<=c/\c<=57:=by decide +kernel
def zlU:∀c,48<=c->c<=57->intText? ⟨#[c]⟩=some ((c:Int) - 48):=by
 intro c h1 h2;have:∀c,c<58->48<=c->intText? ⟨#[c]⟩=some ((c:Int) - 48):=by decide +kernel
 exact this c (by omega) h1
section
variable {P:Program}{w:World}{K:Ad}{mg:Str->Option Value}{base:Heap}
def zhE:Sp:=fun vs H Q _=>∃n:Nat,vs=[.int n]/\n<20/\∀D as H',Same H H'->H D=none->H' D=some (.lst (as.map V.ref))->Tps H' as (known n)->Q (.ref D) H'
def zaE:zi ["number","some","web","word"] ["number"] (zf zfB):=⟨rfl,rfl,rfl,by decide +kernel,rfl,by decide +kernel,by decide +kernel⟩
def zgG {H2:Hp}{x:Str}{D:Addr}{Q:VK} (hx:x.cps.size<=5) (hc:∀c∈x.cps.toList,48<=c/\c<=57) (hD:H2 D=none)
  (k:∀H3,Same H2 H3->H3 D=some (.lst ((digits x).map V.int))->Q (.ref D) H3) :
  zaf (Its x) (zZ 0) tYes (tCB (fun xs H Q=>∃x n,xs=[.str x]/\intText? x=some n/\x.length<=640/\Q (.int n) H) (zy (tVar 0) tNil)) [none] H2 D Q:=by
 refine zeW (fun j σ ys H3=>∃v,σ=[v]/\Same H2 H3/\H3 D=some (.lst ys)/\ys=((digits x).take j).map V.int) ?_ ?_ ?_
 ·exact⟨none,rfl,Same.new hD,upd_same,rfl⟩
 ·rintro j σ ys H3 c ec hj hy ⟨v,rfl,sm,aj,rfl⟩
  have ecl:x.cps.toList[j]?=some c:=by simpa using ec
  obtain⟨c1,c2⟩:=hc c (At ecl);refine gyes ?_;refine⟨_,rfl,⟨#[c]⟩,_,rfl,zlU c c1 c2,by show 1<=640; decide,cput (zb (by omega)) hj hy aj ⟨_,rfl,sm.then hD,upd_same,?_⟩⟩;have e:(digits x)[j]?=some ((c:Int) - 48):=by unfold digits; rw[Am,ecl]; rfl
  rw[AY e,Ar]; rfl
 ·rintro σ ys H3 ⟨v,rfl,sm,aj,rfl⟩
  rw[Av (by unfold digits; simp)] at aj;exact k H3 sm aj
def zj6 {f:Addr}{fd:FuncData} (F:Fun K "_law_known" "_law_known" zfB f fd) (B:Bt mg):FnOk P w K mg base CX0 1 f fd ["number"] zhE:=by
 refine F.ok zaE (fun vs H Q E h=>?_) (fun cdv A outer s H vs Q E hr h=>?_)
 ·obtain⟨n,rfl,_⟩:=h; rfl
 ·obtain⟨n,rfl,hn,k⟩:=h
  refine⟨_,za (zo (i:=1) zaE.nd rfl (Or.inl rfl) (zC (pa_cons pe_str (pa_cons pe_str (pa_cons pe_str (pa_cons pe_str (pa_cons pe_str (pa_cons pe_str (pa_cons pe_str (pa_cons pe_str (pa_cons pe_str pa_nil)))))))))))
   (za (zo (i:=1) zaE.nd rfl (Or.inl rfl) (zw zaj (pv 1) (zC (pa_cons pe_str (pa_cons pe_str (pa_cons pe_str (pa_cons pe_str pa_nil)))))))
   (za (zo (i:=1) zaE.nd rfl (Or.inl rfl) (zw zaj (pv 1) (zC (pa_cons pe_str (pa_cons pe_str pa_nil)))))
   (za (zo (i:=1) zaE.nd rfl (Or.inl rfl) (zw zaj (pv 1) (zC (pa_cons pe_str (pa_cons pe_str pa_nil)))))
   (za (zo (i:=1) zaE.nd rfl (Or.inl rfl) (zw zaj (pv 1) (zC (pa_cons pe_str (pa_cons pe_str pa_nil)))))
   (za (zv (zaF PySem.F.plainAttrs_list PySem.F.slot_list_append PySem.F.type_list_append zai (pv 1) (pa_cons pe_str pa_nil)))
   (za (zo (i:=2) zaE.nd rfl (Or.inl rfl) (zC pa_nil))
   (za (zaa AZ rfl (zL (zaF PySem.F.plainAttrs_str PySem.F.slot_str_split PySem.F.type_str_split zfC (zaz zV (pv 1) (zw zbA (pv 0) ze) (fun _ _=>rfl)) (pa_cons pe_str pa_nil))) (zm (i:=3) zaE.nd rfl (Or.inl rfl))
    (zd (zD (zp zdO (pv 3) pe_str (nomark _))
     (zd (zv (zaF PySem.F.plainAttrs_list PySem.F.slot_list_append PySem.F.type_list_append zai (pv 2) (pa_cons (zj zat rfl B.tuple zeg (pa_cons
      (zB ["number","some","web","word"] ["sign"] [none] (zkp (pv 3)) (fun cl C s₀ H₀ ex=>zm (i:=0) (ndN ["sign"]) rfl (Or.inl rfl)) (fun cl C s₀ H₀ ex=>zM)
       (fun cl C s₀ H₀ ex=>zj zcN rfl B.int znW (pa_cons (pv 0) pa_nil)) (hfr:=nofr (by decide +kernel))) pa_nil)) pa_nil)))) zn)))
   (zd (zl (pv 2)))))))))),?_⟩
  have t20:texts.length=20:=rfl;have dG:atI (texts.map V.str) ((n:Int) % 20)=some (.str (texts.getD n "")):=by
   rw[show (n:Int) % 20=(n:Int) by omega];refine zS ?_;have e:texts[n]?=some texts[n]:=Ah (by omega);rw[Am,AL,e]; rfl
  obtain⟨g1,g2,g3⟩:=zjG n hn;refine⟨zb (by simp),fun l1 h1=>?_⟩;have s1:=Same.new (H:=H) (o:=.lst [.str "",.str "0",.str "01 12 02",.str "012 013 023 123",.str "01 02 03",.str "012 023 034 014",.str "0123",.str "01 23 45",.str "012 34"]) h1;refine⟨_,rfl,zb (by simp),fun m1 kT=>⟨l1,m1,_,_,rfl,rfl,Same.new kT _ _ upd_same,upd_same,zb (by simp),fun l2 h2=>?_⟩⟩;have s2:=(s1.trans (Same.new kT)).trans (Same.new (o:=.lst ((texts.take 13).map V.str)) h2);refine⟨_,rfl,zb (by simp),fun m2 gB=>⟨l2,m2,_,_,rfl,rfl,Same.new gB _ _ upd_same,upd_same,zb (by simp),fun l3 h3=>?_⟩⟩;have s3:=(s2.trans (Same.new gB)).trans (Same.new (o:=.lst ((texts.take 15).map V.str)) h3);refine⟨_,rfl,zb (by simp),fun m3 mB=>⟨l3,m3,_,_,rfl,rfl,Same.new mB _ _ upd_same,upd_same,zb (by simp),fun l4 h4=>?_⟩⟩;have s4:=(s3.trans (Same.new mB)).trans (Same.new (o:=.lst ((texts.take 17).map V.str)) h4);refine⟨_,rfl,zb (by simp),fun m4 l_=>⟨l4,m4,_,_,rfl,rfl,Same.new l_ _ _ upd_same,upd_same,zb (by simp),fun l5 h5=>?_⟩⟩;have s5:=(s4.trans (Same.new l_)).trans (Same.new (o:=.lst ((texts.take 19).map V.str)) h5);have qR:H l5=none:=(s4.trans (Same.new l_)).free h5;refine⟨_,rfl,.inl ⟨rfl,_,SqL.of upd_same⟩,l5,_,_,rfl,rfl,upd_same,zR (by simp),zb (by simp),fun wl gG=>?_⟩;generalize hH6:upd (upd _ l5 _) l5 _=H6 at gG;have e6:H6 l5=some (.lst (texts.map V.str)):=by rw[<- hH6,upd_same]; rfl
  have s6:Same H H6:=by
   rw[<- hH6];exact s5.then qR
  have hw0:H wl=none:=s6.free gG;have s7:Same H (upd H6 wl (.lst [])):=s6.then hw0;have e7:upd H6 wl (.lst []) l5=some (.lst (texts.map V.str)):=Same.new gG _ _ e6;refine⟨_,rfl,_,rfl,_,_,rfl,rfl,(by show (0:Int)<20; decide),l5,_,_,_,rfl,rfl,SqL.of e7,dG,rfl,_,_,rfl,rfl,by decide,zb (by omega),zb (show (wordsOf n).length<=100000 by omega),fun D hD=>⟨D,rfl,⟨_,SqL.of upd_same⟩,?_⟩⟩;have pO:wl≠D:=zg (H:=upd H6 wl (.lst [])) upd_same hD;have cG:H D=none:=s7.free hD;refine zae (K:=K) (a:=D) (xs:=(wordsOf n).map V.str) (fun i σ H2=>∃as v,σ=[some (.int n),some (.ref l5),some (.ref wl),v]/\Same H H2/\H2 D=some (.lst ((wordsOf n).map V.str))/\H2 wl=some (.lst (as.map V.ref))/\Tps H2 as ((((wordsOf n).take i).filter fun (x:Str)=>!decide (x="")).map digits))
   ⟨[],none,rfl,s7.then cG,upd_same,by rw[zh pO]; exact upd_same,.nil⟩ (fun i σ H2 _ ⟨_,_,_,_,q,_⟩=>SqL.of q) ?_ ?_
  ·rintro i x σ H2 hx ⟨as,v,rfl,sm,bD,gf,ht⟩
   rw[Am] at hx;cases ex:(wordsOf n)[i]? with
   | none=>rw[ex] at hx; cases hx
   | some y=>
    rw[ex] at hx;obtain rfl:=Al hx;have hi:i<(wordsOf n).length:=(List.getElem?_eq_some_iff.mp ex).1;obtain⟨y5,yc⟩:=g3 y (At ex);refine⟨_,rfl,rfl,_,rfl,?_⟩
    by_cases hy:y=""
    ·subst hy
     refine iteF ⟨as,_,rfl,sm,bD,gf,?_⟩;rw[AY ex,List.filter_append,Ar]
     simpa using ht
    ·rw[show (!decide (V.str y=V.str ""))=true from by simp[hy]]
     refine iteT ⟨_,rfl,.inl ⟨rfl,_,SqL.of gf⟩,_,rfl,y,rfl,fun D2 tW=>zI (zgG y5 yc tW fun H3 aE aj=>⟨D2,_,rfl,.inl ⟨SqL.of aj,fun t bW=>?_⟩⟩)⟩;have s8:Same H2 (upd H3 t (.tup ((digits y).map V.int))):=aE.trans (Same.new bW);have aG:=ht.length;have gR:as.length<=20:=by
      rw[aG,Ab];exact AA (List.length_filter_le _ _) (by rw[AJ]; omega)
     refine⟨wl,_,_,rfl,rfl,s8 _ _ gf,zR (by rw[Ab]; omega),⟨as++[t],_,rfl,(sm.trans s8).then hw0,?_,by rw[upd_same,Ar]; rfl,?_⟩⟩
     ·rw[zh pO.symm]; exact s8 _ _ bD
     ·rw[AY ex,List.filter_append,Ar,show [y].filter (fun (x:Str)=>!decide (x=""))=[y] by simp[hy]]
      exact Tps.upd (Tps.snoc (s8.tps ht) upd_same) (s8 _ _ gf) (by intro xs z; cases z)
  ·rintro σ H2 ⟨as,v,rfl,sm,bD,gf,ht⟩
   rw[Ab,take_all] at ht;exact⟨_,rfl,k wl as H2 sm hw0 gf ht⟩
def ren (first aB:Int) (ps:List Int):List Int:=ps.map fun x=>first+aB*x
def zhH:Sp:=fun vs H Q _=>∃p l as ae,vs=[.ref p,.ref l]/\zN H p/\H l=some (.lst (as.map V.ref))/\Tps H as ae/\ae.length<=20/\(∀ps∈ae,ps.length<=10)/\
 ∀D bs aF first aB H',zr p H H'->zN H' p->H D=none->H' D=some (.lst (bs.map V.ref))->Tps H' bs aF->0<=first->first<12->1<=aB->aB<=3->aF.Perm (ae.map (ren first aB))->Q (.ref D) H'
def zcm:zi ["box","web","gap","first","found","piece"] ["box","web"] (zf zdW):=⟨rfl,rfl,rfl,by decide +kernel,rfl,by decide +kernel,by decide +kernel⟩
def ziY {H2:Hp}{a D:Addr}{ps:List Int}{first aB:Int}{Q:VK} (ha:Tp H2 a ps) (hz:ps.length<=10) (hg:1<=aB/\aB<=3) (hD:H2 D=none)
  (k:∀H3,Same H2 H3->H3 D=some (.lst ((ren first aB ps).map V.int))->Q (.ref D) H3) :
  zaf (Itt K a) (zZ 0) tYes (tOp (rI0 fun i j=>.int (i+j)) (tVar 1) (tOp (rI CMul fun i j=>.int (i*j)) (tVar 2) (tVar 0))) [none,some (.int first),some (.int aB)] H2 D Q:=by
 refine zfv (xs:=ps.map V.int) (fun j σ ys H3=>∃v,σ=[v,some (.int first),some (.int aB)]/\Same H2 H3/\H3 D=some (.lst ys)/\ys=((ren first aB ps).take j).map V.int) ?_ ?_ ?_ ?_
 ·exact⟨none,rfl,Same.new hD,upd_same,rfl⟩
 ·rintro j σ ys H3 ⟨v,rfl,sm,aj,rfl⟩
  exact SqT.of (sm.tp ha)
 ·rintro j σ ys H3 x hx hj hy ⟨v,rfl,sm,aj,rfl⟩
  obtain⟨q,eq,rfl⟩:=zcF hx;refine gyes ?_;refine⟨_,rfl,_,rfl,_,rfl,_,_,rfl,rfl,.inl ⟨by omega,by omega⟩,_,_,rfl,rfl,cput (by rw[Ab]; exact zb (by omega)) hj hy aj ⟨_,rfl,sm.then hD,upd_same,?_⟩⟩;have e:(ren first aB ps)[j]?=some (first+aB*q):=by unfold ren; rw[Am,eq]; rfl
  rw[AY e,Ar]; rfl
 ·rintro σ ys H3 ⟨v,rfl,sm,aj,rfl⟩
  rw[Av (by unfold ren; simp)] at aj;exact k H3 sm aj
def zjY {f ft:Addr}{fd bV:FuncData} (F:Fun K "_law_named" "_law_named" zdW f fd) (B:Bt mg) (Ft:Fun K "_law_take" "_law_take" zgF ft bV) (bt:Binds K bV ["box","most"] []) (mt:mg "_law_take"=some (.ref ft)) :
  FnOk P w K mg base CX0 2 f fd ["box","web"] zhH:=by
 have Gt:FnOk P w K mg base CX0 1 ft bV ["box","most"] zdV:=zdv Ft;refine F.ok zcm (fun vs H Q E h=>?_) (fun cdv A outer s H vs Q E hr h=>?_)
 ·obtain⟨p,l,as,ae,rfl,_⟩:=h; rfl
 ·obtain⟨p,l,as,ae,rfl,hb,hl,ht,cV,h10,k⟩:=h
  refine⟨_,za (zo (i:=2) zcm.nd rfl (Or.inr rfl) (zw zaq ze (zk Gt hr rfl mt Ft.kp bt .nil pass0 (pa_cons (pv 0) (pa_cons ze pa_nil)))))
   (za (zo (i:=3) zcm.nd rfl (Or.inr rfl) (zk Gt hr rfl mt Ft.kp bt .nil pass0 (pa_cons (pv 0) (pa_cons ze pa_nil))))
   (za (zo (i:=4) zcm.nd rfl (Or.inl rfl) (zC pa_nil))
   (za (zaa AZ rfl (zL (pv 1)) (zm (i:=5) zcm.nd rfl (Or.inl rfl))
    (zd (zv (zaF PySem.F.plainAttrs_list PySem.F.slot_list_insert PySem.F.type_list_insert ziM (pv 4)
     (pa_cons (zk Gt hr rfl mt Ft.kp bt .nil pass0 (pa_cons (pv 0) (pa_cons (zw zaq (zq zt rfl B.len zau (pa_cons (pv 4) pa_nil)) ze) pa_nil)))
     (pa_cons (zj zat rfl B.tuple zeg (pa_cons
      (zB ["box","web","gap","first","found","piece"] ["point","first","gap"] [none,some 3,some 2] (zeZ (pv 5)) (fun cl C s₀ H₀ ex=>zm (i:=0) (ndN ["point","first","gap"]) rfl (Or.inl rfl)) (fun cl C s₀ H₀ ex=>zM)
       (fun cl C s₀ H₀ ex=>zw zaq (pv 1) (zw zbk (pv 2) (pv 0))) (hfr:=frOf (zf zdW) (by decide +kernel))) pa_nil)) pa_nil))))))
   (zd (zl (pv 4)))))),?_⟩
  refine⟨_,rfl,p,3,rfl,hb,by decide,by decide,fun r1 H1 a1 a2 aM fc=>⟨_,_,rfl,rfl,?_⟩⟩;refine⟨_,rfl,p,12,rfl,fc,by decide,by decide,fun r2 H2 c1 c2 bU cO=>⟨zb (by simp),fun D hD=>?_⟩⟩;have ic:=aM.trans bU;have cG:H D=none:=ic.free hb cO hD;have lg:l≠p:=hb.ne hl;have aG:=ht.length;refine⟨_,rfl,l,rfl,⟨_,SqL.of ((ic.then cG) _ _ lg hl)⟩,zae (K:=K) (a:=l) (xs:=as.map V.ref) (fun i σ H3=>∃bs aF v,σ=[some (.ref p),some (.ref l),some (.int (1+r1)),some (.int r2),some (.ref D),v]/\zr p H H3/\zN H3 p/\H3 D=some (.lst (bs.map V.ref))/\Tps H3 bs aF/\aF.Perm ((ae.take i).map (ren r2 (1+r1))))
   ⟨[],[],none,rfl,ic.then cG,cO.new hD,upd_same,.nil,List.Perm.nil⟩ (fun i σ H3 _ ⟨_,_,_,_,sb,_⟩=>SqL.of (sb _ _ lg hl)) ?_ ?_⟩
  ·rintro i x σ H3 hx ⟨bs,aF,v,rfl,cA,cD,aj,hq,hp⟩
   obtain⟨a,ea,rfl⟩:=zah hx;obtain⟨ps,cj,cF⟩:=ht.get ea;have hi:i<ae.length:=(List.getElem?_eq_some_iff.mp cj).1;have iK:=hq.length;have hql:aF.length=i:=by rw[hp.length_eq,Ab,AJ]; omega
   have hDp:D≠p:=cD.ne aj;refine⟨_,rfl,.inl ⟨rfl,_,SqL.of aj⟩,_,rfl,_,rfl,D,_,rfl,.inl (SqL.of aj),_,_,rfl,rfl,p,_,rfl,cD,by rw[Ab]; omega,by rw[Ab]; omega,fun r H4 r0 sR b0 eP=>?_⟩;rw[Ab] at sR;have i0:Tp H4 a ps:=(cA.trans b0).tp hb cF;refine⟨_,rfl,a,rfl,⟨_,SqT.of i0⟩,fun D2 bD=>zI (ziY i0 (h10 ps (At cj)) ⟨by omega,by omega⟩ bD fun H5 bB di=>⟨D2,_,rfl,.inl ⟨SqL.of di,fun t bW=>?_⟩⟩)⟩;have s6:Same H4 (upd H5 t (.tup ((ren r2 (1+r1) ps).map V.int))):=bB.trans (Same.new bW);have cu:=b0 _ _ hDp aj;have iD:=s6 _ _ cu;have ff:=eP.same s6;refine⟨D,_,r,_,rfl,rfl,iD,r0,by rw[Ab]; omega,zR (by rw[Ab]; omega),⟨bs.take r.toNat++t::bs.drop r.toNat,aF.take r.toNat++ren r2 (1+r1) ps::aF.drop r.toNat,_,rfl,((cA.trans b0).trans (zr.of s6)).then cG,ff.upd hDp,?_,?_,?_⟩⟩
   ·rw[upd_same,Ar,AH,List.map_take,List.map_drop]
   ·have tq:=s6.tps (b0.tps cD hq)
    exact Tps.upd (Tps.append (tq.take _) (.cons upd_same (tq.drop _))) iD (by intro xs z; cases z)
   ·rw[AY cj,Ar]
    have h1:(aF.take r.toNat++ren r2 (1+r1) ps::aF.drop r.toNat).Perm (ren r2 (1+r1) ps::aF):=by
     have:=List.perm_middle (a:=ren r2 (1+r1) ps) (l₁:=aF.take r.toNat) (l₂:=aF.drop r.toNat)
     rwa [List.take_append_drop] at this
    exact h1.trans ((List.perm_append_singleton _ _).symm.trans (List.Perm.append_right _ hp))
  ·rintro σ H3 ⟨bs,aF,v,rfl,cA,cD,aj,hq,hp⟩
   rw[Ab,aG,take_all] at hp;exact⟨_,rfl,k D bs aF r2 (1+r1) H3 cA cD cG aj hq c1 c2 (by omega) (by omega) hp⟩
end
end K19
end
section
namespace K19
open K1
open PySem L2 STb
abbrev sWeb:Stmt:=top 65
def kvI (seq:List Int):List (Key×V):=(dd seq).map fun n=>((Sum.inl n:Key),V.bl true)
def zkY (seq:List Int):(kvI seq).length<=seq.length:=by unfold kvI; rw[Ab]; exact zaA seq
def zlQ (seq:List Int) (n:Int):putK (kvI seq) (Sum.inl n) (.bl true)=kvI (seq++[n]):=by
 unfold putK kvI;rw[zas];have ha:(((dd seq).map fun n=>((Sum.inl n:Key),V.bl true)).any fun kv=>decide (kv.1=Sum.inl n))=decide (n∈dd seq):=by
  rw[List.any_map]
  by_cases h:n∈dd seq
  ·rw[decide_eq_true h,List.any_eq_true]
   exact⟨n,h,by simp⟩
  ·rw[decide_eq_false h,List.any_eq_false]
   intro q hq;simp only[Function.comp,decide_eq_true_eq,Sum.inl.injEq];rintro rfl;exact h hq
 rw[ha]
 by_cases h:n∈dd seq
 ·rw[decide_eq_true h,if_pos rfl,if_pos h,Az]
  refine List.map_congr_left fun q hq=>?_;simp only[Function.comp];split <;> rfl
 ·rw[decide_eq_false h,if_neg (by simp),if_neg h,Ar]
  rfl
def zi7 (seq:List Int):((kvI seq).map fun kv=>kV kv.1)=(dd seq).map V.int:=by unfold kvI; rw[Az]; rfl
def zj7 {ms:List Int} (h1:ms.Pairwise (·<=·)) (h2:ms.Nodup):rises ms=true:=by
 rw[zdd];intro i a b ha hb;obtain⟨la,ea⟩:=List.getElem?_eq_some_iff.mp ha;obtain⟨lb,eb⟩:=List.getElem?_eq_some_iff.mp hb;have g1:=List.pairwise_iff_getElem.mp h1 i (i+1) la lb (by omega);have g2:=List.pairwise_iff_getElem.mp h2 i (i+1) la lb (by omega);rw[ea,eb] at g1 g2;omega
def Small (ae:List (List Int)):Prop:=ae.Nodup/\∀ps∈ae,ps≠[]/\ps.length<=4/\rises ps=true/\∀x∈ps,0<=x/\x<=5
def Base (b:List (List Int)):Prop:=(∃n,n<20/\b=known n) \/ (b.length<=5/\Small b)
def Drawn (aF:List (List Int)):Prop:=∃b first aB,Base b/\0<=first/\first<12/\1<=aB/\aB<=3/\aF.Perm (b.map (ren first aB))
def zce:∀n,n<20->(known n).length<=20/\∀ps∈known n,ps≠[]/\ps.length<=5:=by decide +kernel
def zf9 {b:List (List Int)} (h:Base b):b.length<=20/\∀ps∈b,ps≠[]/\ps.length<=5:=by
 rcases h with ⟨n,hn,rfl⟩ | ⟨h5,hs⟩
 ·exact zce n hn
 ·refine⟨by omega,fun ps hp=>?_⟩
  obtain⟨h1,h2,_⟩:=hs.2 ps hp;exact⟨h1,by omega⟩
def zeK {q:List (List Int)} (h:Drawn q):q.length<=20/\∀ps∈q,ps≠[]/\ps.length<=5:=by
 obtain⟨b,first,aB,hb,_,_,_,_,hp⟩:=h;obtain⟨h1,h2⟩:=zf9 hb;refine⟨by rw[hp.length_eq,Ab]; exact h1,fun ps hm=>?_⟩;obtain⟨r,hr,rfl⟩:=List.mem_map.mp (hp.mem_iff.mp hm);obtain⟨g1,g2⟩:=h2 r hr;unfold ren;exact⟨fun z=>g1 (List.map_eq_nil_iff.mp z),by rw[Ab]; exact g2⟩
section
variable {P:Program}{w:World}{K:Ad}{mg:Str->Option Value}{base:Heap}
def znu:Sp:=fun vs H Q _=>∃p,vs=[.ref p]/\zN H p/\∀D bs aF H',zr p H H'->zN H' p->H D=none->H' D=some (.lst (bs.map V.ref))->Tps H' bs aF->Drawn aF->Q (.ref D) H'
def zga:zi ["box","found","k","some","j","piece"] ["box"] (zf sWeb):=⟨rfl,rfl,rfl,by decide +kernel,rfl,by decide +kernel,by decide +kernel⟩
def zne {f ft fn fk:Addr}{fd bV ia cE:FuncData} (F:Fun K "_law_web" "_law_web" sWeb f fd) (B:Bt mg) (Ft:Fun K "_law_take" "_law_take" zgF ft bV) (bt:Binds K bV ["box","most"] []) (mt:mg "_law_take"=some (.ref ft))
  (Fn:Fun K "_law_named" "_law_named" zdW fn ia) (bn:Binds K ia ["box","web"] []) (mn:mg "_law_named"=some (.ref fn)) (Fk:Fun K "_law_known" "_law_known" zfB fk cE) (bk:Binds K cE ["number"] []) (mk:mg "_law_known"=some (.ref fk)) :
  FnOk P w K mg base CX0 3 f fd ["box"] znu:=by
 have Gt:FnOk P w K mg base CX0 1 ft bV ["box","most"] zdV:=zdv Ft;have Gn:FnOk P w K mg base CX0 2 fn ia ["box","web"] zhH:=zjY Fn B Ft bt mt;have Gk:FnOk P w K mg base CX0 1 fk cE ["number"] zhE:=zj6 Fk B;refine F.ok zga (fun vs H Q E h=>?_) (fun cdv A outer s H vs Q E hr h=>?_)
 ·obtain⟨p,rfl,_⟩:=h; rfl
 ·obtain⟨p,rfl,hb,k⟩:=h
  have hu:=zbE hr;have aS:=hr.units;have hr1:Room 1 _:=hr.mono (by decide);refine⟨_,za (zD (zp zaK (zk Gt hr1 rfl mt Ft.kp bt .nil pass0 (pa_cons (pv 0) (pa_cons ze pa_nil))) ze (nomark _))
    (zd (zl (zk Gn hr rfl mn Fn.kp bn .nil pass0 (pa_cons (pv 0) (pa_cons (zk Gk hr1 rfl mk Fk.kp bk .nil pass0 (pa_cons (zk Gt hr1 rfl mt Ft.kp bt .nil pass0 (pa_cons (pv 0) (pa_cons ze pa_nil))) pa_nil)) pa_nil))))) zn)
   (za (zo (i:=1) zga.nd rfl (Or.inl rfl) (zC pa_nil))
   (za (zaa AZ rfl (zaH rfl B.range (pa_cons (zk Gt hr1 rfl mt Ft.kp bt .nil pass0 (pa_cons (pv 0) (pa_cons ze pa_nil))) pa_nil)) (zm (i:=2) zga.nd rfl (Or.inl rfl))
    (za (zo (i:=3) zga.nd rfl (Or.inl rfl) zjf)
    (za (zaa AZ rfl (zaH rfl B.range (pa_cons (zw zaq ze (zk Gt hr1 rfl mt Ft.kp bt .nil pass0 (pa_cons (pv 0) (pa_cons ze pa_nil)))) pa_nil)) (zm (i:=4) zga.nd rfl (Or.inl rfl))
     (zd (za3 hu (pv 3) (zk Gt hr1 rfl mt Ft.kp bt .nil pass0 (pa_cons (pv 0) (pa_cons ze pa_nil))) za8 rfl)))
    (za (zo (i:=5) zga.nd rfl (Or.inl rfl) (zj zat rfl B.tuple zeg (pa_cons (zq zbG rfl B.sorted zcW (pa_cons (zj (zee rfl) rfl B.list zan (pa_cons (pv 3) pa_nil)) pa_nil)) pa_nil)))
    (zd (zD (zp (zd7 (in1_units aS)) (pv 5) (pv 1) (by with_unfolding_all rfl)) (zd (zv (zaF PySem.F.plainAttrs_list PySem.F.slot_list_append PySem.F.type_list_append zai (pv 1) (pa_cons (pv 5) pa_nil)))) zn))))))
   (zd (zl (zk Gn hr rfl mn Fn.kp bn .nil pass0 (pa_cons (pv 0) (pa_cons (pv 1) pa_nil))))))),?_⟩
  refine⟨_,rfl,p,2,rfl,hb,by decide,by decide,fun r H1 r0 r1 aM fc=>⟨rfl,_,rfl,?_⟩⟩;refine ite2 (fun h1=>?_) (fun h1=>?_)
  ·refine⟨_,rfl,_,rfl,p,20,rfl,fc,by decide,by decide,fun n H2 n0 n1 bU cO=>?_⟩
   obtain⟨m,rfl⟩:=Int.eq_ofNat_of_zero_le n0;refine⟨m,rfl,by omega,fun D as H3 aE cG hD ht=>?_⟩;obtain⟨g1,g2⟩:=zce m (by omega);have cA:=(aM.trans bU).trans (zr.of aE);have cD:=cO.same aE;refine⟨p,D,as,known m,rfl,cD,hD,ht,g1,fun ps hp=>by have:=(g2 ps hp).2; omega,fun D' bs aF first aB H4 b0 eP bj cu iP c1 c2 c3 c4 bq=>?_⟩;exact k D' bs aF H4 (cA.trans b0) eP (cA.free hb cD bj) cu iP ⟨known m,first,aB,.inl ⟨m,by omega,rfl⟩,c1,c2,c3,c4,bq⟩
  ·refine⟨zb (by simp),fun L hL=>?_⟩
   have hL0:H L=none:=aM.free hb fc hL;refine⟨_,rfl,p,6,rfl,fc.new hL,by decide,by decide,fun r6 H3 a1 a2 cA cD=>⟨r6,rfl,by omega,by omega,?_⟩⟩;have iu:L≠p:=zN.ne (as:=[]) (fc.new hL) upd_same;have lA:zr p H H3:=(aM.then hL0).trans cA;refine zbh (lo:=0) (n:=r6.toNat) (fun i σ H4=>∃as ae v2 v3 v4 v5,σ=[some (.ref p),some (.ref L),v2,v3,v4,v5]/\zr p H H4/\zN H4 p/\H4 L=some (.lst (as.map V.ref))/\Tps H4 as ae/\Small ae/\ae.length<=i)
    ⟨[],[],none,none,none,none,rfl,lA,cD,cA _ _ iu upd_same,.nil,⟨List.nodup_nil,fun ps h=>nomatch h⟩,Af _⟩ ?_ ?_
   ·rintro i σ H4 hi ⟨as,ae,v2,v3,v4,v5,rfl,b0,eP,dH,iP,hsm,hlen⟩
    have aG:=iP.length;intro d hd;have dE:H d=none:=b0.free hb eP hd;have sC:L≠d:=zg dH hd;refine⟨_,rfl,p,4,rfl,eP.new hd,by decide,by decide,fun r4 H5 e1 e2 c7 da=>⟨_,_,rfl,rfl,_,rfl,by omega,by omega,?_⟩⟩;have kF:d≠p:=by
     obtain⟨x,y,e,_⟩:=eP.new (o:=.dK []) hd;exact zaX upd_same e (by intro z; cases z)
    have s4:=Same.new (o:=.dK []) hd;refine zbh (lo:=0) (n:=(1+r4).toNat) (fun j σ H6=>∃seq v4,σ=[some (.ref p),some (.ref L),some (.int (0+i)),some (.ref d),v4,v5]/\zr p H H6/\zN H6 p/\H6 L=some (.lst (as.map V.ref))/\Tps H6 as ae/\H6 d=some (.dK (kvI seq))/\seq.length=j/\∀x∈seq,0<=x/\x<=5)
     ⟨[],_,rfl,(b0.then dE).trans c7,da,c7 _ _ iu (s4 _ _ dH),c7.tps (eP.new hd) (s4.tps iP),c7 _ _ kF upd_same,rfl,fun x h=>nomatch h⟩ ?_ ?_
    ·rintro j σ H6 hj ⟨seq,v4,rfl,cL,ff,gM,gi,ib,j8,n_⟩
     refine⟨_,rfl,_,rfl,p,6,rfl,ff,by decide,by decide,fun r H7 f1 f2 fZ eB=>⟨d,_,rfl,DPut.k (k:=Sum.inl r) (fZ _ _ kF ib) (zR (by have:=zkY seq; omega)),⟨seq++[r],_,rfl,(cL.trans fZ).then dE,eB.upd kF,?_,?_,by rw[upd_same,zlQ],by rw[Aq,j8]; rfl,?_⟩⟩⟩
     ·rw[zh sC]; exact fZ _ _ iu gM
     ·exact Tps.upd (fZ.tps ff gi) (fZ _ _ kF ib) (by intro xs z; cases z)
     ·intro x hx
      rcases List.mem_append.mp hx with hx | hx
      ·exact n_ x hx
      ·rw[List.mem_singleton] at hx; subst hx; omega
    ·rintro σ H6 ⟨seq,v4,rfl,cL,ff,gM,gi,ib,j8,n_⟩
     refine⟨_,rfl,d,_,rfl,ib,fun l2 bO=>⟨l2,dd seq,rfl,SqL.of (by rw[upd_same,zi7]),(by have:=zaA seq; omega),fun D2 ms hp hs bD=>⟨D2,_,rfl,.inl ⟨SqL.of upd_same,fun t bW=>?_⟩⟩⟩⟩;have s6:Same H6 (upd (upd (upd H6 l2 (.lst ((kvI seq).map fun kv=>kV kv.1))) D2 (.lst (ms.map V.int))) t (.tup (ms.map V.int))):=((Same.new bO).trans (Same.new bD)).trans (Same.new bW);generalize hH7:upd (upd (upd H6 l2 (.lst ((kvI seq).map fun kv=>kV kv.1))) D2 (.lst (ms.map V.int))) t (.tup (ms.map V.int))=H7 at s6;have qr:Tp H7 t ms:=by rw[<- hH7]; exact upd_same
     have fZ:=cL.trans (zr.of s6);have eB:=ff.same s6;refine⟨_,rfl,_,rfl,t,L,ms,as,ae,rfl,rfl,qr,SqL.of (s6 _ _ gM),s6.tps gi,_,rfl,?_⟩;have wf:ms≠[]/\ms.length<=4/\rises ms=true/\∀x∈ms,0<=x/\x<=5:=by
      refine⟨fun z=>?_,?_,zj7 hs (hp.nodup_iff.mpr (zaU seq)),fun x hx=>n_ x ((za2 seq x).mp (hp.mem_iff.mp hx))⟩
      ·have h0:dd seq=[]:=by rw[z] at hp; exact (List.nil_perm.mp hp)
       cases hq:seq with
       | nil=>rw[hq] at j8; simp at j8; omega
       | cons x r=>
        have:=(za2 seq x).mpr (by rw[hq]; exact Au);rw[h0] at this;cases this
      ·have:=zaA seq
       rw[hp.length_eq];omega
     by_cases hin:ms∈ae
     ·rw[decide_eq_true hin]
      exact iteF ⟨as,ae,_,_,_,_,rfl,fZ,eB,s6 _ _ gM,s6.tps gi,hsm,by omega⟩
     ·rw[decide_eq_false hin]
      refine iteT ⟨_,rfl,.inl ⟨rfl,_,SqL.of (s6 _ _ gM)⟩,_,rfl,L,_,_,rfl,rfl,s6 _ _ gM,zR (by rw[Ab]; omega),⟨as++[t],ae++[ms],_,_,_,_,rfl,fZ.then hL0,eB.upd iu,by rw[upd_same,Ar]; rfl,Tps.upd (Tps.snoc (s6.tps gi) qr) (s6 _ _ gM) (by intro xs z; cases z),⟨?_,?_⟩,by rw[Aq]; simp; omega⟩⟩
      ·rw[List.nodup_append]
       refine⟨hsm.1,by simp,fun a ha b hb' e=>?_⟩;rw[List.mem_singleton] at hb';subst hb'; subst e; exact hin ha
      ·intro ps cF
       rcases List.mem_append.mp cF with h | h
       ·exact hsm.2 ps h
       ·rw[List.mem_singleton] at h; subst h; exact wf
   ·rintro σ H4 ⟨as,ae,v2,v3,v4,v5,rfl,b0,eP,dH,iP,hsm,hlen⟩
    refine⟨_,rfl,_,rfl,p,L,as,ae,rfl,eP,dH,iP,by omega,fun ps hp=>by have:=(hsm.2 ps hp).2.1; omega,fun D' bs aF first aB H5 c7 da bj di wZ c1 c2 c3 c4 bq=>?_⟩;exact k D' bs aF H5 (b0.trans c7) da (b0.free hb eP bj) di wZ ⟨ae,first,aB,.inr ⟨by omega,hsm⟩,c1,c2,c3,c4,bq⟩
end
end K19
end
section
namespace K1
open PySem L2 STb
def zeX:∀a b:List Int,HT.lexLt a b=true->HT.lexLt b a=false
 | [],[],h=>rfl
 | [],_::_,h=>rfl
 | _::_,[],h=>by rw[HT.zaZ] at h; exact absurd h Ao
 | x::xs,y::ys,h=>by
  rw[HT.zK] at h ⊢
  by_cases e:x=y
  ·rw[if_pos e] at h; rw[if_pos e.symm]; exact zeX xs ys h
  ·rw[if_neg e] at h; rw[if_neg (fun z=>e z.symm)]
   have:=of_decide_eq_true h;exact decide_eq_false (by omega)
def zfT:∀a b:List Int,HT.lexLt a b=false->HT.lexLt b a=false->a=b
 | [],[],_,_=>rfl
 | [],_::_,h,_=>by rw[HT.zO] at h; exact absurd h (by decide)
 | _::_,[],_,h=>by rw[HT.zO] at h; exact absurd h (by decide)
 | x::xs,y::ys,h,h'=>by
  rw[HT.zK] at h h'
  by_cases e:x=y
  ·rw[if_pos e] at h; rw[if_pos e.symm] at h'
   rw[e,zfT xs ys h h']
  ·rw[if_neg e] at h; rw[if_neg (fun z=>e z.symm)] at h'
   have:=of_decide_eq_false h;have:=of_decide_eq_false h';omega
def zap:∀a b c:List Int,HT.lexLt b a=false->HT.lexLt c b=false->HT.lexLt c a=false
 | [],b,c,_,_=>by cases c with
  | nil=>rfl
  | cons _ _=>rfl
 | _::_,[],c,h,_=>by rw[HT.zO] at h; exact absurd h (by decide)
 | _::_,_::_,[],_,h=>by rw[HT.zO] at h; exact absurd h (by decide)
 | x::xs,y::ys,z::zs,h,h'=>by
  rw[HT.zK] at h h' ⊢
  by_cases e:y=x
  ·rw[if_pos e] at h
   by_cases e2:z=y
   ·rw[if_pos e2] at h'; rw[if_pos (e2.trans e)]; exact zap xs ys zs h h'
   ·rw[if_neg e2] at h'; rw[if_neg (by omega)]
    have:=of_decide_eq_false h';exact decide_eq_false (by omega)
  ·rw[if_neg e] at h
   have h1:=of_decide_eq_false h
   by_cases e2:z=y
   ·rw[if_neg (by omega)]
    exact decide_eq_false (by omega)
   ·rw[if_neg e2] at h'
    have h2:=of_decide_eq_false h';rw[if_neg (by omega)];exact decide_eq_false (by omega)
def key (p:List Int):List Int:=(p.length:Int)::p
def kle (a b:List Int):Bool:=!HT.lexLt (key b) (key a)
def za4 {a b:List Int}:kle a b=true ↔ HT.lexLt (key b) (key a)=false:=by unfold kle; simp
def canon (ae:List (List Int)):List (List Int):=(dd (ae.flatMap parts)).mergeSort kle
def zaV (ae:List (List Int)):(canon ae).Perm (dd (ae.flatMap parts)):=List.mergeSort_perm _ _
def zaM (ae:List (List Int)):(canon ae).Pairwise (fun a b=>kle a b=true):=by
 refine List.pairwise_mergeSort (fun a b c h1 h2=>?_) (fun a b=>?_) _
 ·rw[za4] at h1 h2 ⊢; exact zap _ _ _ h1 h2
 ·rw[Bool.or_eq_true,za4,za4]
  cases h:HT.lexLt (key b) (key a) with
  | false=>exact .inl rfl
  | true=>exact .inr (zeX _ _ h)
def zaC {ae:List (List Int)}{x:List Int}:x∈canon ae ↔ x∈ae.flatMap parts:=by rw[(zaV ae).mem_iff,za2]
def za5 (ae:List (List Int)):(canon ae).Nodup:=(zaV ae).nodup_iff.mpr (zaU _)
def zbg (ae:List (List Int)):(canon ae).length=(dd (ae.flatMap parts)).length:=(zaV ae).length_eq
def zd0 {l m:List (List Int)} (hp:l.Perm m) (h1:l.Pairwise (fun a b=>kle a b=true)) (h2:m.Pairwise (fun a b=>kle a b=true)):l=m:=by
 refine List.Perm.eq_of_pairwise (fun a b _ _ g1 g2=>?_) h1 h2 hp;rw[za4] at g1 g2;have:=zfT _ _ g2 g1;unfold key at this;exact (List.cons.inj this).2
def canon_of {ae l:List (List Int)} (hp:l.Perm (dd (ae.flatMap parts))) (hs:l.Pairwise (fun a b=>HT.lexLt ((b.length:Int)::b) ((a.length:Int)::a)=false)):l=canon ae:=
 zd0 (hp.trans (zaV ae).symm) (hs.imp fun h=>za4.mpr h) (zaM ae)
def zbN:∀(n:Nat) (p q:List Int),p.length=n->(q∈subs p ↔ q.Sublist p)
 | 0,p,q,h=>by
  obtain rfl:=List.eq_nil_of_length_eq_zero h;show q∈[[]] ↔ _;simp
 | n+1,p,q,h=>by
  obtain⟨r,x,rfl⟩:∃r x,p=r++[x]:=by
   rcases List.eq_nil_or_concat p with e | ⟨r,x,e⟩
   ·rw[e] at h; cases h
   ·exact⟨r,x,by rw[e,List.concat_eq_append]⟩
  have hr:r.length=n:=by simpa using h
  rw[zb2,List.mem_append,zbN n r q hr,List.mem_map,List.sublist_append_iff];constructor
  ·rintro (h1 | ⟨y,hy,rfl⟩)
   ·exact⟨q,[],by simp,h1,List.nil_sublist _⟩
   ·exact⟨y,[x],rfl,(zbN n r y hr).mp hy,List.Sublist.refl _⟩
  ·rintro⟨l1,l2,rfl,s1,s2⟩
   cases s2 with
   | cons _ h=>
    obtain rfl:=List.sublist_nil.mp h;exact .inl (by simpa using s1)
   | cons_cons _ h=>
    obtain rfl:=List.sublist_nil.mp h;exact .inr ⟨l1,(zbN n r l1 hr).mpr s1,rfl⟩
def zT {p q:List Int}:q∈parts p ↔ q≠[]/\q.Sublist p:=by
 obtain⟨t,e,ht⟩:=zcl p;have hs:=zbN p.length p q rfl;rw[e] at hs;unfold parts;rw[e];show q∈t ↔ _;constructor
 ·intro h
  exact⟨ht q h,hs.mp (Aw _ h)⟩
 ·rintro⟨h1,h2⟩
  rcases List.mem_cons.mp (hs.mpr h2) with h | h
  ·exact absurd h h1
  ·exact h
def zaO:∀p:List Int,rises p=true ↔ p.Pairwise (·<·)
 | []=>by simp[rises]
 | [a]=>by simp[rises]
 | a::b::r=>by
  have ih:=zaO (b::r);rw[show rises (a::b::r)=(decide (a<b) && rises (b::r)) from rfl,AF,decide_eq_true_eq,ih,List.pairwise_cons (a:=a)];constructor
  ·rintro⟨h1,h2⟩
   refine⟨fun x hx=>?_,h2⟩;rcases List.mem_cons.mp hx with rfl | hx
   ·exact h1
   ·have:=(List.pairwise_cons.mp h2).1 x hx
    omega
  ·rintro⟨h1,h2⟩
   exact⟨h1 b Au,h2⟩
def zbo {p:List Int}:zax p=true ↔ p≠[]/\p.length<=5/\(∀x∈p,0<=x/\x<=99)/\p.Pairwise (·<·):=by
 unfold zax;simp only[AF,decide_eq_true_eq,List.all_eq_true,zaO];constructor
 ·rintro⟨⟨⟨h1,h2⟩,h3⟩,h4⟩
  exact⟨fun z=>by rw[z] at h1; simp at h1,h2,h3,h4⟩
 ·rintro⟨h1,h2,h3,h4⟩
  refine⟨⟨⟨?_,h2⟩,h3⟩,h4⟩;cases p with
  | nil=>exact absurd rfl h1
  | cons _ _=>simp
def zgf {p q:List Int} (h:zax p=true) (hq:q∈parts p):zax q=true:=by
 rw[zbo] at h ⊢;rw[zT] at hq;exact⟨hq.1,AA hq.2.length_le h.2.1,fun x hx=>h.2.2.1 x (hq.2.subset hx),h.2.2.2.sublist hq.2⟩
def zlg {ae:List (List Int)} (hn:ae.Nodup) (hp:∀p∈ae,zax p=true):zkK ae ae.length:=by
 intro i p hi e;refine⟨fun hm=>?_,hp p (At e)⟩;obtain⟨j,ej⟩:=List.mem_iff_getElem?.mp hm;obtain⟨lj,ki⟩:=List.getElem?_eq_some_iff.mp ej;rw[AJ] at lj;obtain⟨li,ei⟩:=List.getElem?_eq_some_iff.mp e;have:=List.pairwise_iff_getElem.mp hn j i (by omega) li (by omega);rw[List.getElem_take] at ki;exact this (ki.trans ei.symm)
def zmq {ae:List (List Int)} (cV:ae.length<=20) (hn:ae.Nodup) (hp:∀p∈ae,zax p=true) (h:(dd (ae.flatMap parts)).length<=200):webM ae=true:=by
 rw[zj0 ae cV (zlg hn hp),decide_eq_true h]
def zh8 {ae:List (List Int)} (h:webM ae=true):ae.length<=20/\(∀p∈ae,zax p=true)/\(∀p∈ae,p.length<=5)/\(dd (ae.flatMap parts)).length<=200:=by
 unfold webM at h;simp only[AF,decide_eq_true_eq,List.all_eq_true] at h;obtain⟨⟨⟨h1,h2⟩,h3⟩,h4⟩:=h;have h5:∀p∈ae,zax p=true:=fun p hp=>by rw[<- zfR]; exact h2 p hp
 exact⟨h1,h5,fun p hp=>(zbo.mp (h5 p hp)).2.1,h4⟩
def over (o p:List Int):Bool:=decide (p.length<o.length) && p.all fun x=>decide (x∈o)
end K1
end
section
namespace K19
open K1
open PySem L2 STb
def BOk (b:List (List Int)):Prop:=b.Nodup/\b.length<=17/\(∀ps∈b,ps≠[]/\ps.length<=5/\rises ps=true/\∀x∈ps,0<=x/\x<=7)/\(b.flatMap parts).length<=200
def zme:∀n,n<20->(known n).Nodup/\(known n).length<=17/\(∀ps∈known n,ps≠[]/\ps.length<=5/\rises ps=true/\∀x∈ps,0<=x/\x<=7)/\((known n).flatMap parts).length<=200:=by decide +kernel
def zfG {m:Nat}:∀{b:List (List Int)},(∀ps∈b,(parts ps).length<=m)->(b.flatMap parts).length<=m*b.length
 | [],_=>by simp
 | p::r,h=>by
  have h1:=h p Au;have h2:=zfG (b:=r) fun q hq=>h q (Aw _ hq);rw[List.flatMap_cons,Aq,Ap,Nat.mul_succ];omega
def zib {b:List (List Int)} (h:Base b):BOk b:=by
 rcases h with ⟨n,hn,rfl⟩ | ⟨h5,hs⟩
 ·exact zme n hn
 ·refine⟨hs.1,by omega,fun ps hp=>?_,?_⟩
  ·obtain⟨h1,h2,h3,h4⟩:=hs.2 ps hp
   exact⟨h1,by omega,h3,fun x hx=>by have:=h4 x hx; omega⟩
  ·have:=zfG (m:=15) (b:=b) fun ps hp=>by
    rw[zao];have h2:=(hs.2 ps hp).2.1;have:2 ^ ps.length<=2 ^ 4:=Nat.pow_le_pow_right (by decide) h2;omega
   omega
def zkV {first aB:Int} (hg:1<=aB) {p q:List Int} (h:ren first aB p=ren first aB q):p=q:=by
 unfold ren at h;refine (List.map_inj_right (f:=fun x=>first+aB*x) (fun x y e=>?_)).mp h;have:aB*x=aB*y:=by omega
 exact Int.eq_of_mul_eq_mul_left (by omega) this
def zik {first aB:Int} (h0:0<=first) (h1:first<12) (hg:1<=aB) (kj:aB<=3) {p:List Int} (h:p≠[]/\p.length<=5/\rises p=true/\∀x∈p,0<=x/\x<=7):zax (ren first aB p)=true:=by
 obtain⟨a,b,c,d⟩:=h;rw[zbo];unfold ren;refine⟨fun z=>a (List.map_eq_nil_iff.mp z),by rw[Ab]; exact b,fun y hy=>?_,?_⟩
 ·obtain⟨x,hx,rfl⟩:=List.mem_map.mp hy
  have:=d x hx;have lM:aB=1 \/ aB=2 \/ aB=3:=by omega
  rcases lM with rfl | rfl | rfl <;> omega
 ·rw[zaO] at c
  rw[List.pairwise_map];refine c.imp fun {x y} e=>?_;have:aB*x<aB*y:=Int.mul_lt_mul_of_pos_left e (by omega);omega
def zg0 {q:List (List Int)} (h:Drawn q):webM q=true/\q.Nodup/\q.length<=17:=by
 obtain⟨b,first,aB,hb,h0,h1,hg,kj,hp⟩:=h;obtain⟨n1,n2,n3,n4⟩:=zib hb;have hl:q.length<=17:=by rw[hp.length_eq,Ab]; exact n2
 have hn:q.Nodup:=by
  rw[hp.nodup_iff];unfold List.Nodup at n1 ⊢;rw[List.pairwise_map];exact n1.imp fun {x y} e z=>e (zkV hg z)
 refine⟨zmq (by omega) hn (fun p hm=>?_) ?_,hn,hl⟩
 ·obtain⟨r,hr,rfl⟩:=List.mem_map.mp (hp.mem_iff.mp hm)
  exact zik h0 h1 hg kj (n3 r hr)
 ·refine AA (zaA _) ?_
  rw[(hp.flatMap_right parts).length_eq];have:∀b:List (List Int),((b.map (ren first aB)).flatMap parts).length=(b.flatMap parts).length:=by
   intro b
   induction b with
   | nil=>rfl
   | cons p r ih=>
    rw[AH,List.flatMap_cons,List.flatMap_cons,Aq,Aq,ih,zao,zao];unfold ren;rw[Ab]
  rw[this];exact n4
end K19
end
section
namespace K1
open PySem L2 STb
def rims (q:List Int):List (List Int):=if q.length=1 then [] else (A6 q.length).map fun k=>q.take k++q.drop (k+1)
def zc4 (q:List Int):(rims q).length<=q.length:=by
 unfold rims;split
 ·exact AQ _
 ·simp
def zbr:∀(o p:List Int),o.Pairwise (·<·)->p.Pairwise (·<·)->(∀x∈p,x∈o)->p.Sublist o
 | [],p,_,_,h=>by
  cases p with
  | nil=>exact List.Sublist.slnil
  | cons a r=>exact absurd (h a Au) (by simp)
 | b::o,p,ho,hp,h=>by
  obtain⟨fe,dw⟩:=List.pairwise_cons.mp ho;cases p with
  | nil=>exact List.nil_sublist _
  | cons a r=>
   obtain⟨jh,dJ⟩:=List.pairwise_cons.mp hp
   by_cases e:a=b
   ·subst e
    refine (zbr o r dw dJ fun x hx=>?_).cons_cons a;rcases List.mem_cons.mp (h x (Aw _ hx)) with rfl | q
    ·have:=jh x hx; omega
    ·exact q
   ·have ha:a∈o:=by
     rcases List.mem_cons.mp (h a Au) with q | q
     ·exact absurd q e
     ·exact q
    have eM:=fe a ha;refine (zbr o (a::r) dw hp fun x hx=>?_).cons b;rcases List.mem_cons.mp (h x hx) with q | q
    ·exfalso
     rcases List.mem_cons.mp hx with z | z
     ·omega
     ·have:=jh x z; omega
    ·exact q
end K1
end
section
namespace K19
open K1
open PySem L2 STb
def zio:∀n,n<20->(dd ((known n).flatMap parts)).length<=56:=by decide +kernel
def six:List (List Int):=(parts [0,1,2,3,4,5]).filter fun q=>decide (q.length<=4)
def zlN:six.length=56:=by decide +kernel
def ziV {b:List (List Int)} (h:Base b):(dd (b.flatMap parts)).length<=56:=by
 rcases h with ⟨n,hn,rfl⟩ | ⟨h5,hs⟩
 ·exact zio n hn
 ·rw[<- zlN]
  refine (zaU _).length_le_of_subset fun x hx=>?_;rw[za2,List.mem_flatMap] at hx;obtain⟨p,hp,hx⟩:=hx;obtain⟨_,h4,hr,hb⟩:=hs.2 p hp;rw[zT] at hx;have hl:=hx.2.length_le;unfold six;rw[List.mem_filter,zT];refine⟨⟨hx.1,hx.2.trans (zbr _ _ (by decide) ((zaO p).mp hr) fun y hy=>?_)⟩,decide_eq_true (by omega)⟩;have:=hb y hy;have:y=0 \/ y=1 \/ y=2 \/ y=3 \/ y=4 \/ y=5:=by omega
  rcases this with rfl | rfl | rfl | rfl | rfl | rfl <;> decide
def zbc {q:List (List Int)} (h:Drawn q):(dd (q.flatMap parts)).length<=56:=by
 obtain⟨b,first,aB,hb,_,_,_,_,hp⟩:=h;refine AA ?_ (ziV hb);have e:((dd (b.flatMap parts)).map (ren first aB)).length=(dd (b.flatMap parts)).length:=Ab _;rw[<- e];refine (zaU _).length_le_of_subset fun x hx=>?_;rw[za2,List.mem_flatMap] at hx;obtain⟨p,hm,hx⟩:=hx;obtain⟨r,hr,rfl⟩:=List.mem_map.mp (hp.mem_iff.mp hm);rw[zT] at hx;obtain⟨hne,aH⟩:=hx;unfold ren at aH;obtain⟨y,hy,rfl⟩:=List.sublist_map_iff.mp aH;refine List.mem_map.mpr ⟨y,?_,rfl⟩;rw[za2,List.mem_flatMap];exact⟨r,hr,zT.mpr ⟨fun z=>hne (by rw[z]; rfl),hy⟩⟩
end K19
end
section
namespace K19
open K1
open PySem L2 STb
def webS (ae:List (List Int)):Prop:=webM ae=true/\(canon ae).length<64
abbrev zh0:Stmt:=top 26
abbrev zb6:Stmt:=top 27
def zc3 {H:Hp}:∀{qs:List (List Int×Addr)},(∀q∈qs,Tp H q.2 q.1)->Tps H (qs.map (·.2)) (qs.map (·.1))
 | [],_=>.nil
 | q::r,h=>.cons (h q Au) (zc3 fun x hx=>h x (Aw _ hx))
def zcx {H H2:Hp}{ae:List (List Int)}{D:Addr}{qs:List (List Int×Addr)} (t:Told H H2 ae D qs):∃bs,Same H H2/\H D=none/\H2 D=some (.lst (bs.map V.ref))/\Tps H2 bs (canon ae):=by
 obtain⟨sm,hD,bD,hq,hp,hs⟩:=t;have e:qs.map (·.1)=canon ae:=canon_of hp (List.pairwise_map.mpr hs);refine⟨qs.map (·.2),sm,hD,by rw[bD,Az]; rfl,?_⟩;rw[<- e];exact zc3 hq
section
variable {P:Program}{w:World}{K:Ad}{mg:Str->Option Value}{base:Heap}
def zbM (K:Ad):Sp:=fun vs H Q _=>∃l as ae,vs=[.ref l]/\SqL K H l (as.map V.ref)/\Tps H as ae/\webS ae/\∀D H2 bs,Same H H2->H D=none->H2 D=some (.lst (bs.map V.ref))->Tps H2 bs (canon ae)->Q (.ref D) H2
def zfj:zi ["web"] ["web"] (zf zb6):=⟨rfl,rfl,rfl,by decide +kernel,rfl,by decide +kernel,by decide +kernel⟩
def zkh:zi ["web"] ["web"] (zf zh0):=⟨rfl,rfl,rfl,by decide +kernel,rfl,by decide +kernel,by decide +kernel⟩
def zeV (K:Ad):Sp:=fun vs H Q _=>∃l as ae,vs=[.ref l]/\SqL K H l (as.map V.ref)/\Tps H as ae/\webS ae/\∀H2,Same H H2->Q .non H2
def zlA {f fw:Addr}{fd eA:FuncData} (F:Fun K "must_be_web" "must_be_web" zh0 f fd)
  (Fw:Fun K "is_web" "is_web" zfn fw eA) (bw:Binds K eA ["web"] []) (mw:mg "is_web"=some (.ref fw)) (Gw:FnOk P w K mg base CX0 6 fw eA ["web"] (zeF K)):FnOk P w K mg base CX0 7 f fd ["web"] (zeV K):=by
 refine F.ok zkh (fun vs H Q E h=>?_) (fun cdv A outer s H vs Q E hr h=>?_)
 ·obtain⟨l,as,ae,rfl,_⟩:=h; rfl
 ·obtain⟨l,as,ae,rfl,hl,ht,hw,k⟩:=h
  refine⟨_,zd (zD (zaB (zaY (zk Gw hr rfl mw Fw.kp bw .nil pass0 (pa_cons (pv 0) pa_nil)))) zA zn),?_⟩;refine⟨_,rfl,l,as,ae,rfl,hl,ht,(fun _=>by rw[<- zbg]; exact hw.2),fun H1 bA=>⟨_,rfl,?_⟩⟩;rw[hw.1];exact iteF (k H1 bA)
def ziz {f fw fa:Addr}{fd eA gz:FuncData} (F:Fun K "pieces" "pieces" zb6 f fd)
  (Fw:Fun K "must_be_web" "must_be_web" zh0 fw eA) (bw:Binds K eA ["web"] []) (mw:mg "must_be_web"=some (.ref fw)) (Gw:FnOk P w K mg base CX0 7 fw eA ["web"] (zeV K))
  (Fa:Fun K "all_parts" "all_parts" sAll fa gz) (ba:Binds K gz ["some"] []) (ma:mg "all_parts"=some (.ref fa)) (Ga:FnOk P w K mg base CX0 5 fa gz ["some"] (zg4 K)):FnOk P w K mg base CX0 8 f fd ["web"] (zbM K):=by
 refine F.ok zfj (fun vs H Q E h=>?_) (fun cdv A outer s H vs Q E hr h=>?_)
 ·obtain⟨l,as,ae,rfl,_⟩:=h; rfl
 ·obtain⟨l,as,ae,rfl,hl,ht,hw,k⟩:=h
  have hr5:Room 5 _:=hr.mono (by decide);refine⟨_,za (zv (zk Gw hr rfl mw Fw.kp bw .nil pass0 (pa_cons (pv 0) pa_nil)))
   (zd (zl (zk Ga hr5 rfl ma Fa.kp ba .nil pass0 (pa_cons (pv 0) pa_nil)))),?_⟩
  obtain⟨cV,_,h5,_⟩:=zh8 hw.1;refine⟨_,rfl,l,as,ae,rfl,hl,ht,hw,fun H1 bA=>?_⟩;refine⟨_,rfl,l,as,ae,rfl,bA.seq hl,bA.tps ht,h5,cV,(by rw[<- zbg]; exact hw.2),fun D H2 qs t=>?_⟩;obtain⟨bs,dI,hD,bD,hb⟩:=zcx t;exact k D H2 bs (bA.trans dI) (bA.free hD) bD hb
end
end K19
end
section
namespace STb
def zeh (ns:List Int):∀i,i<=ns.length->PyProof.Rows.firstMet (fun i=>ns.getD i 0) i=dd (ns.take i):=by
 intro i
 induction i with
 | zero=>intro _; simp[PyProof.Rows.firstMet,dd]
 | succ i ih=>
  intro hi;have hx:ns[i]?=some ns[i]:=Ah (by omega);have et:ns.take (i+1)=ns.take i++[ns[i]]:=by rw[List.take_add_one,hx]; rfl
  rw[PyProof.Rows.firstMet_succ,ih (by omega),et,zas];have eg:ns.getD i 0=ns[i]:=by rw[AL,hx]; rfl
  rw[eg];unfold PyProof.Rows.step_dedup
  by_cases q:ns[i]∈dd (ns.take i)
  ·rw[if_pos q]; simp[q]
  ·rw[if_neg q]; simp[q]
def zbd {α:Type} [DecidableEq α] (l:List α) (x:α):x∈dd l ↔ x∈l:=by
 suffices ∀(n:Nat),x∈dd (l.take n) ↔ x∈l.take n by simpa using this l.length
 intro n
 induction n with
 | zero=>simp[dd]
 | succ n ih=>
  rw[List.take_add_one];cases e:l[n]? with
  | none=>simpa[e] using ih
  | some y=>
   show x∈dd (l.take n++[y]) ↔ x∈l.take n++[y];rw[zas]
   by_cases q:y∈dd (l.take n)
   ·rw[if_pos q,List.mem_append,List.mem_singleton,ih]
    exact⟨.inl,fun z=>z.elim id fun z=>by
     subst z;exact ih.mp q⟩
   ·rw[if_neg q,List.mem_append,List.mem_append,ih]
def zj9 {α:Type} [DecidableEq α] (l:List α):(dd l).Nodup:=by
 suffices ∀(n:Nat),(dd (l.take n)).Nodup by simpa using this l.length
 intro n
 induction n with
 | zero=>simp[dd]
 | succ n ih=>
  rw[List.take_add_one];cases e:l[n]? with
  | none=>simpa[e] using ih
  | some y=>
   show (dd (l.take n++[y])).Nodup;rw[zas]
   by_cases q:y∈dd (l.take n)
   ·rw[if_pos q]; exact ih
   ·rw[if_neg q,List.nodup_append]
    refine⟨ih,by simp,fun a ha b hb=>?_⟩;rw[List.mem_singleton.mp hb];exact fun z=>q (z ▸ ha)
def zmB {α:Type} [DecidableEq α] (l:List α):(dd l).length<=1 ↔ ∀x∈l,∀y∈l,x=y:=by
 constructor
 ·intro h x hx y hy
  have hx':=(zbd l x).mpr hx;have hy':=(zbd l y).mpr hy
  match hd:dd l,h,hx',hy' with
  | [a],_,hx',hy'=>rw[List.mem_singleton.mp hx',List.mem_singleton.mp hy']
  | a::b::r,h,_,_=>simp at h
 ·intro h
  have nd:=zj9 l
  match hd:dd l with
  | []=>simp
  | [a]=>simp
  | a::b::r=>
   rw[hd] at nd;have:=h a ((zbd l a).mp (by rw[hd]; simp)) b ((zbd l b).mp (by rw[hd]; simp));subst this;simp at nd
end STb
namespace L2
open PySem PySem.Spec PyProof.Rows
section
variable {X:Cx}
def zcR (hc:X.calm=true):zX X (.type "set") (fun xs H Q=>∃(l:Addr) (ns:List Int),xs=[.ref l]/\SqL X.K H l (ns.map V.int)/\ns.length<1000/\
  ∀D S,H D=none->Q (.ref D) (upd H D (.set S (STb.dd ns).length))):=by
 intro aa s σ H xs us Q I r h;obtain⟨l,ns,rfl,hq,hz,q⟩:=h;obtain⟨u,rfl,ru⟩:=vals1 r;cases ru;obtain⟨ah,r1,p1,_⟩:=I.list hq;have hi:=intsAre_of r1;have hn:ah.length=ns.length:=by simpa using (AX r1).symm
 refine call_set_list (ns:=ns) (I.ok.hd hc) p1.isList (by simpa using hi) (by rw[Ag]; unfold scanBound; omega) fun h' tk T kk=>?_;have hsz:ah.toArray.size=ns.length:=by rw[Ag]; exact hn
 have hfm:firstMet (fun i=>ns.getD i 0) ah.toArray.size=STb.dd ns:=by rw[hsz,STb.zeh ns _ (Af _),List.take_length]
 rw[hfm] at T;exact⟨.ref s.heap.objs.size,_,I.laid (o:=.set _ (STb.dd ns).length) (fun b u e=>kk b u (Aj e) e) (Af _) (show Heap.SetOf _ _ _ _ _ from T),rfl,q _ _ (I.hok.fresh (Af _))⟩
def zcI:zX X (.builtin "len") (fun xs H Q=>∃D S n,xs=[.ref D]/\H D=some (.set S n)/\Q (.int n) H):=by
 intro aa s σ H xs us Q I r h;obtain⟨D,S,n,rfl,hq,q⟩:=h;obtain⟨u,rfl,ru⟩:=vals1 r;cases ru;obtain⟨o,es,ep,t,h1,h2,h3,h4,h5,h6,h7,h8⟩:=(show s.heap.SetOf (intKind X.prog X.w) D S n from I.hok D _ hq);unfold scanBound at h6;exact call_len_set h1 h2 h3 h7 (by omega) ⟨.int n,H,I.tok _,⟨_,by rw[h8]⟩,q⟩
end
end L2
end
section
namespace L2
open PySem PySem.Spec PyProof.Rows
section
variable {X:Cx}
def zbZ (ns:List Int):∀k,k<=ns.length->preSum (fun i=>(ns[i]?).getD 0) k=(ns.take k).sum
 | 0,_=>by simp[preSum]
 | k+1,h=>by
  have ih:=zbZ ns k (by omega);have e:ns[k]?=some ns[k]:=Ah (by omega);show preSum (fun i=>(ns[i]?).getD 0) k+(ns[k]?).getD 0=_;rw[ih,List.take_add_one,e,List.sum_append];simp
def ints_get {ns:List Int}{ah:List Value} (r:Vals (ns.map V.int) ah) {i:Nat}{v:Value} (h:ah[i]?=some v):∃n t,ns[i]?=some n/\v=.int n t:=by
 have hl:ah.length=ns.length:=by rw[<- r.length,Ab]
 have hi:i<ns.length:=by rw[<- hl]; exact (List.getElem?_eq_some_iff.mp h).1
 have e:ns[i]?=some ns[i]:=Ah hi;obtain⟨u,hu,rv⟩:=r.get (show (ns.map V.int)[i]?=some (V.int ns[i]) by rw[Am,e]; rfl);rw[h] at hu;obtain rfl:=Al hu;obtain⟨t,rfl⟩:=rv;exact⟨_,t,e,rfl⟩
def zjP (hc:X.calm=true):zX X (.builtin "sum") (fun xs H Q=>∃(l:Addr) (ns:List Int),xs=[.ref l]/\SqL X.K H l (ns.map V.int)/\Q (.int ns.sum) H):=by
 intro aa s σ H xs us Q I r h;obtain⟨l,ns,rfl,hq,q⟩:=h;obtain⟨u,rfl,ru⟩:=vals1 r;cases ru;obtain⟨ah,r1,p1,_⟩:=I.list hq;have hh:=I.ok.hd hc;have hl:=p1.isList;have hlt:l<s.heap.objs.size:=by obtain⟨_,e,_⟩:=hl; exact Aj e
 have hn:ah.length=ns.length:=by rw[<- r1.length,Ab]
 refine call_sum_walkAnyS (wpAny_pyIter_list hl ?_);refine⟨s.heap.objs.size,[s.heap.objs.size,l],[s.heap.objs.size],_,ah.toArray.size,_,_,fun i=>(ns[i]?).getD 0,rfl,(Walks.list (A:=X.A.in1) hh _ l (As hlt) ah.toArray).toS,
  ⟨⟨_,Ak _ rfl,rfl,rfl⟩,hl.push _⟩,fun b hb=>?_,fun i v hP=>?_,fun s' t' hm=>?_⟩
 ·have hb':b<=s.heap.objs.size:=by
   simp only[List.mem_cons,List.not_mem_nil,or_false] at hb;rcases hb with rfl | rfl
   ·exact Af _
   ·exact Nat.le_of_lt hlt
  exact Nat.lt_of_le_of_lt hb' (Aj (Ak _ rfl))
 ·obtain⟨n,t,e,rfl⟩:=ints_get r1 (show ah[i]?=some v by simpa using hP)
  exact⟨t,by simp only[e,Option.getD_some]⟩
 ·have e:preSum (fun i=>(ns[i]?).getD 0) ah.toArray.size=ns.sum:=by
   rw[Ag,hn,zbZ ns _ (Af _),Av (Af _)]
  rw[e,Moved.eq_with hm];exact⟨.int _,H,I.kept (LSm.kept_iter fun b o hb eo=>hm.heap b o hb eo),⟨_,rfl⟩,q⟩
end
end L2
end
section
namespace K1
open PySem L2 STb
def lens (kn:List (List Int)):List Int:=kn.map fun p=>(p.length:Int)
end K1
end
section
namespace DPr
open PySem PyProof.Rows DCp
section
variable {prog:Program}{w:World}{A:Around}{E:Value->Shared->Prop}{s:Shared}{K:Type} [DecidableEq K] {knd:KeyKind prog w K}
end
end DPr
namespace L2
open PySem PySem.Spec PyProof.Rows
def zmM (kvs:List (List Key×V)):List (List Key×V):=kvs.foldl (fun acc kv=>putK acc kv.1 kv.2) []
section
variable {X:Cx}
end
end L2
end
section
namespace L2
open PySem PySem.Spec PyProof.Rows
section
variable {X:Cx}
def Itk (d:Addr) (o:Obj) (kvs:List (List Key×V)):It:=⟨fun i H=>i<kvs.length/\H d=some (.frz o (.dT kvs)),fun i H v H'=>H'=H/\∃kv b,kvs[i]?=some kv/\v=.ref b/\H b=some (.tup (kv.1.map kV)),fun i H=>i=kvs.length/\H d=some (.frz o (.dT kvs))⟩
def kt_at {H:Hp}:∀{l:List (List Key×V)}{m:List (List Key×Addr×Value)}{i:Nat}{kv:List Key×V},KT H l m->l[i]?=some kv->∃w,m[i]?=some w/\H w.2.1=some (.tup (kv.1.map kV))
 | _,_,0,_,.cons h _,e=>by cases e; exact⟨_,rfl,h.2.1⟩
 | _,_,i+1,_,.cons _ t,e=>kt_at (i:=i) t (by simpa using e)
def zf0 {P:Program}{w:World}{K:Ad}{tg:Expr} (d it:Addr) {o:Obj}{kvs:List (List Key×V)}{es:Array DictEntry}{ep:Nat} (hx:o.ExactDict) (aO:o.data=.dict es ep) (hsz:es.size=kvs.length) :
  Turn P w K tg (Itk d o kvs) [it] it (fun i h=>h.IsKeyIter it d i es.size ep) where
 mem:=by simp
 obj:=fun i h st b hb=>by
  have e:b=it:=by simpa using hb
  subst e;obtain⟨o,e,c,dd⟩:=st;exact⟨o,e,fun v z=>by rw[dd] at z; cases z⟩
 keep:=fun i h h' st k=>by
  obtain⟨o,e,c⟩:=st;exact⟨o,k it (by simp) o e,c⟩
 item:=by
  intro X hP hw hK hc i aa s σ H E I hf st hg;subst hP hw hK;obtain⟨f0,f1,f2,f3,f4,f5⟩:=hf it (by simp);obtain⟨hi,hH⟩:=hg;obtain⟨g0,z,hs,ys,rel,o',bg,aX,h1,h2,h3,h4,h5⟩:=(show zx X.prog X.w H s.heap d (.frz o (.dT kvs)) from I.hok d _ hH);obtain rfl:o=o':=Al (g0.symm.trans h1);have lI:=aO.symm.trans h3;injection lI with lI hep
  subst lI;have hm:Dk.IsD s.heap d es ep:=⟨o,g0,hx,aO⟩;have hi':i<es.size:=by rw[hsz]; exact hi
  refine Dk.item st hm hi' fun h' ak sb=>?_;have I1:Inv X aa σ H { s with heap:=h' }:=I.turned (t':=s.toks) (fun b o hb e=>(sb.2 b hb).trans e) f0 f1 f3 f4 f5;obtain⟨oi,e1,e2,e3⟩:=id ak;have ek:kvs[i]?=some kvs[i]:=Ah hi;obtain⟨w',ew,hb⟩:=kt_at rel ek;have g3:es.toList[i]?=some es[i]:=by simp[hi']
  rw[h4,Am,ew] at g3;simp only[Option.map_some,Option.some.injEq] at g3;have gk:es[i].key=.ref w'.2.1:=by rw[<- g3]; rfl
  exact⟨_,rfl,zgn (s:={ s with heap:=h' }) e1 e2 e3 (by decide) ⟨.ref w'.2.1,H,I1,by rw[gk]; rfl,⟨rfl,_,_,ek,rfl,hb⟩,ak,fun b hb=>(hf b hb).1⟩⟩
 done:=by
  intro X hP hw hK hc i aa s σ H E I hf st hg;subst hP hw hK;obtain⟨f0,f1,f2,f3,f4,f5⟩:=hf it (by simp);obtain⟨hi,hH⟩:=hg;have hm:Dk.IsD s.heap d es ep:=⟨o,(show zx X.prog X.w H s.heap d (.frz o (.dT kvs)) from I.hok d _ hH).1,hx,aO⟩;have hi':i=es.size:=by rw[hsz]; exact hi
  subst hi';exact Dk.done (I.ok.hd hc) st hm fun h' eb=>⟨rfl,I.turned (t':=s.toks) (fun b o hb e=>eb b o hb e) f0 f1 f3 f4 f5⟩
 self:=fun A i s Q E st h=>wpAny_pyIter_keyiter st h
def znM (te:TE):TI:=fun σ H R=>te σ H fun x H1=>∃d kvs,x=.ref d/\Rd H1 d (.dT kvs)/\∀o H2,H2 d=some (.frz o (.dT kvs))->(∀b,b≠d->H2 b=H1 b)->R (Itk d o kvs) H2
def zdu {tg l:Expr}{tl:TE} (hl:PE X l tl):PI X tg l (znM tl):=by
 intro aa s σ H R I h;refine thn (hl aa s σ H _ I h) fun v s1 ⟨x,H1,I1,r1,q1⟩=>?_;obtain⟨d,kvs,e,hd,q⟩:=q1;subst e;cases r1;have go:∀(o:Obj) (H2:Hp),Inv X aa σ H2 s1->H2 d=some (.frz o (.dT kvs))->(∀b,b≠d->H2 b=H1 b)->wpAny (model X.prog X.w) X.A (pyIter (.ref d)) (PIE X aa σ tg R) X.xe s1:=by
  intro o H2 I2 ax aL;obtain⟨g0,z,hs,ys,rel,o',es,ep,h1,h2,h3,h4,h5⟩:=(show zx X.prog X.w H2 s1.heap d (.frz o (.dT kvs)) from I2.hok d _ ax);obtain rfl:o=o':=Al (g0.symm.trans h1);have hsz:es.size=kvs.length:=by
   have:=congrArg List.length h4;rw[Ab,<- AX rel] at this
   simpa using this
  have hm:Dk.IsD s1.heap d es ep:=⟨o,h1,h2,h3⟩;refine Dk.iter hs hm ?_;have hfr:H2 s1.heap.objs.size=none:=I2.hok.fresh (Af _);refine⟨s1.heap.objs.size,[s1.heap.objs.size],_,_,_,rfl,I2.kept (t':=s1.toks) fun b o e=>Ae _ e,zf0 d _ h2 h3 hsz,⟨_,Ak _ rfl,rfl,rfl⟩,fun b hb=>?_,q o H2 ax aL⟩;have e:b=s1.heap.objs.size:=by simpa using hb
  subst e;exact I2.fpOk (Af _) hfr
 rcases hd with hd | ⟨o,hd⟩
 ·obtain⟨z,hs,ys,rel,o,es,ep,h1,h2,h3,h4,h5⟩:=(show zx X.prog X.w H1 s1.heap d (.dT kvs) from I1.hok d _ hd)
  have hkt:KT (upd H1 d (.frz o (.dT kvs))) kvs ys:=KT.keeps rel fun b zs e=>by rw[zh (fun zz=>by rw[zz,hd] at e; cases e)]; exact e
  exact go o (upd H1 d (.frz o (.dT kvs))) (zb4 (ob:=.frz o (.dT kvs)) (t':=s1.toks) I1 (by rw[hd]; exact True.intro) (Heap.SameBut.refl _ _) ⟨o,h1⟩ ⟨h1,z,hs,ys,hkt,o,es,ep,h1,h2,h3,h4,h5⟩) upd_same fun b hb=>zh hb
 ·exact go o H1 I1 hd fun _ _=>rfl
def zfO {d:Addr}{o:Obj}{kvs:List (List Key×V)}{g:TG}{tb:TS}{D:Ends}{σ:St}{H:Hp} (Pv:Nat->St->Hp->Prop) (h0:Pv 0 σ H) (hl:∀i σ H,i<=kvs.length->Pv i σ H->H d=some (.frz o (.dT kvs)))
  (hs:∀i kv b σ H,kvs[i]?=some kv->H b=some (.tup (kv.1.map kV))->Pv i σ H->g (.ref b) σ H fun bf H2=>tb { D with nx:=Pv (i+1),ct:=Pv (i+1),bk:=D.nx } bf H2) (hd:∀σ H,Pv kvs.length σ H->D.nx σ H) :
  ∃W:Nat->Nat->St->Hp->Prop,(∃m,W 0 m σ H)/\∀i m σ H,W i m σ H->
   ((Itk d o kvs).stop i H/\D.nx σ H) \/ ((Itk d o kvs).go i H/\∃N:St->Hp->Prop,(∀ao H',N ao H'->∃m',m'<m/\W (i+1) m' ao H')/\∀x H',(Itk d o kvs).yld i H x H'->g x σ H' fun bf H2=>tb { D with nx:=N,ct:=N,bk:=D.nx } bf H2):=by
 refine⟨fun i m σ H=>m=kvs.length - i/\i<=kvs.length/\Pv i σ H,⟨kvs.length,by simp,AQ _,h0⟩,?_⟩;rintro i m σ H ⟨rfl,hi,p⟩;have q:=hl i σ H hi p
 by_cases hlt:i<kvs.length
 ·refine .inr ⟨⟨hlt,q⟩,Pv (i+1),fun ao H' p'=>⟨kvs.length - (i+1),by omega,rfl,hlt,p'⟩,fun x H' y=>?_⟩
  obtain⟨e,kv,b,ek,rfl,hb⟩:=y;subst e;exact hs i kv b σ _ ek hb p
 ·have:i=kvs.length:=by omega
  subst this;exact .inl ⟨⟨rfl,q⟩,hd σ H p⟩
end
end L2
end
section
namespace L2
open PySem PySem.Spec PyProof.Rows
def Rd.same {H H':Hp}{a:Addr}{u:HO} (r:Rd H a u) (s:Same H H'):Rd H' a u:=by
 rcases r with r | ⟨o,r⟩
 ·exact .inl (s _ _ r)
 ·exact .inr ⟨o,s _ _ r⟩
section
variable {X:Cx}{o:Expr}{to:TE}{aI au:Pos}
def zmG (to:TE):TE:=fun σ H Q=>to σ H fun x H1=>zki x [] H1 Q
def zjU (ho:PE X o to) (aZ:attributeBase o "values" X.env (eval o X.env)=eval o X.env:=by rfl) (bE:(aI.endLine == au.line)=true:=by rfl):PE X (.Call (.Attribute o "values" aI) [] [] au) (zmG to):=by
 intro aa s σ H Q I h;refine wpAny_Call_method0_late aZ bE (thn (ho aa s σ H _ I h) fun v s1 ⟨x,H1,I1,r1,q1⟩=>?_);have q2:=q1;obtain⟨d,kvs,rfl,_,hd,_⟩:=q1;cases r1;obtain⟨_,_,_,_,ob,_,_,e,ex,_⟩:=(show zx X.prog X.w H1 s1.heap d (.dT kvs) from hd.ok I1.hok);exact⟨"dict","dict.values",PySem.F.plainAttrs_dict,PySem.F.slot_dict_values,PySem.F.type_dict_values,⟨ob,e,ex.1⟩,(fun a z=>by cases z; exact⟨ob,e,ex.2.1⟩),Calls.callWith_builtin rfl (PySem.evalArgs_none (mt_valsT aa s1 σ H1 (.ref d) [] (.ref d) [] Q I1 rfl .nil q2))⟩
end
end L2
end
section
namespace K19
open K1
open PySem L2 STb
abbrev ziI:Stmt:=top 30
abbrev sOne:Stmt:=top 31
abbrev Ch:Type:=List (List Int×Int)
def ksC (cs:Ch):List (List Int):=cs.map (·.1)
def kvC (cs:Ch):List (List Key×V):=cs.map fun c=>((c.1.map Sum.inl:List Key),V.int c.2)
def putC (cs:Ch) (ps:List Int) (n:Int):Ch:=if ps∈ksC cs then cs.map (fun c=>if c.1=ps then (c.1,n) else c) else cs++[(ps,n)]
def zQ (cs:Ch):(kvC cs).length=cs.length:=Ab _
def zaI (cs:Ch):(ksC cs).length=cs.length:=Ab _
def zac (cs:Ch):(kvC cs).map (·.1)=(ksC cs).map (·.map Sum.inl):=by unfold kvC ksC; rw[Az,Az]; rfl
def put_kvC (cs:Ch) (ps:List Int) (n:Int):putK (kvC cs) (ps.map Sum.inl) (.int n)=kvC (putC cs ps n):=by
 unfold putK kvC putC;have ha:((cs.map fun c=>((c.1.map Sum.inl:List Key),V.int c.2)).any fun kv=>decide (kv.1=ps.map Sum.inl))=decide (ps∈ksC cs):=by
  rw[List.any_map]
  by_cases h:ps∈ksC cs
  ·rw[decide_eq_true h,List.any_eq_true]
   obtain⟨c,hc,e⟩:=List.mem_map.mp h;exact⟨c,hc,decide_eq_true (zar.mpr e)⟩
  ·rw[decide_eq_false h,List.any_eq_false]
   intro c hc;simp only[Function.comp,decide_eq_true_eq,zar];rintro rfl;exact h (List.mem_map.mpr ⟨c,hc,rfl⟩)
 rw[ha]
 by_cases h:ps∈ksC cs
 ·rw[decide_eq_true h,if_pos rfl,if_pos h,Az,Az]
  refine List.map_congr_left fun c hc=>?_;simp only[Function.comp]
  by_cases e:c.1=ps
  ·rw[if_pos e,if_pos (zar.mpr e)]
  ·rw[if_neg e,if_neg (fun z=>e (zar.mp z))]
 ·rw[decide_eq_false h,if_neg (by simp),if_neg h,Ar]
  rfl
def zdA (cs:Ch) (ps:List Int) (n:Int):ksC (putC cs ps n)=if ps∈ksC cs then ksC cs else ksC cs++[ps]:=by
 unfold putC
 by_cases h:ps∈ksC cs
 ·rw[if_pos h,if_pos h]
  unfold ksC;rw[Az];refine List.map_congr_left fun c _=>?_;simp only[Function.comp];split <;> rfl
 ·rw[if_neg h,if_neg h]
  unfold ksC;rw[Ar]
  rfl
def putC_nodup {cs:Ch} (ps:List Int) (n:Int) (h:(ksC cs).Nodup):(ksC (putC cs ps n)).Nodup:=by
 rw[zdA]
 by_cases e:ps∈ksC cs
 ·rw[if_pos e]; exact h
 ·rw[if_neg e,List.nodup_append]
  refine⟨h,by simp,fun a ha b hb z=>?_⟩;rw[List.mem_singleton] at hb;subst hb; subst z; exact e ha
def putC_mem {cs:Ch}{ps q:List Int}{n:Int} (h:q∈ksC (putC cs ps n)):q∈ksC cs \/ q=ps:=by
 rw[zdA] at h
 by_cases e:ps∈ksC cs
 ·rw[if_pos e] at h; exact .inl h
 ·rw[if_neg e] at h
  rcases List.mem_append.mp h with h | h
  ·exact .inl h
  ·exact .inr (List.mem_singleton.mp h)
def zff (cs:Ch) (ps:List Int) (n:Int):(putC cs ps n).length<=cs.length+1:=by
 unfold putC;split
 ·rw[Ab]; omega
 ·rw[Aq]; simp
def zba:∀{cs:Ch},(ksC cs).Nodup->∀c∈cs,valV (kvC cs) (c.1.map Sum.inl)=some (.int c.2)
 | [],_,c,hc=>absurd hc (by simp)
 | d::cs,h,c,hc=>by
  have h':(d.1::ksC cs).Nodup:=h;rw[List.nodup_cons] at h';unfold valV kvC;rw[AH,List.find?_cons];rcases List.mem_cons.mp hc with rfl | hc
  ·rw[decide_eq_true rfl]; rfl
  ·have hne:¬ d.1.map Sum.inl=(c.1.map Sum.inl:List Key):=fun z=>h'.1 (by rw[zar.mp z]; exact List.mem_map.mpr ⟨c,hc,rfl⟩)
   rw[decide_eq_false hne];exact zba h'.2 c hc
def zbK {H:Hp}{cs:Ch}{bs:List Addr} (h:Paired (fun (p:List Key×V) b=>H b=some (.tup (p.1.map kV))) (kvC cs) bs):Tps H bs (ksC cs):=by
 unfold kvC at h;unfold ksC
 induction cs generalizing bs with
 | nil=>cases h; exact .nil
 | cons x l ih=>
  rw[AH] at h;cases h with
  | cons r t=>
   refine .cons ?_ (ih t);show H _=_;rw[r,Az]
   rfl
def oneH (kn:List (List Int)):Bool:=decide (((dd (lens kn)).length:Int)<=1)
abbrev noZ (c:List Int×Int):Bool:=!decide (V.int c.2=V.int 0)
def chM (kn:List (List Int)) (cs:Ch):Bool:=decide (∀k∈ksC cs,k∈kn) && (oneH (ksC cs) && (cs.map noZ).all id)
abbrev znN (K:Ad):List V->Hp->VK->Prop:=fun xs H Q=>∃p ys,xs=[.ref p]/\(SqL K H p ys \/ SqT K H p ys)/\Q (.int ys.length) H
abbrev zm5 (K:Ad):TE:=tCB (znN K) (zy (tVar 0) tNil)
section
variable {P:Program}{w:World}{K:Ad}{mg:Str->Option Value}{base:Heap}
def zgM {H2:Hp}{L D:Addr}{as:List Addr}{kn:List (List Int)}{Q:VK} (hl:SqL K H2 L (as.map V.ref)) (ht:Tps H2 as kn) (hz:kn.length<=1000) (hD:H2 D=none)
  (k:∀H3,Same H2 H3->H3 D=some (.lst ((lens kn).map V.int))->Q (.ref D) H3) :
  zaf (Itl K L) (zZ 0) tYes (zm5 K) [none] H2 D Q:=by
 have aG:=ht.length;refine z0 (xs:=as.map V.ref) (fun j σ ys H3=>∃v:Option V,σ=[v]/\Same H2 H3/\H3 D=some (.lst ys)/\ys=(lens (kn.take j)).map V.int) ?_ ?_ ?_ ?_
 ·exact⟨none,rfl,Same.new hD,upd_same,rfl⟩
 ·rintro j σ ys H3 ⟨v,rfl,sm,aj,rfl⟩
  exact sm.seq hl
 ·rintro j σ ys H3 x hx hj hy ⟨v,rfl,sm,aj,rfl⟩
  obtain⟨o,eo,rfl⟩:=zah hx;obtain⟨p,ep,hp⟩:=ht.get eo;have hn:(as.map V.ref).length<=sizeLine:=by rw[Ab]; exact zb (by omega)
  refine gyes ?_;refine⟨_,rfl,o,_,rfl,.inr (SqT.of (sm.tp hp)),cput hn hj hy aj ⟨_,rfl,sm.then hD,upd_same,?_⟩⟩;unfold lens;rw[AY ep,Ar,Ar,Ab]
  rfl
 ·rintro σ ys H3 ⟨v,rfl,sm,aj,rfl⟩
  rw[Ab,aG,Av (Af _)] at aj;exact k H3 sm aj
def zjJ (kn:List (List Int)):(lens kn).length=kn.length:=Ab _
def zkX (K:Ad):Sp:=fun vs H Q _=>∃l as kn,vs=[.ref l]/\SqL K H l (as.map V.ref)/\Tps H as kn/\kn.length<1000/\∀H',Same H H'->Q (.bl (oneH kn)) H'
def znQ:zi ["some"] ["some"] (zf sOne):=⟨rfl,rfl,rfl,by decide +kernel,rfl,by decide +kernel,by decide +kernel⟩
def zmH {f:Addr}{fd:FuncData} (F:Fun K "is_of_one_height" "is_of_one_height" sOne f fd) (B:Bt mg):FnOk P w K mg base CX0 1 f fd ["some"] (zkX K):=by
 refine F.ok znQ (fun vs H Q E h=>?_) (fun cdv A outer s H vs Q E hr h=>?_)
 ·obtain⟨l,as,kn,rfl,_⟩:=h; rfl
 ·obtain⟨l,as,kn,rfl,hl,ht,hz,k⟩:=h
  refine⟨_,zd (zl (zaL zgp (zq zcI rfl B.len zau (pa_cons (zj (zcR rfl) rfl B.set zjv (pa_cons
   (zB ["some"] ["piece"] [none] (zL (pv 0)) (fun cl C s₀ H₀ ex=>zm (i:=0) (ndN ["piece"]) rfl (Or.inl rfl)) (fun cl C s₀ H₀ ex=>zM) (fun cl C s₀ H₀ ex=>zq zt rfl B.len zau (pa_cons (pv 0) pa_nil)) (hfr:=nofr (by decide +kernel)) (te:=zm5 K)) pa_nil)) pa_nil)) ze (nomark _))),?_⟩
  refine⟨_,rfl,l,rfl,⟨_,hl⟩,fun D hD=>zI (zgM hl ht (by omega) hD fun H3 aE aj=>⟨D,lens kn,rfl,SqL.of aj,by rw[zjJ]; exact hz,fun S SS hS=>⟨S,SS,_,rfl,upd_same,_,_,rfl,rfl,k _ (aE.trans (Same.new hS))⟩⟩)⟩
end
end K19
end
section
namespace K19
open K1
open PySem L2 STb
abbrev zhn:Stmt:=top 28
abbrev zhj:Stmt:=top 18
def cutk (xs:List V) (i:Nat) (h:i<=xs.length):cutV xs none (some (i:Int))=xs.take i:=by
 unfold cutV;rw[HT.zbX,HT.zb1,Nat.min_eq_left h,List.drop_zero,Nat.sub_zero]
def cutd (xs:List V) (i:Nat) (h:i<=xs.length):cutV xs (some (i:Int)) none=xs.drop i:=by
 unfold cutV;rw[HT.zbX,HT.zb1,Nat.min_eq_left h];exact Av (by rw[List.length_drop]; exact Af _)
abbrev tRim:TE:=tOp zlr (tSl rSlA (tVar 1) zeu (zkW (tVar 0))) (tSl rSlA (tVar 1) (zkW (tOp (rI0 fun i j=>.int (i+j)) (tVar 0) (tC (.int 1)))) zeu)
section
variable {P:Program}{w:World}{K:Ad}{mg:Str->Option Value}{base:Heap}
def zi1 {H2:Hp}{a D:Addr}{ps:List Int}{Q:VK} (ha:Tp H2 a ps) (hz:ps.length<=5) (hD:H2 D=none)
  (k:∀(H3:Hp) (bs:List Addr),Same H2 H3->H3 D=some (.lst (bs.map V.ref))->Tps H3 bs ((A6 ps.length).map fun k=>ps.take k++ps.drop (k+1))->Q (.ref D) H3) :
  zaf (Itr 0 ps.length) (zZ 0) tYes tRim [none,some (.ref a)] H2 D Q:=by
 refine zgy (fun j σ ys H3=>∃(v:Option V) (bs:List Addr),σ=[v,some (.ref a)]/\Same H2 H3/\H3 D=some (.lst ys)/\ys=bs.map V.ref/\Tps H3 bs (((A6 ps.length).map fun k=>ps.take k++ps.drop (k+1)).take j)) ?_ ?_ ?_
 ·exact⟨none,[],rfl,Same.new hD,upd_same,rfl,.nil⟩
 ·rintro j σ ys H3 hj hy ⟨v,bs,rfl,sm,aj,rfl,hb⟩
  have e:((A6 ps.length).map fun k=>ps.take k++ps.drop (k+1))[j]?=some (ps.take j++ps.drop (j+1)):=by rw[Am,List.getElem?_range hj]; rfl
  refine gyes ?_;refine⟨_,rfl,_,rfl,_,rfl,a,_,rfl,sm.tp ha,fun p1 H4 aT jh=>⟨_,rfl,_,rfl,_,_,rfl,rfl,_,rfl,a,_,rfl,aT _ _ (sm.tp ha),fun p2 H5 bB dJ=>?_⟩⟩;rw[show (0:Int)+((j:Nat):Int)=((j:Nat):Int) by omega,cutk _ _ (by rw[Ab]; omega),<- List.map_take] at jh;rw[show (0:Int)+((j:Nat):Int)+1=((j+1:Nat):Int) by omega,cutd _ _ (by rw[Ab]; omega),<- List.map_drop] at dJ;refine⟨p1,p2,_,_,rfl,rfl,bB _ _ jh,dJ,zb (by simp; omega),fun p3 H6 mz hV=>?_⟩;rw[<- Ar] at hV;have s6:=(aT.trans bB).trans mz;refine cput (zb (by omega)) hj hy (s6 _ _ aj) ⟨_,bs++[p3],rfl,(sm.trans s6).then hD,upd_same,by rw[Ar]; rfl,?_⟩;rw[AY e];exact Tps.upd (Tps.snoc (s6.tps hb) hV) (s6 _ _ aj) (by intro xs z; cases z)
 ·rintro σ ys H3 ⟨v,bs,rfl,sm,aj,rfl,hb⟩
  rw[Av (by simp)] at hb;exact k H3 bs sm aj hb
def zko:Sp:=fun vs H Q _=>∃a ps,vs=[.ref a]/\Tp H a ps/\ps.length<=5/\∀D H2 (bs:List Addr),Same H H2->H D=none->H2 D=some (.lst (bs.map V.ref))->Tps H2 bs (rims ps)->Q (.ref D) H2
def zmD:zi ["piece"] ["piece"] (zf zhj):=⟨rfl,rfl,rfl,by decide +kernel,rfl,by decide +kernel,by decide +kernel⟩
def zlu {f:Addr}{fd:FuncData} (F:Fun K "rims_of" "rims_of" zhj f fd) (B:Bt mg):FnOk P w K mg base CX0 1 f fd ["piece"] zko:=by
 refine F.ok zmD (fun vs H Q E h=>?_) (fun cdv A outer s H vs Q E hr h=>?_)
 ·obtain⟨a,ps,rfl,_⟩:=h; rfl
 ·obtain⟨a,ps,rfl,ha,h5,k⟩:=h
  refine⟨_,za (zD (zp zaK (zq zt rfl B.len zau (pa_cons (pv 0) pa_nil)) ze (nomark _)) (zd (zl (zC pa_nil))) zn)
   (zd (zl (zB ["piece"] ["k","piece"] [none,some 0] (zaH rfl B.range (pa_cons (zq zt rfl B.len zau (pa_cons (pv 0) pa_nil)) pa_nil)) (fun cl C s₀ H₀ ex=>zm (i:=0) (ndN ["k","piece"]) rfl (Or.inl rfl)) (fun cl C s₀ H₀ ex=>zM)
    (fun cl C s₀ H₀ ex=>zw zev (zbP zhG (pv 1) zcU (zcZ (pv 0))) (zbP zhG (pv 1) (zcZ (zw zaq (pv 0) ze)) zcU)) (hfr:=frOf (zf zhj) (by decide +kernel)) (te:=tRim)))),?_⟩
  refine⟨_,rfl,a,_,rfl,.inr (SqT.of ha),rfl,_,rfl,?_⟩;rw[Ab]
  by_cases h1:ps.length=1
  ·rw[show decide (V.int (ps.length:Int)=V.int 1)=true from decide_eq_true (by rw[h1]; rfl)]
   refine iteT ⟨zb (by simp),fun D hD=>k D _ [] (Same.new hD) hD upd_same ?_⟩;unfold rims;rw[if_pos h1];exact .nil
  ·rw[show decide (V.int (ps.length:Int)=V.int 1)=false from decide_eq_false fun z=>h1 (by injection z with z; omega)]
   refine iteF ⟨_,rfl,a,_,rfl,.inr (SqT.of ha),_,rfl,by rw[Ab]; omega,by rw[Ab]; omega,fun D hD=>?_⟩;rw[Ab];refine zI (zi1 ha h5 hD fun H3 bs sm aj hb=>k D H3 bs sm hD aj ?_);unfold rims;rw[if_neg h1];exact hb
def zgY:zi ["web","piece","every"] ["web","piece"] (zf zhn):=⟨rfl,rfl,rfl,by decide +kernel,rfl,by decide +kernel,by decide +kernel⟩
end
end K19
end
section
namespace K19
open K1
open PySem L2 STb
abbrev zbn:Stmt:=top 32
def zr.frz {d:Addr}{H H1 H2 H3:Hp} (a:Same H H1) (b:∀c,c≠d->H2 c=H1 c) (e:Same H2 H3):zr d H H3:=fun c u hc h=>e _ _ (by rw[b c hc]; exact a _ _ h)
section
variable {P:Program}{w:World}{K:Ad}{mg:Str->Option Value}{base:Heap}
def zje {H2:Hp}{d D:Addr}{o:Obj}{cs:Ch}{Q:VK} (hd:H2 d=some (.frz o (.dT (kvC cs)))) (hz:cs.length<=1000) (hD:H2 D=none)
  (k:∀H3,Same H2 H3->H3 D=some (.lst ((cs.map noZ).map V.bl))->Q (.ref D) H3) :
  zaf (Itv d o (kvC cs)) (zZ 0) tYes (tOp rNe (tVar 0) (tC (.int 0))) [none] H2 D Q:=by
 refine zav cs.length (fun j σ ys H3=>∃v:Option V,σ=[v]/\Same H2 H3/\H3 D=some (.lst ys)/\ys=((cs.map noZ).take j).map V.bl) ?_ ?_ ?_ ?_ ?_
 ·exact⟨none,rfl,Same.new hD,upd_same,rfl⟩
 ·rintro σ ys H3 ⟨v,rfl,sm,aj,rfl⟩
  exact⟨(zQ cs).symm,sm _ _ hd⟩
 ·rintro i σ ys H3 hi ⟨v,rfl,sm,aj,rfl⟩
  exact⟨by rw[zQ]; exact hi,sm _ _ hd⟩
 ·rintro i σ ys H3 x H' hi hy ⟨v,rfl,sm,aj,rfl⟩ ⟨rfl,kv,dh,rfl⟩
  have ec:cs[i]?=some cs[i]:=Ah hi;have e:(cs.map noZ)[i]?=some (noZ cs[i]):=by rw[Am,ec]; rfl
  obtain rfl:(((cs[i]).1.map Sum.inl:List Key),V.int (cs[i]).2)=kv:=by
   unfold kvC at dh;rw[Am,ec] at dh;exact Al dh
  refine gyes ?_;exact⟨_,rfl,rfl,cput (zb (by omega)) hi hy aj ⟨_,rfl,sm.then hD,upd_same,by rw[AY e,Ar]; rfl⟩⟩
 ·rintro σ ys H3 ⟨v,rfl,sm,aj,rfl⟩
  rw[Av (by rw[Ab]; exact Af _)] at aj;exact k H3 sm aj
def zfz (K:Ad):Sp:=fun vs H Q _=>∃l d as ae cs,vs=[.ref l,.ref d]/\SqL K H l (as.map V.ref)/\Tps H as ae/\webS ae/\(canon ae).length<=59/\Rd H d (.dT (kvC cs))/\cs.length<=4*(canon ae).length+3/\cs.length<=59/\
 ∀H',zr d H H'->Rd H' d (.dT (kvC cs))->Q (.bl (chM (canon ae) cs)) H'
def zfb:zi ["web","chain","every"] ["web","chain"] (zf ziI):=⟨rfl,rfl,rfl,by decide +kernel,rfl,by decide +kernel,by decide +kernel⟩
def zf8 {f fp fo:Addr}{fd ci bL:FuncData} (F:Fun K "is_chain" "is_chain" ziI f fd) (B:Bt mg)
  (Fp:Fun K "pieces" "pieces" zb6 fp ci) (bp:Binds K ci ["web"] []) (mp:mg "pieces"=some (.ref fp)) (Gp:FnOk P w K mg base CX0 8 fp ci ["web"] (zbM K))
  (Fo:Fun K "is_of_one_height" "is_of_one_height" sOne fo bL) (bo:Binds K bL ["some"] []) (mo:mg "is_of_one_height"=some (.ref fo)) (Go:FnOk P w K mg base CX0 1 fo bL ["some"] (zkX K)) :
  FnOk P w K mg base CX0 9 f fd ["web","chain"] (zfz K):=by
 refine F.ok zfb (fun vs H Q E h=>?_) (fun cdv A outer s H vs Q E hr h=>?_)
 ·obtain⟨l,d,as,ae,cs,rfl,_⟩:=h; rfl
 ·obtain⟨l,d,as,ae,cs,rfl,hl,ht,hw,h59,hd,oq,cH,k⟩:=h
  have hu:=zbE hr;have aS:=hr.units;have hr1:Room 1 _:=hr.mono (by decide);refine⟨_,za (zo (i:=2) zfb.nd rfl (Or.inl rfl) (zk Gp hr rfl mp Fp.kp bp .nil pass0 (pa_cons (pv 0) pa_nil)))
   (za (zD (zp zgW (zq zdr rfl B.len zau (pa_cons (zw (zl8 aS) (zj (zei aS) rfl B.set zjv (pa_cons (pv 1) pa_nil)) (zj (zdm rfl aS) rfl B.set zjv (pa_cons (pv 2) pa_nil))) pa_nil)) ze (nomark _)) (zd (zl za8)) zn)
   (za (zD (zaB (zaY (zk Go hr1 rfl mo Fo.kp bo .nil pass0 (pa_cons (zj (zad rfl) rfl B.list zan (pa_cons (pv 1) pa_nil)) pa_nil)))) (zd (zl za8)) zn)
   (zd (zl (zq (zbT rfl) rfl B.all zi5 (pa_cons
    (zB ["web","chain","every"] ["weight"] [none] (zlZ (zjU (pv 1))) (fun cl C s₀ H₀ ex=>zm (i:=0) (ndN ["weight"]) rfl (Or.inl rfl)) (fun cl C s₀ H₀ ex=>zM)
     (fun cl C s₀ H₀ ex=>zaL zdO (pv 0) ze (nomark _)) (hfr:=nofr (by decide +kernel)) (te:=tOp rNe (tVar 0) (tC (.int 0)))) pa_nil)))))),?_⟩
  refine⟨_,rfl,l,as,ae,rfl,hl,ht,hw,fun EV H1 es bA yN wT kz=>?_⟩;have hcn:(canon ae).Nodup:=za5 ae;have fM:(canon ae).length<=(dd (canon ae)).length:=hcn.length_le_of_subset fun x hx=>(zbd _ x).mpr hx;have yh:(dd (ksC cs)).length<=cs.length:=by have:=zaA (ksC cs); rw[zaI] at this; exact this
  refine⟨_,rfl,d,kvC cs,ksC cs,rfl,hd.same bA,zac cs,by rw[zaI]; exact cH,fun B1 wN S1 fq=>⟨_,rfl,EV,es,canon ae,rfl,SqL.of (Same.new fq _ _ wT),(Same.new fq).tps kz,h59,fun S2 im=>?_⟩⟩;refine⟨S1,S2,_,_,B1,_,rfl,rfl,Same.new im _ _ upd_same,upd_same,(wN.mono (Same.new fq)).mono (Same.new im),(TB.zip ((Same.new fq).tps kz)).mono (Same.new im),by omega,by omega,fun kr o8 S3 o9=>⟨S3,kr,B1,rfl,upd_same,_,_,rfl,rfl,_,rfl,?_⟩⟩;have sm:=((bA.trans (Same.new (o:=SetT P w S1 (dd (ksC cs)) B1) fq)).trans (Same.new (o:=SetT P w S2 (dd (canon ae)) ((canon ae).zip es)) im)).trans (Same.new (o:=SetT P w S3 kr B1) o9);refine ite2 (fun h1=>?_) (fun h1=>?_)
  ·have h2:=of_decide_eq_true h1
   have hno:¬ ∀k∈ksC cs,k∈canon ae:=fun z=>by
    cases kr with
    | nil=>simp at h2
    | cons x r=>
     obtain⟨g1,g2⟩:=(o8 x).mp Au;exact g2 ((zbd _ x).mpr (z x ((zbd _ x).mp g1)))
   have:=k _ (zr.of sm) (hd.same sm);rw[show chM (canon ae) cs=false from by unfold chM; rw[decide_eq_false hno]; rfl] at this;exact this
  ·have hall:∀k∈ksC cs,k∈canon ae:=fun x hx=>by
    refine Classical.byContradiction fun hn=>?_;have:x∈kr:=(o8 x).mpr ⟨(zbd _ x).mpr hx,fun z=>hn ((zbd _ x).mp z)⟩;refine h1 (decide_eq_true ?_);have:=List.length_pos_of_mem this;omega
   refine⟨_,rfl,d,kvC cs,rfl,hd.same sm,fun bs pb L hL=>⟨L,bs,ksC cs,rfl,SqL.of upd_same,(Same.new hL).tps (zbK pb),by rw[zaI]; omega,fun H5 bB=>⟨_,rfl,?_⟩⟩⟩;have s5:=(sm.trans (Same.new (o:=.lst (bs.map V.ref)) hL)).trans bB;cases ho:oneH (ksC cs) with
   | false=>
    have:=k H5 (zr.of s5) (hd.same s5);rw[show chM (canon ae) cs=false from by unfold chM; rw[decide_eq_true hall,ho]; rfl] at this;exact iteT this
   | true=>
    refine iteF ?_;refine⟨_,rfl,d,kvC cs,rfl,rfl,hd.same s5,fun vw ij=>⟨vw,d,kvC cs,rfl,upd_same,hd.same (s5.trans (Same.new ij)),fun o H6 ib aL=>fun D hD=>zI (zje ib (by omega) hD fun H7 ku xn=>⟨D,cs.map noZ,rfl,SqL.of xn,?_⟩)⟩⟩;have:=k H7 (zr.frz (s5.trans (Same.new ij)) aL ku) (.inr ⟨o,ku _ _ ib⟩);unfold chM at this;rw[decide_eq_true hall,ho,Bool.true_and,Bool.true_and] at this;exact this
def zbb (K:Ad):Sp:=fun vs H Q _=>∃l d as ae cs,vs=[.ref l,.ref d]/\SqL K H l (as.map V.ref)/\Tps H as ae/\webS ae/\(canon ae).length<=59/\Rd H d (.dT (kvC cs))/\cs.length<=4*(canon ae).length+3/\cs.length<=59/\chM (canon ae) cs=true/\
 ∀H',zr d H H'->Rd H' d (.dT (kvC cs))->Q .non H'
def zg5:zi ["web","chain"] ["web","chain"] (zf zbn):=⟨rfl,rfl,rfl,by decide +kernel,rfl,by decide +kernel,by decide +kernel⟩
def zjs {f fi:Addr}{fd gF:FuncData} (F:Fun K "must_be_chain" "must_be_chain" zbn f fd)
  (Fi:Fun K "is_chain" "is_chain" ziI fi gF) (bi:Binds K gF ["web","chain"] []) (mi:mg "is_chain"=some (.ref fi)) (Gi:FnOk P w K mg base CX0 9 fi gF ["web","chain"] (zfz K)):FnOk P w K mg base CX0 10 f fd ["web","chain"] (zbb K):=by
 refine F.ok zg5 (fun vs H Q E h=>?_) (fun cdv A outer s H vs Q E hr h=>?_)
 ·obtain⟨l,d,as,ae,cs,rfl,_⟩:=h; rfl
 ·obtain⟨l,d,as,ae,cs,rfl,hl,ht,hw,h59,hd,h1,h2,hc,k⟩:=h
  refine⟨_,zd (zD (zaB (zaY (zk Gi hr rfl mi Fi.kp bi .nil pass0 (pa_cons (pv 0) (pa_cons (pv 1) pa_nil))))) zA zn),?_⟩;refine⟨_,rfl,_,rfl,l,d,as,ae,cs,rfl,hl,ht,hw,h59,hd,h1,h2,fun H1 aM bQ=>⟨_,rfl,?_⟩⟩;rw[hc];exact iteF (k H1 aM bQ)
end
end K19
end
section
namespace K19
open K1
open PySem L2 STb
abbrev zen:Stmt:=top 66
def Wt (cm:Int) (c:List Int×Int):Prop:=(c.1.length:Int)=cm+1/\c.2≠0/\-1000000000000000<=c.2/\c.2<=1000000000000000
def putC_at {cs:Ch}{ps:List Int}{n:Int}{c:List Int×Int} (h:c∈putC cs ps n):c∈cs \/ c=(ps,n):=by
 unfold putC at h;split at h
 ·obtain⟨d,hd,e⟩:=List.mem_map.mp h
  by_cases z:d.1=ps
  ·rw[if_pos z] at e
   exact .inr (by rw[<- e,z])
  ·rw[if_neg z] at e
   exact .inl (by rw[<- e]; exact hd)
 ·rcases List.mem_append.mp h with h | h
  ·exact .inl h
  ·exact .inr (List.mem_singleton.mp h)
def zk5 {r:Int} (h0:0<=r) (h1:r<3):∃wd:Int,atI ([.int 3,.int 20,.int (10 ^ (15:Int).toNat)]:List V) r=some (.int wd)/\0<wd/\wd<=1000000000000000:=by
 have:r=0 \/ r=1 \/ r=2:=by omega
 rcases this with rfl | rfl | rfl
 ·exact⟨3,zS (j:=0) rfl,by decide,by decide⟩
 ·exact⟨20,zS (j:=1) rfl,by decide,by decide⟩
 ·exact⟨_,zS (j:=2) rfl,by decide,by decide⟩
section
variable {P:Program}{w:World}{K:Ad}{mg:Str->Option Value}{base:Heap}
def zfh (K:Ad):Sp:=fun vs H Q _=>∃p KN ks kn cm,vs=[.ref p,.ref KN,.int cm]/\zN H p/\H KN=some (.lst (ks.map V.ref))/\Tps H ks kn/\kn.length<=1000/\
 ∀D cs H',zr p H H'->zN H' p->H D=none->H' D=some (.dT (kvC cs))->(ksC cs).Nodup->(∀q∈ksC cs,q∈kn)->cs.length<=kn.length->(∀c∈cs,Wt cm c)->Q (.ref D) H'
def zbi:zi ["box","known","high","found","piece","wide","weight"] ["box","known","high"] (zf zen):=⟨rfl,rfl,rfl,by decide +kernel,rfl,by decide +kernel,by decide +kernel⟩
def zhM {f ft:Addr}{fd bV:FuncData} (F:Fun K "_law_chain" "_law_chain" zen f fd) (B:Bt mg) (Ft:Fun K "_law_take" "_law_take" zgF ft bV) (bt:Binds K bV ["box","most"] []) (mt:mg "_law_take"=some (.ref ft)) :
  FnOk P w K mg base CX0 2 f fd ["box","known","high"] (zfh K):=by
 have Gt:FnOk P w K mg base CX0 1 ft bV ["box","most"] zdV:=zdv Ft;refine F.ok zbi (fun vs H Q E h=>?_) (fun cdv A outer s H vs Q E hr h=>?_)
 ·obtain⟨p,KN,ks,kn,cm,rfl,_⟩:=h; rfl
 ·obtain⟨p,KN,ks,kn,cm,rfl,hb,kh,bP,hz,k⟩:=h
  have hu:=zbE hr;have aS:=hr.units;have hr1:Room 1 _:=hr.mono (by decide);refine⟨_,za (zo (i:=3) zbi.nd rfl (Or.inl rfl) zaR)
   (za (zaa AZ rfl (zL (pv 1)) (zm (i:=4) zbi.nd rfl (Or.inl rfl))
    (zd (zD (PW.pt (znd (zp zaK (zq zt rfl B.len zau (pa_cons (pv 4) pa_nil)) (zw zaq (pv 2) ze) (nomark _)) (zlf (zp zgW (zk Gt hr1 rfl mt Ft.kp bt .nil pass0 (pa_cons (pv 0) (pa_cons ze pa_nil))) ze (nomark _)))))
     (za (zo (i:=5) zbi.nd rfl (Or.inl rfl) (zaz zV (zC (pa_cons ze (pa_cons ze (pa_cons (zw zef ze ze) pa_nil)))) (zk Gt hr1 rfl mt Ft.kp bt .nil pass0 (pa_cons (pv 0) (pa_cons ze pa_nil))) (fun _ _=>rfl)))
     (za (zo (i:=6) zbi.nd rfl (Or.inl rfl) (zw zkq (zk Gt hr1 rfl mt Ft.kp bt .nil pass0 (pa_cons (pv 0) (pa_cons (zw zaq (zw zbk ze (pv 5)) ze) pa_nil))) (pv 5)))
     (zd (zD (zp zdO (pv 6) ze (nomark _)) (zd (za3 hu (pv 3) (pv 4) (pv 6) rfl)) zn)))) zn)))
   (zd (zl (pv 3)))),?_⟩
  intro D hD;have aG:=bP.length;have sN:=Same.new (o:=.dT []) hD;have ky:KN≠D:=zg kh hD;have hDp:D≠p:=by
   obtain⟨x,y,e,_⟩:=hb;exact (zg e hD).symm
  have hKp:KN≠p:=hb.ne kh;refine⟨_,rfl,KN,rfl,⟨_,SqL.of (sN _ _ kh)⟩,zae (K:=K) (a:=KN) (xs:=ks.map V.ref) (fun i σ H2=>∃(cs:Ch) (v4 v5 v6:Option V),σ=[some (.ref p),some (.ref KN),some (.int cm),some (.ref D),v4,v5,v6]/\zr p H H2/\zN H2 p/\H2 KN=some (.lst (ks.map V.ref))/\Tps H2 ks kn/\H2 D=some (.dT (kvC cs))/\(ksC cs).Nodup/\(∀q∈ksC cs,q∈kn)/\cs.length<=i/\∀c∈cs,Wt cm c)
   ⟨[],none,none,none,rfl,zr.of sN,hb.same sN,sN _ _ kh,sN.tps bP,upd_same,List.nodup_nil,(fun q hq=>nomatch hq),Af _,(fun c hc=>nomatch hc)⟩ (fun i σ H2 _ ⟨_,_,_,_,_,_,_,h,_⟩=>SqL.of h) ?_ ?_⟩
  ·rintro i x σ H2 hx ⟨cs,v4,v5,v6,rfl,bU,cO,il,fz,bD,eZ,hin,hlen,iE⟩
   obtain⟨a,ea,rfl⟩:=zah hx;obtain⟨ps,cj,cF⟩:=fz.get ea;have hi:i<kn.length:=(List.getElem?_eq_some_iff.mp cj).1;have hmem:ps∈kn:=At cj;refine⟨_,rfl,a,_,rfl,.inr (SqT.of cF),_,rfl,_,_,rfl,rfl,rfl,_,rfl,?_⟩;refine ite2 (fun fV=>?_) (fun _=>?_)
   ·refine⟨_,rfl,p,3,rfl,cO,by decide,by decide,fun r H3 r0 r1 cA cD=>⟨_,_,rfl,rfl,_,rfl,?_⟩⟩
    have qD:=cA _ _ hKp il;have iU:=cA.tps cO fz;have aj:=cA _ _ hDp bD;have nG:=cA.tp cO cF;refine ite2 (fun _=>?_) (fun _=>?_)
    ·refine⟨_,_,rfl,rfl,⟨by decide,by decide,by decide⟩,zb (by simp),fun L hL=>?_⟩
     have s4:=Same.new (o:=.lst [.int 3,.int 20,.int (10 ^ (15:Int).toNat)]) hL;have iu:L≠p:=by
      obtain⟨x,y,e,_⟩:=cD;exact (zg e hL).symm
     refine⟨_,rfl,p,3,rfl,cD.same s4,by decide,by decide,fun q H5 q0 q1 c7 da=>?_⟩;obtain⟨wd,ew,w0,w1⟩:=zk5 q0 q1;refine⟨L,_,q,_,rfl,rfl,SqL.of (c7 _ _ iu upd_same),ew,?_⟩;have sK:=c7 _ _ hKp (s4 _ _ qD);have n5:=c7.tps (cD.same s4) (s4.tps iU);have di:=c7 _ _ hDp (s4 _ _ aj);have c6:=c7.tp (cD.same s4) (s4.tp nG);have lH:zr p H H5:=((bU.trans cA).trans (zr.of s4)).trans c7;refine⟨_,rfl,_,rfl,_,_,rfl,rfl,.inl ⟨by decide,by decide⟩,_,_,rfl,rfl,p,_,rfl,da,by omega,by omega,fun t H6 t0 t1 cL ff=>⟨_,rfl,_,_,rfl,rfl,?_⟩⟩;have pM:=cL _ _ hKp sK;have i6:=cL.tps da n5;have iD:=cL _ _ hDp di;have nv:=cL.tp da c6;have i3:=lH.trans cL;refine⟨_,rfl,rfl,_,rfl,?_⟩;refine ite2 (fun hw0=>?_) (fun _=>?_)
     ·refine⟨_,rfl,_,rfl,_,rfl,D,_,rfl,DPut.t (k:=ps.map Sum.inl) iD (by rw[Az]; exact nv) (by rw[zQ]; exact zR (by omega)),⟨putC cs ps (t - wd),_,_,_,rfl,i3.then hD,ff.upd hDp,by rw[zh ky]; exact pM,Tps.upd i6 iD (by intro xs z; cases z),by rw[upd_same,put_kvC],putC_nodup _ _ eZ,fun q hq=>?_,by have:=zff cs ps (t - wd); omega,fun c hc=>?_⟩⟩
      rcases putC_mem hq with h | rfl
      ·exact hin q h
      ·exact hmem
      ·rcases putC_at hc with h | rfl
       ·exact iE c h
       ·have e1:=of_decide_eq_true fV
        injection e1 with e1
        rw[Ab] at e1;refine⟨e1,?_,by show -1000000000000000<=t - wd; omega,by show t - wd<=1000000000000000; omega⟩;intro z;have z':t - wd=0:=z;have pq:(!decide (V.int (t - wd)=V.int 0))=true:=hw0;rw[z'] at pq;exact absurd pq (by decide)
     ·exact⟨cs,_,_,_,rfl,i3,ff,pM,i6,iD,eZ,hin,by omega,iE⟩
    ·exact⟨cs,_,_,_,rfl,bU.trans cA,cD,qD,iU,aj,eZ,hin,by omega,iE⟩
   ·refine iteF ?_
    exact⟨cs,_,_,_,rfl,bU,cO,il,fz,bD,eZ,hin,by omega,iE⟩
  ·rintro σ H2 ⟨cs,v4,v5,v6,rfl,bU,cO,il,fz,bD,eZ,hin,hlen,iE⟩
   rw[Ab,aG] at hlen;exact⟨_,rfl,k D cs H2 bU cO hD bD eZ hin hlen iE⟩
end
end K19
end
section
namespace K19
open K1
open PySem L2 STb
abbrev zd6:Stmt:=top 40
abbrev sSum:Stmt:=top 41
def PrT (H:Hp) (t:Addr) (c:List Int×Int):Prop:=∃b,H t=some (.tup [.ref b,.int c.2])/\Tp H b c.1
def Prs (H:Hp) (ts:List Addr) (cs:Ch):Prop:=Paired (PrT H) ts cs
def Prs.same {H H':Hp}{ts:List Addr}{cs:Ch} (h:Prs H ts cs) (s:Same H H'):Prs H' ts cs:=Paired.mapP h fun _ _ ⟨b,e1,e2⟩=>⟨b,s _ _ e1,s.tp e2⟩
def Prs.length {H:Hp}{ts:List Addr}{cs:Ch} (h:Prs H ts cs):ts.length=cs.length:=AX h
def Prs.upd {H:Hp}{d:Addr}{o o':HO}{ts:List Addr}{cs:Ch} (h:Prs H ts cs) (hd:H d=some o') (hn:∀xs,o'≠.tup xs):Prs (L2.upd H d o) ts cs:=
 Paired.mapP h fun t c ⟨b,e1,e2⟩=>⟨b,by rw[zh (zaX e1 hd fun z=>hn _ z.symm)]; exact e1,by show L2.upd H d o b=_; rw[zh (zaX (show H b=some _ from e2) hd fun z=>hn _ z.symm)]; exact e2⟩
def Prs.snoc {H:Hp}{ts:List Addr}{cs:Ch}{t:Addr}{c:List Int×Int} (h:Prs H ts cs) (q:PrT H t c):Prs H (ts++[t]) (cs++[c]):=Paired.snoc h q
def Prs.append {H:Hp}{ts us:List Addr}{cs ds:Ch} (h:Prs H ts cs) (q:Prs H us ds):Prs H (ts++us) (cs++ds):=by
 induction h with
 | nil=>exact q
 | cons r t ih=>exact .cons r ih
def Prs.get {H:Hp}:∀{ts:List Addr}{cs:Ch}{i:Nat}{t:Addr},Prs H ts cs->ts[i]?=some t->∃c,cs[i]?=some c/\PrT H t c
 | _,_,0,_,.cons h _,e=>by cases e; exact⟨_,rfl,h⟩
 | _,_,i+1,_,.cons _ t,e=>Prs.get (i:=i) t (by simpa using e)
def getC (cs:Ch) (q:List Int):Int:=((cs.find? fun c=>decide (c.1=q)).map (·.2)).getD 0
def zc7 (cs:Ch) (q:List Int):(valV (kvC cs) (q.map Sum.inl)).getD (.int 0)=.int (getC cs q):=by
 unfold valV getC kvC
 induction cs with
 | nil=>rfl
 | cons c r ih=>
  rw[AH,List.find?_cons,List.find?_cons]
  by_cases e:c.1=q
  ·rw[decide_eq_true e,decide_eq_true (zar.mpr e)]; rfl
  ·rw[decide_eq_false e,decide_eq_false (fun z=>e (zar.mp z))]; exact ih
def addC (acc:Ch) (t:List Int×Int):Ch:=putC acc t.1 (getC acc t.1+t.2)
def sumsC (ts:Ch):Ch:=ts.foldl addC []
def sumC (ts:Ch):Ch:=(sumsC ts).filter noZ
def zb9 (ts:Ch) (t:List Int×Int):sumsC (ts++[t])=addC (sumsC ts) t:=by unfold sumsC; rw[List.foldl_append]; rfl
def zde {α:Type}{P:List α->Prop} (h0:P []) (hs:∀l x,P l->P (l++[x])) (l:List α):P l:=by
 have:∀n,∀l:List α,l.length=n->P l:=by
  intro n
  induction n with
  | zero=>intro l hl; rw[List.eq_nil_of_length_eq_zero hl]; exact h0
  | succ n ih=>
   intro l hl;have hne:l≠[]:=fun z=>by rw[z] at hl; simp at hl
   rw[<- List.dropLast_concat_getLast hne];exact hs _ _ (ih _ (by rw[List.length_dropLast]; omega))
 exact this _ l rfl
def zfY (ts:Ch):(ksC (sumsC ts)).Nodup:=zde (P:=fun ts=>(ksC (sumsC ts)).Nodup) List.nodup_nil (fun l x h=>by rw[zb9]; exact putC_nodup _ _ h) ts
def ze4 (ts:Ch):(sumsC ts).length<=ts.length:=zde (P:=fun ts=>(sumsC ts).length<=ts.length) (Af _) (fun l x h=>by
 rw[zb9,Aq];have:=zff (sumsC l) x.1 (getC (sumsC l) x.1+x.2);unfold addC;simp;omega) ts
def ze9 {cs:Ch}{q:List Int} (v:Int) (h:q∉ksC cs):putC cs q v=cs++[(q,v)]:=by unfold putC; rw[if_neg h]
def sg (k:Nat) (n:Int):Int:=if (k:Int) % 2=0 then n else -n
def stm (ps:List Int) (n:Int):Ch:=(rims ps).zipIdx.map fun q=>(q.1,sg q.2 n)
def zhr (ps:List Int) (n:Int):(stm ps n).length=(rims ps).length:=by unfold stm; rw[Ab,List.length_zipIdx]
abbrev znl:TE:=tTup (zy (tVar 1) (zy (tIf (zgN (tOp rEq (tOp (rI (fun _ j=>0<j) fun i j=>.int (i % j)) (tVar 0) (tC (.int 2))) (tC (.int 0)))) (tVar 2) (tUn (rU fun i=>.int (-i)) (tVar 2))) tNil))
section
variable {P:Program}{w:World}{K:Ad}{mg:Str->Option Value}{base:Heap}
def zhQ {H2:Hp}{L D:Addr}{as:List Addr}{rs:List (List Int)}{n:Int}{Q:VK} (hl:H2 L=some (.lst (as.map V.ref))) (ht:Tps H2 as rs) (hz:rs.length<=1000) (hD:H2 D=none)
  (k:∀(H3:Hp) (ts:List Addr),Same H2 H3->H3 D=some (.lst (ts.map V.ref))->Prs H3 ts (rs.zipIdx.map fun q=>(q.1,sg q.2 n))->Q (.ref D) H3) :
  zaf (Ite K L) (gTup K 2 (zeo (zZ 0) (zeo (zZ 1) gNil))) tYes znl [none,none,some (.int n)] H2 D Q:=by
 have aG:=ht.length;refine zav as.length (fun j σ ys H3=>∃(v0 v1:Option V) (ts:List Addr),σ=[v0,v1,some (.int n)]/\Same H2 H3/\H3 D=some (.lst ys)/\ys=ts.map V.ref/\Prs H3 ts ((rs.zipIdx.map fun q=>(q.1,sg q.2 n)).take j)) ?_ ?_ ?_ ?_ ?_
 ·exact⟨none,none,[],rfl,Same.new hD,upd_same,rfl,.nil⟩
 ·rintro σ ys H3 ⟨v0,v1,ts,rfl,sm,aj,rfl,hp⟩
  exact⟨_,SqL.of (sm _ _ hl),by rw[Ab]⟩
 ·rintro i σ ys H3 hi ⟨v0,v1,ts,rfl,sm,aj,rfl,hp⟩
  exact⟨_,SqL.of (sm _ _ hl),by rw[Ab]; exact hi⟩
 ·rintro i σ ys H3 x H' hi hy ⟨v0,v1,ts,rfl,sm,aj,rfl,hp⟩ ⟨p,y,rfl,rq,rfl,f_⟩
  have ey:=f_ _ (SqL.of (sm _ _ hl));obtain⟨a,ea,rfl⟩:=zah ey;obtain⟨r,er,hr⟩:=ht.get ea;have s1:=Same.new (o:=.tup [.int i,.ref a]) rq;have e:(rs.zipIdx.map fun q=>(q.1,sg q.2 n))[i]?=some (r,sg i n):=by rw[Am,List.getElem?_zipIdx,er]; simp
  have hn:as.length<=sizeLine:=zb (by omega);have fin:∀(t:Addr) (v:Int),v=sg i n->upd H3 p (.tup [.int i,.ref a]) t=none->CPut as.length (fun j σ ys H3=>∃(v0 v1:Option V) (ts:List Addr),σ=[v0,v1,some (.int n)]/\Same H2 H3/\H3 D=some (.lst ys)/\ys=ts.map V.ref/\Prs H3 ts ((rs.zipIdx.map fun q=>(q.1,sg q.2 n)).take j)) D i [some (.int i),some (.ref a),some (.int n)] (.ref t) (upd (upd H3 p (.tup [.int i,.ref a])) t (.tup [.ref a,.int v])):=by
   intro t v hv bW;have s2:=s1.trans (Same.new (o:=.tup [.ref a,.int v]) bW);have di:=s2 _ _ aj;refine cput hn hi hy di ⟨_,_,ts++[t],rfl,(sm.trans s2).then hD,upd_same,by rw[Ar]; rfl,?_⟩;rw[AY e];exact Prs.upd (Prs.snoc (hp.same s2) ⟨a,by rw[upd_same,hv],s2.tp (sm.tp hr)⟩) di (by intro xs z; cases z)
  refine⟨p,_,rfl,SqT.of upd_same,rfl,_,_,rfl,_,_,rfl,rfl,yes_ ?_⟩;refine⟨_,rfl,_,rfl,_,_,rfl,rfl,(by show (0:Int)<2; decide),rfl,_,rfl,?_⟩
  by_cases hk:(i:Int) % 2=0
  ·rw[decide_eq_true (congrArg V.int hk)]
   exact iteT ⟨_,rfl,zb (by simp),fun t bW=>fin t n (by unfold sg; rw[if_pos hk]) bW⟩
  ·rw[decide_eq_false (fun z=>hk (by injection z))]
   exact iteF ⟨_,rfl,_,rfl,zb (by simp),fun t bW=>fin t (-n) (by unfold sg; rw[if_neg hk]) bW⟩
 ·rintro σ ys H3 ⟨v0,v1,ts,rfl,sm,aj,rfl,hp⟩
  rw[aG,Av (by rw[Ab,List.length_zipIdx]; exact Af _)] at hp;exact k H3 ts sm aj hp
def zg2:Sp:=fun vs H Q _=>∃a ps n,vs=[.ref a,.int n]/\Tp H a ps/\ps.length<=5/\∀D H2 (ts:List Addr),Same H H2->H D=none->H2 D=some (.lst (ts.map V.ref))->Prs H2 ts (stm ps n)->Q (.ref D) H2
def zl0:zi ["piece","often"] ["piece","often"] (zf zd6):=⟨rfl,rfl,rfl,by decide +kernel,rfl,by decide +kernel,by decide +kernel⟩
def zka {f fr:Addr}{fd ny:FuncData} (F:Fun K "seam_terms" "seam_terms" zd6 f fd) (B:Bt mg) (Fr:Fun K "rims_of" "rims_of" zhj fr ny) (br:Binds K ny ["piece"] []) (mr:mg "rims_of"=some (.ref fr)) :
  FnOk P w K mg base CX0 2 f fd ["piece","often"] zg2:=by
 have Gr:FnOk P w K mg base CX0 1 fr ny ["piece"] zko:=zlu Fr B;refine F.ok zl0 (fun vs H Q E h=>?_) (fun cdv A outer s H vs Q E hr h=>?_)
 ·obtain⟨a,ps,n,rfl,_⟩:=h; rfl
 ·obtain⟨a,ps,n,rfl,ha,h5,k⟩:=h
  refine⟨_,zd (zl (zB ["piece","often"] ["k","rim","often"] [none,none,some 1] (zlP rfl B.enumerate zeN (pa_cons (zk Gr hr rfl mr Fr.kp br .nil pass0 (pa_cons (pv 0) pa_nil)) pa_nil))
   (fun cl C s₀ H₀ ex=>zhq rfl (zaT (zm (i:=0) (ndN ["k","rim","often"]) rfl (Or.inl rfl)) (zaT (zm (i:=1) (ndN ["k","rim","often"]) rfl (Or.inl rfl)) zeJ)))
   (fun cl C s₀ H₀ ex=>zM) (fun cl C s₀ H₀ ex=>zU (pa_cons (pv 1) (pa_cons (zdh (zp zaK (zw zbA (pv 0) ze) ze (nomark _)) (pv 2) (zlc zif (pv 2))) pa_nil)))
   (hfr:=frOf (zf zd6) (by decide +kernel)) (g:=gTup K 2 (zeo (zZ 0) (zeo (zZ 1) gNil))) (te:=znl))),?_⟩
  have xT:=zc4 ps;exact⟨_,rfl,a,ps,rfl,ha,h5,fun L H1 bs bA hL0 ka hb=>⟨L,rfl,⟨_,SqL.of ka⟩,fun D hD=>zI (zhQ ka hb (by omega) hD fun H3 ts aE aj hp=>k D H3 ts (bA.trans aE) (bA.free hD) aj hp)⟩⟩
def zjZ (K:Ad):Sp:=fun vs H Q _=>∃l ts cs,vs=[.ref l]/\SqL K H l (ts.map V.ref)/\Prs H ts cs/\cs.length<=1000/\∀D H',Same H H'->H D=none->H' D=some (.dT (kvC (sumC cs)))->Q (.ref D) H'
def zgD:zi ["terms","sums","piece","weight","told"] ["terms"] (zf sSum):=⟨rfl,rfl,rfl,by decide +kernel,rfl,by decide +kernel,by decide +kernel⟩
def zmv {f:Addr}{fd:FuncData} (F:Fun K "sum_of" "sum_of" sSum f fd):FnOk P w K mg base CX0 1 f fd ["terms"] (zjZ K):=by
 refine F.ok zgD (fun vs H Q E h=>?_) (fun cdv A outer s H vs Q E hr h=>?_)
 ·obtain⟨l,ts,cs,rfl,_⟩:=h; rfl
 ·obtain⟨l,ts,cs,rfl,hl,hp,hz,k⟩:=h
  have hu:=zbE hr;have iy:=hp.length;refine⟨_,za (zo (i:=1) zgD.nd rfl (Or.inl rfl) zaR)
   (za (zaa AZ rfl (zL (pv 0)) (zhq rfl (zaT (zm (i:=2) zgD.nd rfl (Or.inl rfl)) (zaT (zm (i:=3) zgD.nd rfl (Or.inl rfl)) zeJ)))
    (zd (za3 hu (pv 1) (pv 2) (zw zaq (zfr hu (pv 1) (pv 2) ze ⟨rfl,rfl,rfl,rfl⟩) (pv 3)) rfl)))
   (za (zo (i:=4) zgD.nd rfl (Or.inl rfl) zaR)
   (za (zaa AZ rfl (zdu (pv 1)) (zm (i:=2) zgD.nd rfl (Or.inl rfl))
    (zd (zD (zp zdO (zbt hu (pv 1) (pv 2) (fun _ _=>rfl)) ze (nomark _)) (zd (za3 hu (pv 4) (pv 2) (zbt hu (pv 1) (pv 2) (fun _ _=>rfl)) rfl)) zn)))
   (zd (zl (pv 4)))))),?_⟩
  intro d hd;refine⟨_,rfl,l,rfl,⟨_,(Same.new hd).seq hl⟩,zae (K:=K) (a:=l) (xs:=ts.map V.ref) (fun i σ H2=>∃(v2 v3:Option V),σ=[some (.ref l),some (.ref d),v2,v3,none]/\Same H H2/\H2 d=some (.dT (kvC (sumsC (cs.take i)))))
   ⟨none,none,rfl,Same.new hd,upd_same⟩ (fun i σ H2 _ ⟨_,_,_,sm,_⟩=>sm.seq hl) ?_ ?_⟩
  ·rintro i x σ H2 hx ⟨v2,v3,rfl,sm,ax⟩
   obtain⟨t,et,rfl⟩:=zah hx;obtain⟨c,ec,b,e1,e2⟩:=hp.get et;have kJ:H2 b=some (.tup ((c.1.map Sum.inl:List Key).map kV)):=by rw[Az]; exact sm.tp e2
   have hlen:(kvC (sumsC (cs.take i))).length<sizeLine:=by
    rw[zQ];have:=ze4 (cs.take i);rw[AJ] at this;exact zR (by omega)
   refine⟨t,_,rfl,SqT.of (sm _ _ e1),rfl,_,_,rfl,_,_,rfl,rfl,?_⟩;refine⟨_,rfl,d,rfl,.inr ⟨_,.inl ax⟩,_,rfl,_,DGet.t (k:=c.1.map Sum.inl) ax kJ,?_⟩;rw[zc7];refine⟨_,rfl,_,_,rfl,rfl,_,rfl,_,rfl,d,_,rfl,DPut.t (k:=c.1.map Sum.inl) ax kJ hlen,⟨_,_,rfl,sm.then hd,?_⟩⟩;rw[upd_same,put_kvC,AY ec,zb9]
   rfl
  ·rintro σ H2 ⟨v2,v3,rfl,sm,ax⟩
   rw[Ab,iy,take_all] at ax;intro T hT;have lq:H T=none:=sm.free hT;have cK:d≠T:=zg ax hT;have hn:=zfY cs;have iZ:=ze4 cs;unfold sumC at k;generalize sumsC cs=ss at ax hn iZ k;refine⟨_,rfl,d,kvC ss,rfl,.inl (by rw[zh cK]; exact ax),fun o H3 eW aL=>zfO (fun i σ H4=>∃(v2:Option V),σ=[some (.ref l),some (.ref d),v2,v3,some (.ref T)]/\Same H H4/\H4 d=some (.frz o (.dT (kvC ss)))/\H4 T=some (.dT (kvC ((ss.take i).filter noZ))))
    ⟨_,rfl,fun b u e=>by rw[aL b (zg e hd),zh (zg e lq)]; exact sm _ _ e,eW,by rw[aL T (Ne.symm cK)]; exact upd_same⟩ (fun i σ H4 _ ⟨_,_,_,h,_⟩=>h) ?_ ?_⟩
   ·rintro i kv b σ H4 dh hb ⟨v2,rfl,aT,bK,jt⟩
    have hi:i<ss.length:=by
     have:=(List.getElem?_eq_some_iff.mp dh).1;rw[zQ] at this;exact this
    have ec:ss[i]?=some ss[i]:=Ah hi;obtain rfl:(((ss[i]).1.map Sum.inl:List Key),V.int (ss[i]).2)=kv:=by
     unfold kvC at dh;rw[Am,ec] at dh;exact Al dh
    have hmem:ss[i]∈ss:=List.getElem_mem hi;have fL:(ss[i]).1∉ksC ((ss.take i).filter noZ):=fun z=>by
     obtain⟨c',fB,e'⟩:=List.mem_map.mp z;obtain⟨j,hj⟩:=List.getElem?_of_mem ((List.mem_filter.mp fB).1);have hj':j<i:=by
      have:=(List.getElem?_eq_some_iff.mp hj).1;rw[AJ] at this;omega
     rw[List.getElem?_take_of_lt hj'] at hj;have h1:(ksC ss)[j]?=some (ss[i]).1:=by unfold ksC; rw[Am,hj]; exact congrArg some e'
     have h2:(ksC ss)[i]?=some (ss[i]).1:=by unfold ksC; rw[Am,ec]; rfl
     have hji:j<(ksC ss).length:=by rw[zaI]; omega
     have:=(List.getElem?_inj hji hn).mp (h1.trans h2.symm);omega
    have hlen:(kvC ((ss.take i).filter noZ)).length<sizeLine:=by
     rw[zQ];have:=List.length_filter_le noZ (ss.take i);rw[AJ] at this;exact zR (by omega)
    have g:DGet H4 d (.ref b) (some (.int (ss[i]).2)):=.inr ⟨kvC ss,(ss[i]).1.map Sum.inl,b,.inr ⟨o,bK⟩,rfl,hb,(zba hn _ hmem).symm⟩;have wK:T≠d:=Ne.symm cK;refine⟨_,rfl,_,rfl,d,_,rfl,g,rfl,_,rfl,?_⟩;cases hz0:noZ ss[i] with
    | true=>
     have hz1:(!decide (V.int (ss[i]).2=V.int 0))=true:=hz0;rw[hz1];refine iteT ⟨_,rfl,_,rfl,d,_,rfl,g,_,rfl,_,rfl,T,_,rfl,DPut.t (k:=(ss[i]).1.map Sum.inl) jt hb hlen,⟨_,rfl,aT.then lq,by rw[zh cK]; exact bK,?_⟩⟩;rw[upd_same,put_kvC,ze9 _ fL,AY ec,List.filter_append,List.filter_cons_of_pos hz0]
     rfl
    | false=>
     have hz1:(!decide (V.int (ss[i]).2=V.int 0))=false:=hz0;rw[hz1];refine iteF ⟨_,rfl,aT,bK,?_⟩;rw[AY ec,List.filter_append,List.filter_cons_of_neg (by rw[hz0]; decide),List.filter_nil,List.append_nil];exact jt
   ·rintro σ H4 ⟨v2,rfl,aT,bK,jt⟩
    rw[zQ,take_all] at jt;exact⟨_,rfl,k T H4 aT lq jt⟩
end
end K19
end
section
namespace K19
open K1
open PySem L2 STb
def zgi (ts:Ch):Ch:=ts.foldl (fun acc t=>putC acc t.1 t.2) []
def zfm:∀(ts acc:Ch),(kvC ts).foldl (fun acc kv=>putK acc kv.1 kv.2) (kvC acc)=kvC (ts.foldl (fun acc t=>putC acc t.1 t.2) acc)
 | [],_=>rfl
 | t::r,acc=>by
  show (kvC r).foldl _ (putK (kvC acc) (t.1.map Sum.inl) (.int t.2))=_;rw[put_kvC];exact zfm r _
def ziB (ts:Ch):zmM (kvC ts)=kvC (zgi ts):=zfm ts []
def zij {kn:List (List Int)}{n:Nat} (h:∀q∈kn,q.length=n):oneH kn=true:=by
 unfold oneH;refine decide_eq_true ?_;have:(dd (lens kn)).length<=1:=(zmB _).mpr fun x hx y hy=>by
  unfold lens at hx hy;obtain⟨a,ha,rfl⟩:=List.mem_map.mp hx;obtain⟨b,hb,rfl⟩:=List.mem_map.mp hy;rw[h a ha,h b hb]
 omega
def znD {kn:List (List Int)}{cs:Ch}{n:Nat} (h1:∀c∈cs,c.1∈kn) (h2:∀c∈cs,c.1.length=n) (h3:∀c∈cs,c.2≠0):chM kn cs=true:=by
 unfold chM;rw[decide_eq_true (fun k hk=>by obtain⟨c,hc,rfl⟩:=List.mem_map.mp hk; exact h1 c hc),zij (n:=n) (fun q hq=>by obtain⟨c,hc,rfl⟩:=List.mem_map.mp hq; exact h2 c hc),Bool.true_and,Bool.true_and,List.all_map,List.all_eq_true];intro c hc;show (!decide (V.int c.2=V.int 0))=true;rw[decide_eq_false (fun z=>h3 c hc (by injection z))]
 rfl
end K19
end
section
namespace K19
open K1
open PySem L2 STb
abbrev zhS:Stmt:=top 35
abbrev zdo:Stmt:=top 36
abbrev zbj:Stmt:=top 38
abbrev zet:Stmt:=top 39
def rd_ne {H:Hp}{d b:Addr}{kvs:List (List Key×V)}{o:HO} (r:Rd H d (.dT kvs)) (h:H b=some o) (h1:∀k,o≠.dT k) (h2:∀q k,o≠.frz q (.dT k)):b≠d:=by
 rintro rfl;rcases r with r | ⟨q,r⟩
 ·exact h1 _ (Al (h.symm.trans r))
 ·exact h2 _ _ (Al (h.symm.trans r))
def zr.lst {H H':Hp}{d b:Addr}{kvs:List (List Key×V)}{xs:List V} (s:zr d H H') (r:Rd H d (.dT kvs)) (h:H b=some (.lst xs)):H' b=some (.lst xs):=s _ _ (rd_ne r h (by intro k z; cases z) (by intro q k z; cases z)) h
def zr.tpD {H H':Hp}{d b:Addr}{kvs:List (List Key×V)}{ps:List Int} (s:zr d H H') (r:Rd H d (.dT kvs)) (h:Tp H b ps):Tp H' b ps:=s _ _ (rd_ne r (show H b=some _ from h) (by intro k z; cases z) (by intro q k z; cases z)) h
def zr.tpsD {H H':Hp}{d:Addr}{kvs:List (List Key×V)}{as:List Addr}{ae:List (List Int)} (s:zr d H H') (r:Rd H d (.dT kvs)) (h:Tps H as ae):Tps H' as ae:=Paired.mapP h fun _ _ q=>s.tpD r q
def zr.freeD {H H':Hp}{d l:Addr}{u:HO} (s:zr d H H') (r:Rd H' d u) (h:H' l=none):H l=none:=by
 cases q:H l with
 | none=>rfl
 | some o=>
  have hl:l≠d:=fun z=>by
   rw[z] at h;rcases r with r | ⟨_,r⟩ <;> rw[h] at r <;> cases r
  rw[s _ _ hl q] at h;cases h
def zr.thenD {H H1:Hp}{d a:Addr}{o:HO} (e:zr d H H1) (h:H a=none):zr d H (L2.upd H1 a o):=fun b u hb q=>by rw[zh (zg q h)]; exact e b u hb q
def ziE {cs:Ch}{i:Nat}{kv:List Key×V} (h:(kvC cs)[i]?=some kv):∃c,cs[i]?=some c/\kv=((c.1.map Sum.inl:List Key),V.int c.2):=by
 unfold kvC at h;rw[Am] at h;cases e:cs[i]? with
 | none=>rw[e] at h; cases h
 | some c=>rw[e] at h; exact⟨c,rfl,(Al h).symm⟩
def zid {H:Hp}{b:Addr}{ps:List Int} (h:H b=some (.tup ((ps.map Sum.inl:List Key).map kV))):Tp H b ps:=by rw[Az] at h; exact h
def zfE {H:Hp}{b:Addr}{ps:List Int} (h:Tp H b ps):H b=some (.tup ((ps.map Sum.inl:List Key).map kV)):=by rw[Az]; exact h
def zir {cs:Ch}{i:Nat}{c:List Int×Int} (f:List Int×Int->Ch) (h:cs[i]?=some c):(cs.take (i+1)).flatMap f=(cs.take i).flatMap f++f c:=by rw[AY h,List.flatMap_append]; simp
def zeU {cs:Ch} (h:∀c∈cs,c.1.length<=5):(cs.flatMap fun c=>stm c.1 c.2).length<=5*cs.length:=by
 induction cs with
 | nil=>simp
 | cons c r ih=>
  rw[List.flatMap_cons,Aq,Ap,zhr];have:=ih fun d hd=>h d (Aw _ hd);have:=zc4 c.1;have:=h c Au;omega
structure WC (H:Hp) (l d:Addr) (as:List Addr) (ae:List (List Int)) (cs:Ch):Prop where
 hl:H l=some (.lst (as.map V.ref))
 ht:Tps H as ae
 hw:webS ae
 h59:(canon ae).length<=58
 hd:Rd H d (.dT (kvC cs))
 ln:cs.length<=(canon ae).length
 hc:chM (canon ae) cs=true
 nd:(ksC cs).Nodup
def WC.same {H H':Hp}{l d:Addr}{as:List Addr}{ae:List (List Int)}{cs:Ch} (h:WC H l d as ae cs) (s:Same H H'):WC H' l d as ae cs:=⟨s _ _ h.hl,s.tps h.ht,h.hw,h.h59,h.hd.same s,h.ln,h.hc,h.nd⟩
def WC.walked {H H':Hp}{l d:Addr}{as:List Addr}{ae:List (List Int)}{cs:Ch} (h:WC H l d as ae cs) (s:zr d H H') (r:Rd H' d (.dT (kvC cs))):WC H' l d as ae cs:=⟨s.lst h.hd h.hl,s.tpsD h.hd h.ht,h.hw,h.h59,r,h.ln,h.hc,h.nd⟩
section
variable {P:Program}{w:World}{K:Ad}{mg:Str->Option Value}{base:Heap}
def zfM:Sp:=fun vs H Q _=>∃l d as ae cs,vs=[.ref l,.ref d]/\WC H l d as ae cs/\(∀c∈cs,c.1.length<=5)/\
 ∀D H',zr d H H'->Rd H' d (.dT (kvC cs))->H D=none->H' D=some (.dT (kvC (sumC (cs.flatMap fun c=>stm c.1 c.2))))->Q (.ref D) H'
def zfD:Sp:=fun vs H Q _=>∃d cs,vs=[.ref d]/\Rd H d (.dT (kvC cs))/\(ksC cs).Nodup/\cs.length<=58/\(∀c∈cs,c.1.length<=5)/\
 ∀D H',zr d H H'->Rd H' d (.dT (kvC cs))->H D=none->H' D=some (.dT (kvC (sumC (cs.flatMap fun c=>stm c.1 c.2))))->Q (.ref D) H'
def zda:zi ["chain","terms","piece"] ["chain"] (zf zdo):=⟨rfl,rfl,rfl,by decide +kernel,rfl,by decide +kernel,by decide +kernel⟩
def zh5 {f ft fs:Addr}{fd bV cP:FuncData} (F:Fun K "seam_of" "seam_of" zdo f fd)
  (Ft:Fun K "seam_terms" "seam_terms" zd6 ft bV) (bt:Binds K bV ["piece","often"] []) (mt:mg "seam_terms"=some (.ref ft)) (Gt:FnOk P w K mg base CX0 2 ft bV ["piece","often"] zg2)
  (Fs:Fun K "sum_of" "sum_of" sSum fs cP) (bs:Binds K cP ["terms"] []) (ms:mg "sum_of"=some (.ref fs)) (Gs:FnOk P w K mg base CX0 1 fs cP ["terms"] (zjZ K)) :
  FnOk P w K mg base CX0 3 f fd ["chain"] zfD:=by
 refine F.ok zda (fun vs H Q E h=>?_) (fun cdv A outer s H vs Q E hr h=>?_)
 ·obtain⟨d,cs,rfl,_⟩:=h; rfl
 ·obtain⟨d,cs,rfl,hd,eZ,oZ,h5,k⟩:=h
  have hu:=zbE hr;have hr1:Room 1 _:=hr.mono (by decide);have nE:Room 2 _:=hr.mono (by decide);refine⟨_,za (zo (i:=1) zda.nd rfl (Or.inl rfl) (zC pa_nil))
   (za (zaa AZ rfl (zdu (pv 0)) (zm (i:=2) zda.nd rfl (Or.inl rfl))
    (zd (zv (zaF PySem.F.plainAttrs_list PySem.F.slot_list_extend PySem.F.type_list_extend zhV (pv 1) (pa_cons (zk Gt nE rfl mt Ft.kp bt .nil pass0 (pa_cons (pv 2) (pa_cons (zbt hu (pv 0) (pv 2) (fun _ _=>rfl)) pa_nil))) pa_nil)))))
   (zd (zl (zk Gs hr1 rfl ms Fs.kp bs .nil pass0 (pa_cons (pv 1) pa_nil))))),?_⟩
  refine⟨zb (by simp),fun L hL=>?_⟩;have qe:d≠L:=by
   rcases hd with r | ⟨_,r⟩
   ·exact zg r hL
   ·exact zg r hL
  refine⟨_,rfl,d,kvC cs,rfl,hd.same (Same.new hL),fun o H3 eW aL=>zfO (fun i σ H4=>∃(v3:Option V) (ts:List Addr),σ=[some (.ref d),some (.ref L),v3]/\zr d H H4/\H4 d=some (.frz o (.dT (kvC cs)))/\H4 L=some (.lst (ts.map V.ref))/\Prs H4 ts ((cs.take i).flatMap fun c=>stm c.1 c.2))
   ⟨none,[],rfl,fun b u hb e=>by rw[aL b hb,zh (zg e hL)]; exact e,eW,by rw[aL L (Ne.symm qe)]; exact upd_same,.nil⟩ (fun i σ H4 _ ⟨_,_,_,_,h,_⟩=>h) ?_ ?_⟩
  ·rintro i kv b σ H4 dh hb ⟨v3,ts,rfl,b0,bK,dH,dN⟩
   obtain⟨c,ec,rfl⟩:=ziE dh;have hmem:=At ec;have g:DGet H4 d (.ref b) (some (.int c.2)):=.inr ⟨kvC cs,c.1.map Sum.inl,b,.inr ⟨o,bK⟩,rfl,hb,(zba eZ c hmem).symm⟩;refine⟨_,rfl,.inl ⟨rfl,_,SqL.of dH⟩,_,rfl,_,rfl,_,rfl,d,_,rfl,g,b,c.1,c.2,rfl,zid hb,h5 c hmem,fun D5 H5 us bB vZ di kM=>?_⟩;have hlt:=dN.length;have r_:=kM.length;have kW:=zeU (cs:=cs.take i) fun c hc=>h5 c (List.mem_of_mem_take hc);rw[AJ] at kW;rw[zhr] at r_;have:=zc4 c.1;have:=h5 c hmem;refine⟨L,D5,_,_,rfl,rfl,bB _ _ dH,di,by rw[Ab,Ab]; exact zb (by omega),⟨_,ts++us,rfl,(b0.trans (zr.of bB)).thenD hL,by rw[zh qe]; exact bB _ _ bK,by rw[upd_same,Ar],?_⟩⟩;rw[zir _ ec];exact Prs.upd ((dN.same bB).append kM) (bB _ _ dH) (by intro xs z; cases z)
  ·rintro σ H4 ⟨v3,ts,rfl,b0,bK,dH,dN⟩
   rw[zQ,take_all] at dN;have kW:=zeU h5;refine⟨_,rfl,L,ts,_,rfl,SqL.of dH,dN,by omega,fun D H5 bB cG di=>?_⟩;exact k D H5 (b0.trans (zr.of bB)) (.inr ⟨o,bB _ _ bK⟩) (b0.freeD (.inr ⟨o,bK⟩) cG) di
def zkg:zi ["web","chain"] ["web","chain"] (zf zhS):=⟨rfl,rfl,rfl,by decide +kernel,rfl,by decide +kernel,by decide +kernel⟩
def zk4 {f fm fo:Addr}{fd cb bL:FuncData} (F:Fun K "seam" "seam" zhS f fd)
  (Fm:Fun K "must_be_chain" "must_be_chain" zbn fm cb) (bm:Binds K cb ["web","chain"] []) (mm:mg "must_be_chain"=some (.ref fm)) (Gm:FnOk P w K mg base CX0 10 fm cb ["web","chain"] (zbb K))
  (Fo:Fun K "seam_of" "seam_of" zdo fo bL) (bo:Binds K bL ["chain"] []) (mo:mg "seam_of"=some (.ref fo)) (Go:FnOk P w K mg base CX0 3 fo bL ["chain"] zfD) :
  FnOk P w K mg base CX0 11 f fd ["web","chain"] zfM:=by
 refine F.ok zkg (fun vs H Q E h=>?_) (fun cdv A outer s H vs Q E hr h=>?_)
 ·obtain⟨l,d,as,ae,cs,rfl,_⟩:=h; rfl
 ·obtain⟨l,d,as,ae,cs,rfl,wc,h5,k⟩:=h
  have hr3:Room 3 _:=hr.mono (by decide);refine⟨_,za (zv (zk Gm hr rfl mm Fm.kp bm .nil pass0 (pa_cons (pv 0) (pa_cons (pv 1) pa_nil))))
   (zd (zl (zk Go hr3 rfl mo Fo.kp bo .nil pass0 (pa_cons (pv 1) pa_nil)))),?_⟩
  have oZ:=wc.ln;have xL:=wc.h59;refine⟨_,rfl,_,rfl,l,d,as,ae,cs,rfl,SqL.of wc.hl,wc.ht,wc.hw,by omega,wc.hd,by omega,by omega,wc.hc,fun H1 aM bQ=>?_⟩;refine⟨_,rfl,d,cs,rfl,bQ,wc.nd,by omega,h5,fun D H2 bU dL cG bD=>?_⟩;exact k D H2 (aM.trans bU) dL (aM.freeD bQ cG) bD
abbrev tWgt:TE:=tOp (rI CMul fun i j=>.int (i*j)) (zkf (tVar 1) (tVar 0) (tC (.int 0))) (zl4 (tVar 2) (tVar 0))
def zjN {H2:Hp}{W d D:Addr}{o:Obj}{ws cs:Ch}{Q:VK} (hd:H2 d=some (.frz o (.dT (kvC cs)))) (hW:Rd H2 W (.dT (kvC ws))) (hz:cs.length<=1000) (hn:(ksC cs).Nodup) (hb:∀c∈cs,-(2 ^ 64)<c.2/\c.2<2 ^ 64) (hD:H2 D=none)
  (k:∀H3,Same H2 H3->H3 D=some (.lst ((cs.map fun c=>getC ws c.1*c.2).map V.int))->Q (.ref D) H3) :
  zaf (Itk d o (kvC cs)) (zZ 0) tYes tWgt [none,some (.ref W),some (.ref d)] H2 D Q:=by
 refine zav cs.length (fun j σ ys H3=>∃v:Option V,σ=[v,some (.ref W),some (.ref d)]/\Same H2 H3/\H3 D=some (.lst ys)/\ys=((cs.map fun c=>getC ws c.1*c.2).take j).map V.int) ?_ ?_ ?_ ?_ ?_
 ·exact⟨none,rfl,Same.new hD,upd_same,rfl⟩
 ·rintro σ ys H3 ⟨v,rfl,sm,aj,rfl⟩
  exact⟨(zQ cs).symm,sm _ _ hd⟩
 ·rintro i σ ys H3 hi ⟨v,rfl,sm,aj,rfl⟩
  exact⟨by rw[zQ]; exact hi,sm _ _ hd⟩
 ·rintro i σ ys H3 x H' hi hy ⟨v,rfl,sm,aj,rfl⟩ ⟨rfl,kv,b,dh,rfl,jH⟩
  obtain⟨c,ec,rfl⟩:=ziE dh;have hmem:=At ec;have e:(cs.map fun c=>getC ws c.1*c.2)[i]?=some (getC ws c.1*c.2):=by rw[Am,ec]; rfl
  refine gyes ?_;refine⟨_,rfl,W,rfl,.inr ⟨_,hW.same sm⟩,_,rfl,_,.inr ⟨kvC ws,c.1.map Sum.inl,b,hW.same sm,rfl,jH,rfl⟩,?_⟩;rw[zc7];refine⟨_,rfl,_,rfl,d,_,rfl,.inr ⟨kvC cs,c.1.map Sum.inl,b,.inr ⟨o,sm _ _ hd⟩,rfl,jH,(zba hn c hmem).symm⟩,_,_,rfl,rfl,.inr (hb c hmem),cput (zb (by omega)) hi hy aj ⟨_,rfl,sm.then hD,upd_same,by rw[AY e,Ar]; rfl⟩⟩
 ·rintro σ ys H3 ⟨v,rfl,sm,aj,rfl⟩
  rw[Av (by rw[Ab]; exact Af _)] at aj;exact k H3 sm aj
def zdE:Sp:=fun vs H Q _=>∃l W d as ae ws cs,vs=[.ref l,.ref W,.ref d]/\W≠d/\WC H l W as ae ws/\WC H l d as ae cs/\(∀c∈cs,-(2 ^ 64)<c.2/\c.2<2 ^ 64)/\
 ∀H',(∀b o,b≠W->b≠d->H b=some o->H' b=some o)->Rd H' d (.dT (kvC cs))->Q (.int (cs.map fun c=>getC ws c.1*c.2).sum) H'
def zdD:zi ["web","weights","chain"] ["web","weights","chain"] (zf zbj):=⟨rfl,rfl,rfl,by decide +kernel,rfl,by decide +kernel,by decide +kernel⟩
def zb8 {H H':Hp}{W d:Addr}{u:HO} (s:zr W H H') (hne:d≠W) (r:Rd H d u):Rd H' d u:=by
 rcases r with r | ⟨o,r⟩
 ·exact .inl (s _ _ hne r)
 ·exact .inr ⟨o,s _ _ hne r⟩
def zgl {f fm:Addr}{fd cb:FuncData} (F:Fun K "weighed" "weighed" zbj f fd) (l7:mg "sum"=none) (kY:AW "sum"=some (.builtin "sum"))
  (Fm:Fun K "must_be_chain" "must_be_chain" zbn fm cb) (bm:Binds K cb ["web","chain"] []) (mm:mg "must_be_chain"=some (.ref fm)) (Gm:FnOk P w K mg base CX0 10 fm cb ["web","chain"] (zbb K)) :
  FnOk P w K mg base CX0 11 f fd ["web","weights","chain"] zdE:=by
 refine F.ok zdD (fun vs H Q E h=>?_) (fun cdv A outer s H vs Q E hr h=>?_)
 ·obtain⟨l,W,d,as,ae,ws,cs,rfl,_⟩:=h; rfl
 ·obtain⟨l,W,d,as,ae,ws,cs,rfl,hne,ww,wc,hb,k⟩:=h
  have hu:=zbE hr;refine⟨_,za (zv (zk Gm hr rfl mm Fm.kp bm .nil pass0 (pa_cons (pv 0) (pa_cons (pv 1) pa_nil))))
   (za (zv (zk Gm hr rfl mm Fm.kp bm .nil pass0 (pa_cons (pv 0) (pa_cons (pv 2) pa_nil))))
   (zd (zl (zq (zjP rfl) rfl l7 kY (pa_cons
    (zB ["web","weights","chain"] ["piece","weights","chain"] [none,some 1,some 2] (zdu (pv 2)) (fun cl C s₀ H₀ ex=>zm (i:=0) (ndN ["piece","weights","chain"]) rfl (Or.inl rfl)) (fun cl C s₀ H₀ ex=>zM)
     (fun cl C s₀ H₀ ex=>zw zbk (zfr hu (pv 1) (pv 0) ze ⟨rfl,rfl,rfl,rfl⟩) (zbt hu (pv 2) (pv 0) (fun _ _=>rfl))) (hfr:=frOf (zf zbj) (by decide +kernel)) (te:=tWgt)) pa_nil))))),?_⟩
  have h1:=ww.ln;have h2:=ww.h59;have h3:=wc.ln;refine⟨_,rfl,_,rfl,l,W,as,ae,ws,rfl,SqL.of ww.hl,ww.ht,ww.hw,by omega,ww.hd,by omega,by omega,ww.hc,fun H1 aM bQ=>?_⟩;have jR:Rd H1 d (.dT (kvC cs)):=zb8 aM (Ne.symm hne) wc.hd;have hl1:=aM.lst ww.hd ww.hl;have iz:=aM.tpsD ww.hd ww.ht;refine⟨_,rfl,_,rfl,l,d,as,ae,cs,rfl,SqL.of hl1,iz,wc.hw,by omega,jR,by omega,by omega,wc.hc,fun H2 bU dL=>?_⟩;have rX:Rd H2 W (.dT (kvC ws)):=zb8 bU hne bQ;refine⟨_,rfl,d,kvC cs,rfl,dL,fun o H3 eW aL=>fun D hD=>zI (zjN eW (W:=W) (ws:=ws) ?_ (by omega) wc.nd hb hD fun H4 aT cu=>⟨D,_,rfl,SqL.of cu,?_⟩)⟩
  ·rcases rX with r | ⟨q,r⟩
   ·exact .inl (by rw[aL W hne]; exact r)
   ·exact .inr ⟨q,by rw[aL W hne]; exact r⟩
  ·exact k H4 (fun b u rO hbd e=>aT _ _ (by rw[aL b hbd]; exact bU _ _ hbd (aM _ _ rO e))) (.inr ⟨o,aT _ _ eW⟩)
def zeY:zi ["web","piece","terms","other","weights"] ["web","piece"] (zf zet):=⟨rfl,rfl,rfl,by decide +kernel,rfl,by decide +kernel,by decide +kernel⟩
end
end K19
end
section
namespace Dk
open PySem PySem.Spec PyProof.Rows
def II (h:Heap) (it d:Addr) (i n ep:Nat):Prop:=∃(f0:Value) (b:Bool) (k v:Value),(f0=.none \/ ∃a:Addr,f0=rawInt a)/\
 h.get? it=some { cls:=.type "dict_itemiterator",dict:=none,data:=.fields #[f0,.bool b,.ref d,.int i 0,.int n 0,.int ep 0,k,v],slots:=#[] }
def II.at {h h':Heap}{it d:Addr}{i n ep:Nat} (x:II h it d i n ep) (k:∀o,h.get? it=some o->h'.get? it=some o):II h' it d i n ep:=by
 obtain⟨f0,b,k0,v0,hf,e⟩:=x;exact⟨f0,b,k0,v0,hf,k _ e⟩
section
variable {prog:Program}{w:World}{A:Around}{E:Value->Shared->Prop}{s:Shared}{it d v:Addr}{i ep:Nat}{es:Array DictEntry}
def zhU {a:Addr}{Q:Option Obj->Shared->Prop} (h:Q (s.heap.get? a) s):wpAny (model prog w) A (loadIfAlive a) Q E s:=fun _ _ _=>h
def iiter {Q:Value->Shared->Prop} (hv:s.heap.IsItemsView v d) (hm:IsD s.heap d es ep)
  (hQ:Q (.ref s.heap.objs.size) { s with heap:=s.heap.push { cls:=.type "dict_itemiterator",data:=.fields #[.none,.bool false,.ref d,.int 0 0,.int es.size 0,.int ep 0,.none,.none] } }):wpAny (model prog w) A (pyIter (.ref v)) Q E s:=by
 obtain⟨ov,lK,rj,lN⟩:=id hv;obtain⟨o,ho,hc,aO⟩:=id hm;refine wpAny_pyIter_slot hv.typeIs PySem.F.slot_dict_items_iter (AV PySem.F.slot_dict_items_iter hv.typeIs PySem.F.entry_dict_items_iter ?_ (PySem.F.args_dict_items_iter_1 _));unfold Builtin.«dict_items.__iter__»;refine Aa (Ac ?_);refine Aa ?_;unfold Builtin.Dict_items.dictOf;refine Aa (AN lK lN (x:=.ref d) rfl (Ac ?_));refine Aa ?_;unfold Builtin.Dict_items.newIterator;refine Aa (AR ho aO ?_);refine Aa (wpAny_dictEpoch ho aO ?_);have aW:Builtin.Dict_items.ownsTuple "dict_itemiterator"=true:=by decide
 simp only[aW,if_true];refine AI (Ac ⟨_,rfl,"dict_itemiterator",_,⟨_,Ak _ rfl,rfl⟩,PySem.F.slot_dict_itemiterator_next.lookup,?_⟩)
  (by simp only[sizeOk,Builtin.Dict_items.ownedTupleFields,Ag,Aq,Ap,List.length_nil,sizeLine_eq]; omega)
 simpa[rawInt,Builtin.Dict_items.ownedTupleFields] using hQ
def iitem {Q:Option Value->Shared->Prop} (aw:II s.heap it d i es.size ep) (hm:IsD s.heap d es ep) (hx:i<es.size)
  (hQ:∀h',II h' it d (i+1) es.size ep->h'.get? s.heap.objs.size=some { cls:=.type "tuple",data:=.seq #[es[i].key,es[i].val] }->
   (∀b o,b≠it->s.heap.get? b=some o->h'.get? b=some o)->Q (some (.ref s.heap.objs.size)) { s with heap:=h' }):wpAny (model prog w) A (pyNext (.ref it)) Q E s:=by
 obtain⟨hp,g,dr,tk,os⟩:=s;obtain⟨f0,fb,ok,ov,qa,aw⟩:=aw;obtain⟨od,cB,bJ,cn⟩:=id hm;have hT:Shared.TypeIs ⟨hp,g,dr,tk,os⟩ (.ref it) "dict_itemiterator":=⟨_,aw,rfl⟩;unfold pyNext;refine Aa (wpAny_attempt (AO (name:=A3 "__next__") hT PySem.F.slot_dict_itemiterator_next
  (AV PySem.F.slot_dict_itemiterator_next hT PySem.F.entry_dict_itemiterator_next ?_ (PySem.F.args_dict_itemiterator_next_1 _))))
 refine Aa (Ac ?_);refine Aa ?_;refine Aa ?_
 first | refine Aa (wpAny_typeNameOfWhole_itemiter hT (Ac ?_)) | refine Aa (wpAny_typeNameOf_itemiter hT (Ac ?_))
 refine Aa (wpAny_fieldsOf aw rfl ?_);have aW:Builtin.Dict_items.ownsTuple "dict_itemiterator"=true:=by decide
 simp only[aW,if_true];show wpAny _ _ (if (Value.ref d == Value.none)=true then _ else _) _ _ _;rw[if_neg (show ¬ ((Value.ref d == Value.none)=true) from Ao)];refine Aa (Ac ?_);refine Aa (AR cB cn ?_);rw[if_neg (by simp)];refine Aa (Ac ?_);refine Aa (wpAny_dictEpoch cB cn ?_);rw[if_neg (by simp)];refine Ac ?_;simp only[show ¬ ((i:Int)<0) from by omega,if_false,Int.toNat_natCast,Array.getElem?_eq_getElem hx];refine Aa ?_
 first | refine Aa (wpAny_typeNameOfWhole_itemiter hT (Ac ?_)) | refine Aa (wpAny_typeNameOf_itemiter hT (Ac ?_))
 refine Aa (wpAny_isOneOf_itemiter hT ?_);show wpAny _ _ (setField (.ref it) 3 (rawInt ((i:Int)+1)) >>= _) _ _ ⟨hp,g,dr,tk,os⟩;refine Aa (A2 aw (by simp) fun aq bh aU=>?_);replace aU:AC it hp aq:=aU;replace bh:aq.get? it=some { cls:=.type "dict_itemiterator",dict:=none,data:=.fields #[f0,.bool fb,.ref d,.int ((i+1:Nat):Int) 0,.int es.size 0,.int ep 0,ok,ov],slots:=#[] }:=by
  have e:((i+1:Nat):Int)=(i:Int)+1:=by omega
  rw[e]; simpa[rawInt] using bh
 have hT₁:Shared.TypeIs ⟨aq,g,dr,tk,os⟩ (.ref it) "dict_itemiterator":=⟨_,bh,rfl⟩;refine Aa (AM ?_);refine Aa (wpAny_isOneOf_itemiter hT₁ ?_);refine Aa (wpAny_isOneOf_itemiter hT₁ ?_);show wpAny _ _ (Builtin.Dict_items.pairFromOwner (.ref it) 6 es[i].key es[i].val) _ _ ⟨aq,g,dr,tk,os⟩;unfold Builtin.Dict_items.pairFromOwner;refine Aa (wpAny_newTuple ?_);have aP:(aq.push { cls:=.type "tuple",data:=.seq #[es[i].key,es[i].val] }).get? it=some { cls:=.type "dict_itemiterator",dict:=none,data:=.fields #[f0,.bool fb,.ref d,.int ((i+1:Nat):Int) 0,.int es.size 0,.int ep 0,ok,ov],slots:=#[] }:=Ae _ bh;generalize hh₂:aq.push { cls:=.type "tuple",data:=.seq #[es[i].key,es[i].val] }=bu at aP;have dZ:aq.objs.size=hp.objs.size:=aU.1;have iw:it<hp.objs.size:=Aj aw;have dU:bu.get? hp.objs.size=some { cls:=.type "tuple",data:=.seq #[es[i].key,es[i].val] }:=by rw[<- hh₂,<- dZ]; exact Ak _ rfl
 have hk₂:∀b o,b≠it->hp.get? b=some o->bu.get? b=some o:=fun b o hb e=>by rw[<- hh₂]; exact Ae _ (aU.extBut b o hb e)
 show wpAny _ _ (Builtin.Dict_items.ownedTupleIsFree (.ref it) >>= _) _ _ ⟨bu,g,dr,tk,os⟩;rw[dZ];clear hh₂ bh aU hT₁ dZ aq;have free:∀(E':Value->Shared->Prop) (R:Value->Shared->Prop),(∀h',II h' it d (i+1) es.size ep->h'.get? hp.objs.size=some { cls:=.type "tuple",data:=.seq #[es[i].key,es[i].val] }->
   (∀b o,b≠it->hp.get? b=some o->h'.get? b=some o)->R (.ref hp.objs.size) ⟨h',g,dr,tk,os⟩)->wpAny (model prog w) A.in1 (do
    let dW:=[<- field (.ref it) 6,<- field (.ref it) (6+1)]
    setField (.ref it) 6 es[i].key; setField (.ref it) (6+1) es[i].val
    setField (.ref it) 0 (rawInt hp.objs.size); setField (.ref it) 1 (.bool false)
    letGo dW [.ref hp.objs.size]
    return .ref hp.objs.size) R E' ⟨bu,g,dr,tk,os⟩:=by
  intro E' R hR;refine Aa (AN aP rfl (x:=ok) rfl ?_);refine Aa (AN aP rfl (x:=ov) rfl ?_);refine Aa (A2 aP (by simp) fun cT bT hs₃=>?_);replace hs₃:AC it bu cT:=hs₃;refine Aa (A2 bT (by simp) fun jn jq df=>?_);replace df:AC it cT jn:=df;refine Aa (A2 jq (by simp) fun ju jF de=>?_);replace de:AC it jn ju:=de;refine Aa (A2 jF (by simp) fun gW eQ dm=>?_);replace dm:AC it ju gW:=dm;replace eQ:gW.get? it=some { cls:=.type "dict_itemiterator",dict:=none,data:=.fields #[rawInt hp.objs.size,.bool false,.ref d,.int ((i+1:Nat):Int) 0,.int es.size 0,.int ep 0,es[i].key,es[i].val],slots:=#[] }:=eQ;refine Aa (wpAny_letGo (Ac (hR gW ⟨_,_,_,_,.inr ⟨_,rfl⟩,eQ⟩ ?_ ?_)))
  ·exact dm.extBut _ _ (A1 iw) (de.extBut _ _ (A1 iw) (df.extBut _ _ (A1 iw) (hs₃.extBut _ _ (A1 iw) dU)))
  ·exact fun b o hb e=>dm.extBut b o hb (de.extBut b o hb (df.extBut b o hb (hs₃.extBut b o hb (hk₂ b o hb e))))
 refine Aa ?_;unfold Builtin.Dict_items.ownedTupleIsFree;refine Aa (AN aP rfl (x:=f0) rfl ?_);rcases qa with rfl | ⟨a,rfl⟩
 ·refine Ac ?_
  simp only[if_true];exact free _ _ fun h' x1 x2 x3=>Ac ⟨_,rfl,Ac (hQ h' x1 x2 x3)⟩
 ·dsimp only[rawInt]
  refine Aa (zhU ?_);cases hal:bu.get? ((a:Int)).toNat with
  | none=>
   simp only[Option.isNone_none,if_true];refine Ac ?_;simp only[if_true];exact free _ _ fun h' x1 x2 x3=>Ac ⟨_,rfl,Ac (hQ h' x1 x2 x3)⟩
  | some oa=>
   simp only[Option.isNone_some,Ai,if_false];refine Aa (AN aP rfl (x:=.bool fb) rfl ?_);refine wpAny_ite_split (fun _=>?_) (fun _=>?_)
   ·refine Aa (A2 aP (by simp) fun cT bT hs₃=>?_)
    replace hs₃:AC it bu cT:=hs₃;refine Ac ?_;simp only[Ai,if_false];refine Ac (Ac ⟨_,rfl,Ac (hQ cT ⟨_,_,_,_,.inr ⟨a,rfl⟩,bT⟩ ?_ ?_)⟩)
    ·exact hs₃.extBut _ _ (A1 iw) dU
    ·exact fun b o hb e=>hs₃.extBut b o hb (hk₂ b o hb e)
   ·refine Ac ?_
    simp only[Ai,if_false];exact Ac (Ac ⟨_,rfl,Ac (hQ bu ⟨_,_,_,_,.inr ⟨a,rfl⟩,aP⟩ dU hk₂)⟩)
def iend {Q:Option Value->Shared->Prop} (hh:A.handled=none) (aw:II s.heap it d es.size es.size ep) (hm:IsD s.heap d es ep)
  (hQ:∀h',Heap.ExtBut it s.heap h'->Q none { s with heap:=h' }):wpAny (model prog w) A (pyNext (.ref it)) Q E s:=by
 obtain⟨f0,fb,ok,ov,qa,aw⟩:=aw;obtain⟨od,cB,bJ,cn⟩:=id hm;have hT:s.TypeIs (.ref it) "dict_itemiterator":=⟨_,aw,rfl⟩;unfold pyNext;refine Aa (wpAny_attempt (AO (name:=A3 "__next__") hT PySem.F.slot_dict_itemiterator_next
  (AV PySem.F.slot_dict_itemiterator_next hT PySem.F.entry_dict_itemiterator_next ?_ (PySem.F.args_dict_itemiterator_next_1 _))))
 refine Aa (Ac ?_);refine Aa ?_;refine Aa ?_
 first | refine Aa (wpAny_typeNameOfWhole_itemiter hT (Ac ?_)) | refine Aa (wpAny_typeNameOf_itemiter hT (Ac ?_))
 refine Aa (wpAny_fieldsOf aw rfl ?_);have aW:Builtin.Dict_items.ownsTuple "dict_itemiterator"=true:=by decide
 simp only[aW,if_true];show wpAny _ _ (if (Value.ref d == Value.none)=true then _ else _) _ _ s;rw[if_neg (show ¬ ((Value.ref d == Value.none)=true) from Ao)];refine Aa (Ac ?_);refine Aa (AR cB cn ?_);rw[if_neg (by simp)];refine Aa (Ac ?_);refine Aa (wpAny_dictEpoch cB cn ?_);rw[if_neg (by simp)];refine Ac ?_;simp only[show ¬ ((es.size:Int)<0) from by omega,if_false,Int.toNat_natCast,Array.getElem?_eq_none (Af es.size)];refine Aa ?_
 first | refine Aa (wpAny_typeNameOfWhole_itemiter hT (Ac ?_)) | refine Aa (wpAny_typeNameOf_itemiter hT (Ac ?_))
 show wpAny _ _ (setField (.ref it) 2 .none >>= _) _ _ s;refine Aa (wpAny_setField aw rfl (by simp) ?_);show wpAny _ _ (newExc (.type "StopIteration") [] >>= _) _ _ _;refine Aa ?_;simp only[newExc,newTuple];refine Aa (AI ?_ (by size_fits));refine Aa (m:=firstArgMember _ _) (wpAny_of_eq (a:=Value.none) (by first | rfl | (simp only[firstArgMember]; rfl)) ?_);refine AI ?_ (by size_fits);simp only[raiseNew];refine Aa (wpAny_handled ?_);rw[show A.in1.handled=none from hh];refine Aa (Ac (wpAny_throw ?_));refine Aa (wpAny_isInstance (T:="StopIteration") (b:=true) ⟨_,Ak _ rfl,rfl⟩ isSubtype_stop ?_);exact Ac (hQ _ (((AG ..).extBut.push _).push _))
def Tups (h:Heap) (es:Array DictEntry) (ts:List Addr) (i:Nat):Prop:=ts.length=i/\ts.Nodup/\∀(j:Nat) t,ts[j]?=some t->∃e,es[j]?=some e/\h.get? t=some { cls:=.type "tuple",data:=.seq #[e.key,e.val] }
def znm {S:Addr}{res:Value}{R:Result->Shared->Prop}{z:Nat} (hh:A.handled=none) (hn:es.size<=sizeLine) (nH:S≠it) (gD:S≠d) (kK:it≠d) :
  ∀(k i:Nat) (s:Shared) (ts:List Addr) (c:Nat),es.size - i=k->i<=es.size->II s.heap it d i es.size ep->IsD s.heap d es ep->
   s.heap.get? S=some { cls:=.type "list",dict:=none,data:=.seq (ts.map Value.ref).toArray c,slots:=#[] }->Tups s.heap es ts i->z<=s.heap.objs.size->(∀t∈ts,z<=t)->
   (∀h' tk gQ c',h'.get? S=some { cls:=.type "list",dict:=none,data:=.seq (gQ.map Value.ref).toArray c',slots:=#[] }->Tups h' es gQ es.size->(∀t∈gQ,z<=t)->
    (∀b o,b≠S->b≠it->s.heap.get? b=some o->h'.get? b=some o)->R (.ok (.ret res)) { s with heap:=h',toks:=tk })->
   codeAny (model prog w) A (.builtin "list.extend.loop" ⟨[.ref S,.ref it,res],[]⟩) R s:=by
 have tkeep:∀{h h':Heap} {ts:List Addr} {i:Nat} {oS oI:Obj},h.get? S=some oS->oS.cls=.type "list"->h.get? it=some oI->oI.cls=.type "dict_itemiterator"->(∀b o,b≠S->b≠it->h.get? b=some o->h'.get? b=some o)->Tups h es ts i->Tups h' es ts i:=by
  intro h h' ts i oS oI hS cS hI cI kk tt;refine⟨tt.1,tt.2.1,fun j t e=>?_⟩;obtain⟨en,e1,e2⟩:=tt.2.2 j t e;refine⟨en,e1,kk _ _ (fun y=>?_) (fun y=>?_) e2⟩
  ·rw[y,hS] at e2; rw[Al e2] at cS; exact absurd (show Value.type "tuple"=Value.type "list" from cS) (by decide)
  ·rw[y,hI] at e2; rw[Al e2] at cI; exact absurd (show Value.type "tuple"=Value.type "dict_itemiterator" from cI) (by decide)
 intro k
 induction k with
 | zero=>
  intro i s ts c hk hi jL hm hS ht hz mF hR;have hin:i=es.size:=by omega
  subst hin;obtain⟨f0,fb,k0,v0,_,nu⟩:=id jL;refine codeAny_builtin PySem.F.entry_extend_loop ?_;rw[Around.under_plainId PySem.F.plain_extend_loop _];show wpAny _ A.in1 (pyNext (.ref it) >>= _) _ _ s;refine Aa (iend (A:=A.in1) hh jL hm fun h' eb=>?_);exact Ac (hR h' s.toks ts c (eb _ _ nH hS) (tkeep hS rfl nu rfl (fun b o _ hb e=>eb b o hb e) ht) mF fun b o _ hb e=>eb b o hb e)
 | succ k ih=>
  intro i s ts c hk hi jL hm hS ht hz mF hR;have hlt:i<es.size:=by omega
  obtain⟨f0,fb,k0,v0,_,nu⟩:=id jL;refine codeAny_builtin PySem.F.entry_extend_loop ?_;rw[Around.under_plainId PySem.F.plain_extend_loop _];show wpAny _ A.in1 (pyNext (.ref it) >>= _) _ _ s;refine Aa (iitem (A:=A.in1) jL hm hlt fun h1 qH iz k1=>?_);have fq:=k1 S _ nH hS;have hsz:s.heap.objs.size<h1.objs.size:=Aj iz;obtain⟨yB,yJ,gU,yu,_,nB⟩:=id qH;have sI:Tups h1 es (ts++[s.heap.objs.size]) (i+1):=by
   have t0:=tkeep hS rfl nu rfl (fun b o _ hb e=>k1 b o hb e) ht;refine⟨by rw[Aq,ht.1]; rfl,?_,fun j t e=>?_⟩
   ·rw[List.nodup_append]
    refine⟨ht.2.1,by simp,fun a ha b hb=>?_⟩;have hb':b=s.heap.objs.size:=by simpa using hb
    obtain⟨j,hj⟩:=List.getElem?_of_mem ha;obtain⟨en,_,e2⟩:=ht.2.2 j a hj;rw[hb'];exact As (Aj e2)
   ·by_cases hj:j<ts.length
    ·rw[List.getElem?_append_left hj] at e
     exact t0.2.2 j t e
    ·have uz:j=i:=by
      have:=(List.getElem?_eq_some_iff.mp e).1;rw[Aq] at this;simp at this;have:=ht.1;omega
     subst uz;rw[List.getElem?_append_right (by omega),ht.1,Nat.sub_self] at e;have:t=s.heap.objs.size:=(Al e).symm;rw[this];exact⟨_,Array.getElem?_eq_getElem hlt,iz⟩
  show wpAny _ A.in1 (updateSeq S (·.push (.ref s.heap.objs.size)) >>= _) _ _ _;refine Aa ?_;have gd:∀b o,b≠S->h1.get? b=some o->(h1.update S (Ax (·.push (Value.ref s.heap.objs.size)))).get? b=some o:=fun b o hb e=>(AE _ _ (Ne.symm hb)).trans e;have e0:((ts.map Value.ref).toArray.push (.ref s.heap.objs.size))=((ts++[s.heap.objs.size]).map Value.ref).toArray:=by simp
  obtain⟨c2,im⟩:∃c2,(h1.update S (Ax (·.push (Value.ref s.heap.objs.size)))).get? S=some { cls:=.type "list",dict:=none,data:=.seq ((ts++[s.heap.objs.size]).map Value.ref).toArray c2,slots:=#[] }:=by
   rw[<- e0];exact⟨_,AU _ fq rfl⟩
  refine wpAny_updateSeq fq rfl (Ac ⟨plainId_quiet PySem.F.plain_extend_loop _,ih (i+1) _ (ts++[s.heap.objs.size]) c2 (by omega) hlt (qH.at fun o e=>gd _ o (Ne.symm nH) e) ((hm.at fun o e=>k1 _ o (Ne.symm kK) e).at fun o e=>gd _ o (Ne.symm gD) e) im (tkeep fq rfl nB rfl (fun b o hb _ e=>gd b o hb e) sI) ?_ ?_ fun h' tk gQ c' e1 e2 e3 e4=>?_⟩)
   (by simp only[Ag,Ab]; rw[ht.1]; omega) (by simp only[Array.size_push,Ag,Ab]; rw[ht.1]; omega)
  ·have:(h1.update S (Ax (·.push (Value.ref s.heap.objs.size)))).objs.size=h1.objs.size:=(AG ..).1
   show z<=(h1.update S (Ax (·.push (Value.ref s.heap.objs.size)))).objs.size;rw[this];omega
  ·intro t ht'
   rcases List.mem_append.mp ht' with y | y
   ·exact mF t y
   ·have:t=s.heap.objs.size:=by simpa using y
    rw[this];exact hz
  ·exact hR h' tk gQ c' e1 e2 e3 fun b o hb hi' e=>e4 b o hb hi' (gd b o hb (k1 b o hi' e))
end
end Dk
end
section
namespace Dk
open PySem PySem.Spec PyProof.Rows
section
variable {prog:Program}{w:World}{A:Around}{E:Value->Shared->Prop}{s:Shared}{r d:Addr}{ep:Nat}{es:Array DictEntry}
def zfZ {Q:Bool->Shared->Prop} (hT:s.TypeIs (.ref r) "dict_items") (h:Q false s):wpAny (model prog w) A (Builtin.List.listLengthHint (.ref r)) Q E s:=by
 unfold Builtin.List.listLengthHint;refine Aa (wpAny_specialOf hT PySem.F.slot_dict_items_len.lookup ?_);generalize kK:("dict_items.__len__":String)=id0
 wp_delta
 rw[show splitId id0=some ("dict_items","__len__") from by subst kK; decide +kernel];subst kK;refine Aa (wpAny_isInstance (T:="dict_items") (b:=true) hT (by rw[isSubtype_type]; kernel_rfl) ?_);refine wpAny_ite_split (fun eM=>absurd eM (by decide)) (fun _=>?_);refine wpAny_ite_split (fun _=>?_) (fun eM=>absurd (by decide +kernel) eM);refine Aa (wpAny_typeOf hT ?_);exact Ac h
def zdC {R:Result->Shared->Prop}{z:Nat} (hh:A.handled=none) (hv:s.heap.IsItemsView r d) (hm:IsD s.heap d es ep) (hn:es.size<=sizeLine) (S:Addr) (jZ:S≠r) (gD:S≠d) (hz:z<=s.heap.objs.size) (res:Value) (jo:Nat) (hS:s.heap.get? S=some { cls:=.type "list",data:=.seq #[] jo })
  (hR:∀h' tk ts c',(∀b o,b≠S->s.heap.get? b=some o->h'.get? b=some o)->h'.get? S=some { cls:=.type "list",dict:=none,data:=.seq (ts.map Value.ref).toArray c',slots:=#[] }->Tups h' es ts es.size->(∀t∈ts,z<=t)->R (.ok (.ret res)) { s with heap:=h',toks:=tk }) :
  wpAny (model prog w) A.in1 (Builtin.List.listExtendWith (.ref S) (.ref r) res)
   (fun fin s'=>match fin with | .done f=>R (.ok f) s' | .again c'=>c'.quiet=true/\codeAny (model prog w) A c' R s') (fun e s'=>R (.error e) s') s:=by
 have hSI:S≠s.heap.objs.size:=As (Aj hS);have w9:s.heap.objs.size≠d:=A1 hm.lt;have key:∀(h:Heap) (gJ tk:Nat),II h s.heap.objs.size d 0 es.size ep->s.heap.objs.size<=h.objs.size->(∀b o,b≠S->s.heap.get? b=some o->h.get? b=some o)->
   h.get? S=some { cls:=.type "list",data:=.seq #[] gJ }->codeAny (model prog w) A (.builtin "list.extend.loop" ⟨[.ref S,.ref s.heap.objs.size,res],[]⟩) R { s with heap:=h,toks:=tk }:=by
  intro h gJ tk hst fM hk cy;refine znm (z:=z) hh hn hSI gD w9 es.size 0 _ [] gJ rfl (AQ _) hst (hm.at fun o e=>hk _ o (Ne.symm gD) e) cy ⟨rfl,List.nodup_nil,fun j t e=>by simp at e⟩ (AA hz fM) (fun t ht=>nomatch ht) fun h' md gQ c' e1 e2 e3 e4=>?_;exact hR h' md gQ c' (fun b o hb e=>e4 b o hb (fun y=>absurd (Aj e) (by rw[y]; exact Nat.lt_irrefl _)) (hk b o hb e)) e1 e2 e3
 unfold Builtin.List.listExtendWith;refine Aa (wpAny_typeOf (T:="dict_items") hv.typeIs ?_);have h1:Builtin.List.listSameRef (.ref S) (.ref r)=false:=by simp[Builtin.List.listSameRef,jZ]
 have h2:(Value.type "dict_items" == Value.type "list")=false:=by decide
 have h3:(Value.type "dict_items" == Value.type "tuple")=false:=by decide
 simp only[h1,h2,h3,Bool.or_false,Ai,if_false];refine Aa (iiter hv hm ?_);have cy:=Ae { cls:=.type "dict_itemiterator",data:=.fields #[.none,.bool false,.ref d,.int 0 0,.int es.size 0,.int ep 0,.none,.none] } hS;have st:II (s.heap.push { cls:=.type "dict_itemiterator",data:=.fields #[.none,.bool false,.ref d,.int 0 0,.int es.size 0,.int ep 0,.none,.none] }) s.heap.objs.size d 0 es.size ep:=⟨_,_,_,_,.inl rfl,Ak _ rfl⟩;have vB:Shared.TypeIs { s with heap:=s.heap.push { cls:=.type "dict_itemiterator",data:=.fields #[.none,.bool false,.ref d,.int 0 0,.int es.size 0,.int ep 0,.none,.none] } } (.ref r) "dict_items":=by
  obtain⟨o,ho,hc,_⟩:=hv;exact⟨o,Ae _ ho,hc⟩
 refine Aa (AM (zfZ vB ?_));have hsz:∀o:Obj,s.heap.objs.size<=(s.heap.push o).objs.size:=fun o=>by rw[Heap.size_push]; omega
 refine wpAny_ite_split (fun _=>?_) (fun _=>Ac ⟨plainId_quiet PySem.F.plain_extend_loop _,key _ jo _ st (hsz _) (fun b o _ e=>Ae _ e) cy⟩);refine Aa (wpAny_rule ?_);refine Aa ?_;show wpAny _ _ (updateSeq S (·.push .none) >>= fun _=>updateSeq S (·.pop)) _ _ _;refine Aa (wpAny_updateSeq cy rfl ?_);have dg:=AU (Ax (·.push Value.none)) cy rfl;refine wpAny_updateSeq (hz:=by seq_fits) dg rfl ?_;have jx:=AU (Ax (·.pop)) dg rfl;refine Ac ⟨plainId_quiet PySem.F.plain_extend_loop _,key _ _ _ ?_ ?_ (fun b o hb e=>?_) jx⟩
 ·exact (st.at fun o e=>(AE _ _ hSI).trans e).at fun o e=>(AE _ _ hSI).trans e
 ·rw[(AG ..).1,(AG ..).1]; exact hsz _
 ·exact (AE _ _ (Ne.symm hb)).trans ((AE _ _ (Ne.symm hb)).trans (Ae _ e))
def zgz {R:Result->Shared->Prop}{z:Nat} (hh:A.handled=none) (hv:s.heap.IsItemsView r d) (hm:IsD s.heap d es ep) (hn:es.size<=sizeLine) (S:Addr) (jZ:S≠r) (gD:S≠d) (hz:z<=s.heap.objs.size) (hS:s.heap.get? S=some { cls:=.type "list",data:=.seq #[] })
  (hR:∀h' tk ts c',(∀b o,b≠S->s.heap.get? b=some o->h'.get? b=some o)->h'.get? S=some { cls:=.type "list",dict:=none,data:=.seq (ts.map Value.ref).toArray c',slots:=#[] }->Tups h' es ts es.size->(∀t∈ts,z<=t)->R (.ok (.ret .none)) { s with heap:=h',toks:=tk }) :
  wpAny (model prog w) A.in1 (Builtin.«list.__init__» ⟨[.ref S,.ref r],[]⟩)
   (fun fin s'=>match fin with | .done f=>R (.ok f) s' | .again c'=>c'.quiet=true/\codeAny (model prog w) A c' R s') (fun e s'=>R (.error e) s') s:=by
 show wpAny _ _ (do let dW <- Builtin.List.listItems (.ref S); Builtin.List.listUpdate (.ref S) (fun _=>#[]); letGo dW.toList.reverse; Builtin.List.listExtendWith (.ref S) (.ref r) .none) _ _ s;refine Aa ?_;unfold Builtin.List.listItems;refine Aa (wpAny_seqItems hS rfl (Ac ?_));show wpAny _ _ (updateSeq S (fun _=>#[]) >>= fun _=>letGo (#[]:Array Value).toList.reverse >>= fun _=>Builtin.List.listExtendWith (.ref S) (.ref r) .none) _ _ s;refine Aa (wpAny_updateSeq hS rfl ?_);have dg:=AU (Ax (fun _=>(#[]:Array Value))) hS rfl;have gd:∀b o,b≠S->s.heap.get? b=some o->(s.heap.update S (Ax (fun _=>(#[]:Array Value)))).get? b=some o:=
  fun b o hb e=>(AE _ _ (Ne.symm hb)).trans e
 refine Aa (wpAny_letGo ?_);obtain⟨o,ho,hc,hd⟩:=id hv;refine zdC (s:={ s with heap:=s.heap.update S (Ax (fun _=>(#[]:Array Value))) }) hh ⟨o,gd _ _ (Ne.symm jZ) ho,hc,hd⟩ (hm.at fun o e=>gd _ o (Ne.symm gD) e) hn S jZ gD (by show z<=(s.heap.update S (Ax (fun _=>(#[]:Array Value)))).objs.size; rw[(AG ..).1]; exact hz) .none _ dg fun h' tk ts c' hk dQ gO h4=>?_;exact hR h' tk ts c' (fun b o hb e=>hk b o hb (gd b o hb e)) dQ gO h4
def zgg {Q:Value->Shared->Prop} (hh:A.handled=none) (hv:s.heap.IsItemsView r d) (hm:IsD s.heap d es ep) (hn:es.size<=sizeLine)
  (hQ:∀h' tk ts c',(∀b o,s.heap.get? b=some o->h'.get? b=some o)->h'.get? s.heap.objs.size=some { cls:=.type "list",dict:=none,data:=.seq (ts.map Value.ref).toArray c',slots:=#[] }->Tups h' es ts es.size->(∀t∈ts,s.heap.objs.size<t)->Q (.ref s.heap.objs.size) { s with heap:=h',toks:=tk }) :
  wpAny (model prog w) A (call (.type "list") [.ref r]) Q E s:=by
 refine callType_codes (Q₁:=fun obj am=>obj=.ref s.heap.objs.size/\am={ s with heap:=s.heap.push { cls:=.type "list",data:=.seq #[] } }) PySem.F.called_list (PySem.F.typeCall_list_1 _) PySem.F.entry_list_init
  (code_list_new _ ⟨rfl,rfl⟩) fun obj am aq=>?_
 obtain⟨rfl,rfl⟩:=aq;have hS:(s.heap.push { cls:=.type "list",data:=.seq #[] }).get? s.heap.objs.size=some { cls:=.type "list",data:=.seq #[] }:=Ak _ rfl;obtain⟨o,ho,hc,hd⟩:=id hv;refine⟨⟨_,hS,rfl⟩,PySem.F.args_list_init_2 _ _,zgz (A:=A.in1) (z:=s.heap.objs.size+1) hh ⟨o,Ae _ ho,hc,hd⟩ (hm.at fun o e=>Ae _ e) hn _ (A1 (Aj ho)) (A1 hm.lt) (by show _<=(s.heap.push _).objs.size; rw[Heap.size_push]; exact Af _) hS fun h' tk ts c' hk dQ gO h4=>?_⟩;exact⟨rfl,hQ h' tk ts c' (fun b o e=>hk b o (As (Aj e)) (Ae _ e)) dQ gO fun t ht=>h4 t ht⟩
end
end Dk
namespace L2
open PySem PySem.Spec PyProof.Rows
section
variable {X:Cx}{aa:List (Addr×Obj)}{σ:St}{H:Hp}{s:Shared}
def adopts:∀(rows:List (Addr×List V)) (H:Hp),Inv X aa σ H s->(rows.map (·.1)).Nodup->(∀r∈rows,FpOk X aa H r.1/\X.s₀.heap.objs.size<=r.1/\r.2.length<=sizeLine/\∃ah:List Value,Vals r.2 ah/\IsTup s.heap r.1 ah.toArray)->
  ∃H',Inv X aa σ H' s/\Same H H'/\∀r∈rows,H' r.1=some (.tup r.2)
 | [],H,I,_,_=>⟨H,I,Same.refl _,fun r hr=>nomatch hr⟩
 | r::rest,H,I,hn,h=>by
  obtain⟨⟨f0,f1,f2,f3,f4,f5⟩,f6,hz,ah,rv,ti⟩:=h r Au;have fU:(r.1::rest.map (·.1)).Nodup:=hn;rw[List.nodup_cons] at fU;have I1:=I.adopt (o:=.tup r.2) f0 f6 f1 f4 f5 ⟨hz,ah,rv,ti⟩;have s1:=Same.new (o:=.tup r.2) f0;obtain⟨H',I',sm,g⟩:=adopts rest (upd H r.1 (.tup r.2)) I1 fU.2 fun q hq=>by
   obtain⟨⟨g0,g1⟩,g2⟩:=h q (Aw _ hq);refine⟨⟨?_,g1⟩,g2⟩;rw[zh (fun y=>fU.1 (by rw[<- y]; exact List.mem_map.mpr ⟨q,hq,rfl⟩))];exact g0
  refine⟨H',I',s1.trans sm,fun q hq=>?_⟩;rcases List.mem_cons.mp hq with rfl | hq
  ·exact sm _ _ upd_same
  ·exact g q hq
end
section
variable {X:Cx}
def itO (v d:Addr):HO:=.ext fun h=>h.IsItemsView v d
def ziw:V->List V->Hp->VK->Prop:=fun x vs H Q=>∃d kvs,x=.ref d/\vs=[]/\Rd H d (.dT kvs)/\∀v,H v=none->Q (.ref v) (upd H v (itO v d))
def mt_itemsT:MtR X "dict.items" ziw:=by
 intro aa s σ H x vs v us Q I rx rv h;obtain⟨d,kvs,rfl,rfl,hd,q⟩:=h;cases rx;obtain rfl:=rv.zero;obtain⟨z,hs,ys,rel,o,es,ep,h1,h2,h3,h4,h5⟩:=(show zx X.prog X.w H s.heap d (.dT kvs) from hd.ok I.hok);have hT:s.TypeIs (.ref d) "dict":=⟨o,h1,h2.1⟩;have mm:MeetsIn X.prog X.w (Builtin.«dict.items» ⟨[.ref d],[]⟩) (fun _ R s=>s.TypeIs (.ref d) "dict"/\R (.ok (.ret (.ref s.heap.objs.size))) { s with heap:=s.heap.push { cls:=.type "dict_items",data:=.fields #[.ref d] } }):=
  .of_wp fun A R s ⟨hT,h⟩=>by
   unfold Builtin.«dict.items»;refine Aa ?_;unfold Builtin.Dict.noArgs;refine Aa (wpAny_notOrdered_dict hT ?_);show wpAny _ _ (pure d) _ _ s;refine Ac ?_;show wpAny _ _ (Builtin.Dict.showsAll d >>= _) _ _ s;unfold Builtin.Dict.showsAll;rw[if_neg (by rw[hs]; exact Ao)];refine Aa (Ac ?_);exact Aa (AI (Ac ⟨_,rfl,h⟩))
 refine call_meetsIn PySem.F.slot_dict_items hT PySem.F.entry_dict_items (PySem.F.args_dict_items_1 _) mm ⟨hT,?_⟩;refine⟨.ref s.heap.objs.size,_,I.laid (t':=s.toks) (o:=itO s.heap.objs.size d) (fun b ob q=>Ae _ q) (Af _) ?_,rfl,q _ (I.hok.fresh (Af _))⟩;refine⟨⟨_,Ak _ rfl,rfl,rfl⟩,⟨_,Ak _ rfl⟩,fun h1 h2 p k=>?_⟩;obtain⟨o,ho,c⟩:=p;exact⟨o,k o ho,c⟩
def zkT (to:TE):TE:=fun σ H Q=>to σ H fun x H1=>ziw x [] H1 Q
def zdU {o:Expr}{to:TE}{aI au:Pos} (ho:PE X o to) (aZ:attributeBase o "items" X.env (eval o X.env)=eval o X.env:=by rfl) (bE:(aI.endLine == au.line)=true:=by rfl):PE X (.Call (.Attribute o "items" aI) [] [] au) (zkT to):=by
 intro aa s σ H Q I h;refine wpAny_Call_method0_late aZ bE (thn (ho aa s σ H _ I h) fun v s1 ⟨x,H1,I1,r1,q1⟩=>?_);have q2:=q1;obtain⟨d,kvs,rfl,_,hd,_⟩:=q1;cases r1;obtain⟨_,_,_,_,ob,_,_,e,ex,_⟩:=(show zx X.prog X.w H1 s1.heap d (.dT kvs) from hd.ok I1.hok);exact⟨"dict","dict.items",PySem.F.plainAttrs_dict,PySem.F.slot_dict_items,PySem.F.type_dict_items,⟨ob,e,ex.1⟩,(fun a z=>by cases z; exact⟨ob,e,ex.2.1⟩),Calls.callWith_builtin rfl (PySem.evalArgs_none (mt_itemsT aa s1 σ H1 (.ref d) [] (.ref d) [] Q I1 rfl .nil q2))⟩
def zaD (hc:X.calm=true):zX X (.type "list") (fun xs H Q=>∃v d kvs,xs=[.ref v]/\H v=some (itO v d)/\Rd H d (.dT kvs)/\
  ∀H' (l:Addr) (ts:List Addr),Same H H'->H l=none->H' l=some (.lst (ts.map V.ref))->Paired (fun t (kv:List Key×V)=>∃b,H' t=some (.tup [.ref b,kv.2])/\H' b=some (.tup (kv.1.map kV))) ts kvs->Q (.ref l) H'):=by
 intro aa s σ H xs us Q I r h;obtain⟨v,d,kvs,rfl,hv,hd,q⟩:=h;obtain⟨u,rfl,ru⟩:=vals1 r;cases ru;have ij:s.heap.IsItemsView v d:=(show zx X.prog X.w H s.heap v (itO v d) from I.hok v _ hv).1;obtain⟨z,hs,ys,rel,o,es,ep,h1,h2,h3,h4,h5⟩:=(show zx X.prog X.w H s.heap d (.dT kvs) from hd.ok I.hok);have hsz:es.size=kvs.length:=by
  have:=congrArg List.length h4;rw[Ab,<- AX rel] at this
  simpa using this
 refine Dk.zgg (I.ok.hd hc) ij ⟨o,h1,h2,h3⟩ (by rw[hsz]; exact z) fun h' tk ts c' kk hl tt iy=>?_;have hL:H s.heap.objs.size=none:=I.hok.fresh (Af _);have vv:∀ts:List Addr,Vals (ts.map V.ref) (ts.map Value.ref):=fun ts=>by
  induction ts with
  | nil=>exact .nil
  | cons b bs ih=>exact .cons rfl ih
 have I1:Inv X aa σ (upd H s.heap.objs.size (.lst (ts.map V.ref))) { s with heap:=h',toks:=tk }:=I.laid kk (Af _) ⟨by rw[Ab,tt.1,hsz]; exact z,_,c',vv ts,hl⟩;have s1:=Same.new (o:=.lst (ts.map V.ref)) hL;have hlen:ts.length=kvs.length:=by rw[tt.1,hsz]
 have row:∀(j:Nat) (t:Addr) (kv:List Key×V),ts[j]?=some t->kvs[j]?=some kv->∃(y:List Key×Addr×Value),H y.2.1=some (.tup (kv.1.map kV))/\RelV kv.2 y.2.2/\ys[j]?=some y/\h'.get? t=some { cls:=.type "tuple",data:=.seq #[.ref y.2.1,y.2.2] }:=by
  intro j t kv e1 e2;obtain⟨en,g1,g2⟩:=tt.2.2 j t e1;obtain⟨y,g3,g4,g5⟩:=zhR rel e2;obtain⟨y',g6,g7⟩:=kt_at rel e2;rw[g3] at g6;obtain rfl:=Al g6;have g8:es.toList[j]?=some en:=by simpa using g1
  rw[h4,Am,g3] at g8;simp only[Option.map_some,Option.some.injEq] at g8;refine⟨y,g7,g5,g3,?_⟩;rw[g2,<- g8]
  rfl
 let rows:List (Addr×List V):=(ts.zip (ys.zip kvs)).map fun q=>(q.1,[.ref q.2.1.2.1,q.2.2.2])
 have hyl:ys.length=kvs.length:=(AX rel).symm;have u4:rows.map (·.1)=ts:=by
  show ((ts.zip (ys.zip kvs)).map fun q=>(q.1,[V.ref q.2.1.2.1,q.2.2.2])).map (·.1)=ts;rw[Az];show (ts.zip (ys.zip kvs)).map Prod.fst=ts;rw[List.map_fst_zip];rw[List.length_zip];omega
 have at_row:∀(j:Nat) (t:Addr) (kv:List Key×V) (y:List Key×Addr×Value),ts[j]?=some t->kvs[j]?=some kv->ys[j]?=some y->(t,[V.ref y.2.1,kv.2])∈rows:=by
  intro j t kv y e1 e2 e3;refine List.mem_map.mpr ⟨(t,y,kv),At (i:=j) ?_,rfl⟩;rw[List.getElem?_zip_eq_some];exact⟨e1,by rw[List.getElem?_zip_eq_some]; exact⟨e3,e2⟩⟩
 obtain⟨H',I',sm,g⟩:=adopts rows _ I1 (by rw[u4]; exact tt.2.1) fun r hr=>by
  obtain⟨⟨t,y,kv⟩,hq,rfl⟩:=List.mem_map.mp hr;obtain⟨j,hj⟩:=List.getElem?_of_mem hq;rw[List.getElem?_zip_eq_some] at hj;obtain⟨j1,j2⟩:=hj;rw[List.getElem?_zip_eq_some] at j2;obtain⟨j2,j3⟩:=j2;obtain⟨y',g1,g2,g3,g4⟩:=row j t kv j1 j3;rw[j2] at g3;obtain rfl:=Al g3;have hlt:s.heap.objs.size<t:=iy t (At j1);refine⟨I.fpOk (Nat.le_of_lt hlt) ?_,AA I.sz (Nat.le_of_lt hlt),by show 2<=sizeLine; rw[sizeLine_eq]; omega,[.ref y.2.1,y.2.2],.cons rfl (.cons g2 .nil),⟨_,g4,rfl,_,rfl⟩⟩;rw[zh (A1 hlt)];exact I.hok.fresh (Nat.le_of_lt hlt)
 have key:∀(a:List Addr) (b:List (List Key×V)),a.length=b.length->(∀(j:Nat) t kv,a[j]?=some t->b[j]?=some kv->∃c,H' t=some (.tup [.ref c,kv.2])/\H' c=some (.tup (kv.1.map kV)))->Paired (fun t (kv:List Key×V)=>∃b,H' t=some (.tup [.ref b,kv.2])/\H' b=some (.tup (kv.1.map kV))) a b:=by
  intro a
  induction a with
  | nil=>
   intro b hb _;cases b with
   | nil=>exact .nil
   | cons x y=>simp at hb
  | cons x a ih=>
   intro b hb f;cases b with
   | nil=>simp at hb
   | cons y b=>exact .cons (f 0 x y rfl rfl) (ih b (by simpa using hb) fun j t kv e1 e2=>f (j+1) t kv (by simpa using e1) (by simpa using e2))
 refine⟨.ref s.heap.objs.size,H',I',rfl,q H' _ ts (s1.trans sm) hL (sm _ _ upd_same) (key _ _ hlen fun j t kv e1 e2=>?_)⟩;obtain⟨y,g1,g2,g3,g4⟩:=row j t kv e1 e2;exact⟨y.2.1,g _ (at_row j t kv y e1 e2 g3),sm _ _ (s1 _ _ g1)⟩
end
end L2
end
section
namespace Dk
open PySem
section
variable {prog:Program}{w:World}{A:Around}{E:Value->Shared->Prop}{s:Shared}
def zhi (d:Addr) (hd:(d == sysModules)=false) :
  MeetsIn prog w (Builtin.«dict.__len__» ⟨[.ref d],[]⟩) (fun _ R s=>∃es ep,IsD s.heap d es ep/\R (.ok (.ret (.int es.size s.toks))) { s with toks:=s.toks+1 }):=
 .of_wp fun A R s ⟨es,ep,hm,h⟩=>by
  obtain⟨o,ho,hc,aO⟩:=hm;show wpAny _ _ (dictSize d >>= _) _ _ s;unfold dictSize;refine Aa (Aa (AR ho aO (Ac ?_)));show wpAny _ _ (Builtin.Dict.pendingCount d >>= _) _ _ s;refine Aa (wpAny_pendingCount_other hd ?_);refine wpAny_ret_mkInt ?_;rw[Nat.add_zero]; exact h
def zfS {d:Addr}{es:Array DictEntry}{ep:Nat}{Q:Value->Shared->Prop} (hd:(d == sysModules)=false) (hm:IsD s.heap d es ep) (vA:(es.size:Int)<2 ^ 63)
  (h:Q (.int es.size (s.toks+1)) { s with toks:=s.toks+1+1 }):wpAny (model prog w) A (call (.builtin "len") [.ref d]) Q E s:=by
 refine Calls.call_function_entry kind_len plain_len entry_len (args_len1 _) ?_;unfold Builtin.«len»;refine Aa (m:=oneArg "len" _) (Ac ?_);refine Aa (m:=callSpecial? (.ref d) (A3 "__len__")) (AO (name:=A3 "__len__") hm.typeIs F.slot_dict_len
  (call_meetsIn F.slot_dict_len hm.typeIs F.entry_dict_len (F.args_dict_len_1 _) (zhi d hd) ⟨es,ep,hm,?_⟩))
 show wpAny _ _ _ _ _ { s with toks:=s.toks+1 };refine Aa (AM (Ac ?_));refine Aa (wpAny_letGo ?_);show wpAny _ _ (if ((es.size:Nat):Int)<0 then _ else _) _ _ _;rw[if_neg (by omega)];show wpAny _ _ (if ((es.size:Nat):Int) ≥ 2 ^ 63 then _ else _) _ _ _;rw[if_neg (by omega)];exact Aa (wpAny_mkInt (Ac ⟨_,rfl,h⟩))
end
end Dk
namespace L2
open PySem PySem.Spec PyProof.Rows
section
variable {X:Cx}
def zdS:zX X (.builtin "len") (fun xs H Q=>∃a kvs,xs=[V.ref a]/\Rd H a (.dT kvs)/\Q (.int kvs.length) H):=by
 intro aa s σ H xs us Q I r h;obtain⟨a,kvs,rfl,ha,q⟩:=h;obtain⟨u,rfl,ru⟩:=vals1 r;cases ru;obtain⟨z,y,ys,rel,o,es,ep,h1,h2,h3,h4,h5⟩:=(show zx X.prog X.w H s.heap a (.dT kvs) from ha.ok I.hok);have hl:es.size=kvs.length:=by
  have:=congrArg List.length h4;rw[Ab,<- AX rel] at this
  simpa using this
 refine Dk.zfS y ⟨o,h1,h2,h3⟩ (by rw[hl]; rw[sizeLine_eq] at z; omega) ⟨.int kvs.length,H,I.tok _,⟨_,by rw[hl]⟩,q⟩
end
end L2
end
section
namespace K19
open K1
open PySem L2 STb
abbrev zj5:Stmt:=top 33
abbrev zdR:Stmt:=top 34
abbrev zdl:Stmt:=top 37
abbrev tTms:TE:=tTup (zy (tVar 0) (zy (tOp (rI CMul fun i j=>.int (i*j)) (tVar 1) (zl4 (tVar 2) (tVar 0))) tNil))
def zhx {H:Hp}:∀{ts:List Addr}{cs:Ch},Paired (fun t (kv:List Key×V)=>∃b,H t=some (.tup [.ref b,kv.2])/\H b=some (.tup (kv.1.map kV))) ts (kvC cs)->Prs H ts cs
 | _,[],h=>by
  cases h;exact .nil
 | _,c::r,h=>by
  have h':Paired (fun t (kv:List Key×V)=>∃b,H t=some (.tup [.ref b,kv.2])/\H b=some (.tup (kv.1.map kV))) _ (((c.1.map Sum.inl:List Key),V.int c.2)::kvC r):=h;cases h' with
  | cons q t=>
   obtain⟨b,e1,e2⟩:=q;exact .cons ⟨b,e1,zid e2⟩ (zhx t)
def Same2 (d e:Addr) (H H':Hp):Prop:=∀b o,b≠d->b≠e->H b=some o->H' b=some o
def Same2.lst {H H':Hp}{d e b:Addr}{k1 k2:List (List Key×V)}{xs:List V} (s:Same2 d e H H') (r:Rd H d (.dT k1)) (q:Rd H e (.dT k2)) (h:H b=some (.lst xs)):H' b=some (.lst xs):=
 s _ _ (rd_ne r h (by intro k z; cases z) (by intro q k z; cases z)) (rd_ne q h (by intro k z; cases z) (by intro q k z; cases z)) h
def Same2.tpsD {H H':Hp}{d e:Addr}{k1 k2:List (List Key×V)}{as:List Addr}{ae:List (List Int)} (s:Same2 d e H H') (r:Rd H d (.dT k1)) (q:Rd H e (.dT k2)) (h:Tps H as ae):Tps H' as ae:=
 Paired.mapP h fun a ps z=>s _ _ (rd_ne r (show H a=some _ from z) (by intro k z; cases z) (by intro q k z; cases z)) (rd_ne q (show H a=some _ from z) (by intro k z; cases z) (by intro q k z; cases z)) z
def zk1 {H:Hp}{as bs:List Addr}{p q:List (List Int)} (h:Tps H as p) (g:Tps H bs q):Tps H (as++bs) (p++q):=by
 induction h with
 | nil=>exact g
 | cons r t ih=>exact .cons r ih
section
variable {P:Program}{w:World}{K:Ad}{mg:Str->Option Value}{base:Heap}
def zkB:Sp:=fun vs H Q _=>∃l d e as ae cs ds,vs=[.ref l,.ref d,.ref e]/\d≠e/\WC H l d as ae cs/\WC H l e as ae ds/\oneH (ksC cs++ksC ds)=true/\
 ∀D H',Same2 d e H H'->Rd H' d (.dT (kvC cs))->Rd H' e (.dT (kvC ds))->H D=none->H' D=some (.dT (kvC (sumC (cs++ds))))->Q (.ref D) H'
def zku:zi ["web","one","other"] ["web","one","other"] (zf zj5):=⟨rfl,rfl,rfl,by decide +kernel,rfl,by decide +kernel,by decide +kernel⟩
def zlT {f fm fo fs:Addr}{fd cb bL cP:FuncData} (F:Fun K "plus" "plus" zj5 f fd) (B:Bt mg)
  (Fm:Fun K "must_be_chain" "must_be_chain" zbn fm cb) (bm:Binds K cb ["web","chain"] []) (mm:mg "must_be_chain"=some (.ref fm)) (Gm:FnOk P w K mg base CX0 10 fm cb ["web","chain"] (zbb K))
  (Fo:Fun K "is_of_one_height" "is_of_one_height" sOne fo bL) (bo:Binds K bL ["some"] []) (mo:mg "is_of_one_height"=some (.ref fo)) (Go:FnOk P w K mg base CX0 1 fo bL ["some"] (zkX K))
  (Fs:Fun K "sum_of" "sum_of" sSum fs cP) (bs:Binds K cP ["terms"] []) (ms:mg "sum_of"=some (.ref fs)) (Gs:FnOk P w K mg base CX0 1 fs cP ["terms"] (zjZ K)) :
  FnOk P w K mg base CX0 11 f fd ["web","one","other"] zkB:=by
 refine F.ok zku (fun vs H Q E h=>?_) (fun cdv A outer s H vs Q E hr h=>?_)
 ·obtain⟨l,d,e,as,ae,cs,ds,rfl,_⟩:=h; rfl
 ·obtain⟨l,d,e,as,ae,cs,ds,rfl,hne,wc,wd,hoh,k⟩:=h
  have hr1:Room 1 _:=hr.mono (by decide);refine⟨_,za (zv (zk Gm hr rfl mm Fm.kp bm .nil pass0 (pa_cons (pv 0) (pa_cons (pv 1) pa_nil))))
   (za (zv (zk Gm hr rfl mm Fm.kp bm .nil pass0 (pa_cons (pv 0) (pa_cons (pv 2) pa_nil))))
   (za (zD (zaB (zaY (zk Go hr1 rfl mo Fo.kp bo .nil pass0 (pa_cons (zw zaj (zj (zad rfl) rfl B.list zan (pa_cons (pv 1) pa_nil)) (zj (zad rfl) rfl B.list zan (pa_cons (pv 2) pa_nil))) pa_nil)))) zA zn)
   (zd (zl (zk Gs hr1 rfl ms Fs.kp bs .nil pass0 (pa_cons (zw zaj (zj (zaD rfl) rfl B.list zan (pa_cons (zdU (pv 1)) pa_nil)) (zj (zaD rfl) rfl B.list zan (pa_cons (zdU (pv 2)) pa_nil))) pa_nil)))))),?_⟩
  have h1:=wc.ln;have h2:=wc.h59;have h3:=wd.ln;refine⟨_,rfl,_,rfl,l,d,as,ae,cs,rfl,SqL.of wc.hl,wc.ht,wc.hw,by omega,wc.hd,by omega,by omega,wc.hc,fun H1 aM bQ=>?_⟩;have qV:Rd H1 e (.dT (kvC ds)):=zb8 aM (Ne.symm hne) wd.hd;have hl1:=aM.lst wc.hd wc.hl;have iz:=aM.tpsD wc.hd wc.ht;refine⟨_,rfl,_,rfl,l,e,as,ae,ds,rfl,SqL.of hl1,iz,wc.hw,by omega,qV,by omega,by omega,wd.hc,fun H2 bU dL=>?_⟩;have ax:Rd H2 d (.dT (kvC cs)):=zb8 bU hne bQ;have s2:Same2 d e H H2:=fun b o h1 h2 q=>bU _ _ h2 (aM _ _ h1 q);have db:∀{x:Addr},H2 x=none->H x=none:=fun {x} hx=>aM.freeD bQ (bU.freeD dL hx);refine⟨_,rfl,d,kvC cs,rfl,ax,fun bs pb L hL=>⟨_,rfl,e,kvC ds,rfl,dL.same (Same.new hL),fun fg tM L' k_=>?_⟩⟩;have sL:=Same.new (o:=.lst (bs.map V.ref)) hL;have kl:=Same.new (o:=.lst (fg.map V.ref)) k_;have tb:=kl.tps (sL.tps (zbK pb));have pB:=kl.tps (zbK tM);have q1:=tb.length;have q2:=pB.length;rw[zaI] at q1 q2;refine⟨L,L',_,_,rfl,rfl,kl _ _ upd_same,upd_same,by rw[Ab,Ab]; exact zb (by omega),fun p hp=>?_⟩;have sp:=Same.new (o:=.lst (bs.map V.ref++fg.map V.ref)) hp;refine⟨p,bs++fg,ksC cs++ksC ds,rfl,SqL.of (by rw[upd_same,Ar]),sp.tps (zk1 tb pB),by rw[Aq,zaI,zaI]; omega,fun H5 bB=>⟨_,rfl,?_⟩⟩;rw[hoh];have s5:=((sL.trans kl).trans sp).trans bB;refine iteF ?_;refine⟨_,rfl,d,kvC cs,rfl,rfl,ax.same s5,fun v1 pI=>⟨v1,d,kvC cs,rfl,upd_same,ax.same (s5.trans (Same.new pI)),fun H6 M1 qA mz yb nK p1=>?_⟩⟩;have s6:=(s5.trans (Same.new (o:=itO v1 d) pI)).trans mz;refine⟨_,rfl,e,kvC ds,rfl,rfl,dL.same s6,fun v2 ow=>⟨v2,e,kvC ds,rfl,upd_same,dL.same (s6.trans (Same.new ow)),fun H7 M2 pS ku yw nP p2=>?_⟩⟩;have mY:=(Same.new (o:=itO v2 e) ow).trans ku;have s7:=s6.trans mY;have r1:=(zhx p1).same mY;have r2:=zhx p2;have l1:=r1.length;have l2:=r2.length;refine⟨M1,M2,_,_,rfl,rfl,mY _ _ nK,nP,by rw[Ab,Ab]; exact zb (by omega),fun q hq=>?_⟩;have sq:=Same.new (o:=.lst (qA.map V.ref++pS.map V.ref)) hq;refine⟨q,qA++pS,cs++ds,rfl,SqL.of (by rw[upd_same,Ar]),(r1.append r2).same sq,by rw[Aq]; omega,fun D H8 tZ cG lf=>?_⟩;have s8:=(s7.trans sq).trans tZ;exact k D H8 (fun b o h1 h2 z=>s8 _ _ (s2 b o h1 h2 z)) (ax.same s8) (dL.same s8) (db ((s7.trans sq).free cG)) lf
def zjp {H2:Hp}{d D:Addr}{o:Obj}{cs:Ch}{n:Int}{Q:VK} (hd:H2 d=some (.frz o (.dT (kvC cs)))) (hz:cs.length<=1000) (hn:(ksC cs).Nodup) (hb:∀c∈cs,CMul n c.2) (hD:H2 D=none)
  (k:∀(H3:Hp) (ts:List Addr),Same H2 H3->H3 D=some (.lst (ts.map V.ref))->Prs H3 ts (cs.map fun c=>(c.1,n*c.2))->Q (.ref D) H3) :
  zaf (Itk d o (kvC cs)) (zZ 0) tYes tTms [none,some (.int n),some (.ref d)] H2 D Q:=by
 refine zav cs.length (fun j σ ys H3=>∃(v:Option V) (ts:List Addr),σ=[v,some (.int n),some (.ref d)]/\Same H2 H3/\H3 D=some (.lst ys)/\ys=ts.map V.ref/\Prs H3 ts ((cs.map fun c=>(c.1,n*c.2)).take j)) ?_ ?_ ?_ ?_ ?_
 ·exact⟨none,[],rfl,Same.new hD,upd_same,rfl,.nil⟩
 ·rintro σ ys H3 ⟨v,ts,rfl,sm,aj,rfl,hp⟩
  exact⟨(zQ cs).symm,sm _ _ hd⟩
 ·rintro i σ ys H3 hi ⟨v,ts,rfl,sm,aj,rfl,hp⟩
  exact⟨by rw[zQ]; exact hi,sm _ _ hd⟩
 ·rintro i σ ys H3 x H' hi hy ⟨v,ts,rfl,sm,aj,rfl,hp⟩ ⟨rfl,kv,b,dh,rfl,jH⟩
  obtain⟨c,ec,rfl⟩:=ziE dh;have hmem:=At ec;have e:(cs.map fun c=>(c.1,n*c.2))[i]?=some (c.1,n*c.2):=by rw[Am,ec]; rfl
  refine gyes ?_;refine⟨_,rfl,_,rfl,_,rfl,_,rfl,d,_,rfl,.inr ⟨kvC cs,c.1.map Sum.inl,b,.inr ⟨o,sm _ _ hd⟩,rfl,jH,(zba hn c hmem).symm⟩,_,_,rfl,rfl,hb c hmem,zb (by simp),fun t bW=>?_⟩;have s4:=Same.new (o:=.tup [.ref b,.int (n*c.2)]) bW;refine cput (zb (by omega)) hi hy (s4 _ _ aj) ⟨_,ts++[t],rfl,(sm.trans s4).then hD,upd_same,by rw[Ar]; rfl,?_⟩;rw[AY e];exact Prs.upd (Prs.snoc (hp.same s4) ⟨b,upd_same,s4.tp (zid jH)⟩) (s4 _ _ aj) (by intro xs z; cases z)
 ·rintro σ ys H3 ⟨v,ts,rfl,sm,aj,rfl,hp⟩
  rw[Av (by rw[Ab]; exact Af _)] at hp;exact k H3 ts sm aj hp
def ziH:Sp:=fun vs H Q _=>∃l d as ae cs n,vs=[.ref l,.ref d,.int n]/\WC H l d as ae cs/\(∀c∈cs,CMul n c.2)/\
 ∀D H',zr d H H'->Rd H' d (.dT (kvC cs))->H D=none->H' D=some (.dT (kvC (sumC (cs.map fun c=>(c.1,n*c.2)))))->Q (.ref D) H'
def zhP:zi ["web","chain","often"] ["web","chain","often"] (zf zdR):=⟨rfl,rfl,rfl,by decide +kernel,rfl,by decide +kernel,by decide +kernel⟩
def zji {f fm fs:Addr}{fd cb cP:FuncData} (F:Fun K "times" "times" zdR f fd)
  (Fm:Fun K "must_be_chain" "must_be_chain" zbn fm cb) (bm:Binds K cb ["web","chain"] []) (mm:mg "must_be_chain"=some (.ref fm)) (Gm:FnOk P w K mg base CX0 10 fm cb ["web","chain"] (zbb K))
  (Fs:Fun K "sum_of" "sum_of" sSum fs cP) (bs:Binds K cP ["terms"] []) (ms:mg "sum_of"=some (.ref fs)) (Gs:FnOk P w K mg base CX0 1 fs cP ["terms"] (zjZ K)) :
  FnOk P w K mg base CX0 11 f fd ["web","chain","often"] ziH:=by
 refine F.ok zhP (fun vs H Q E h=>?_) (fun cdv A outer s H vs Q E hr h=>?_)
 ·obtain⟨l,d,as,ae,cs,n,rfl,_⟩:=h; rfl
 ·obtain⟨l,d,as,ae,cs,n,rfl,wc,hb,k⟩:=h
  have hu:=zbE hr;have hr1:Room 1 _:=hr.mono (by decide);refine⟨_,za (zv (zk Gm hr rfl mm Fm.kp bm .nil pass0 (pa_cons (pv 0) (pa_cons (pv 1) pa_nil))))
   (zd (zl (zk Gs hr1 rfl ms Fs.kp bs .nil pass0 (pa_cons
    (zB ["web","chain","often"] ["piece","often","chain"] [none,some 2,some 1] (zdu (pv 1)) (fun cl C s₀ H₀ ex=>zm (i:=0) (ndN ["piece","often","chain"]) rfl (Or.inl rfl)) (fun cl C s₀ H₀ ex=>zM)
     (fun cl C s₀ H₀ ex=>zU (pa_cons (pv 0) (pa_cons (zw zbk (pv 1) (zbt hu (pv 2) (pv 0) (fun _ _=>rfl))) pa_nil))) (hfr:=frOf (zf zdR) (by decide +kernel)) (te:=tTms)) pa_nil)))),?_⟩
  have h1:=wc.ln;have h2:=wc.h59;refine⟨_,rfl,_,rfl,l,d,as,ae,cs,rfl,SqL.of wc.hl,wc.ht,wc.hw,by omega,wc.hd,by omega,by omega,wc.hc,fun H1 aM bQ=>?_⟩;refine⟨_,rfl,d,kvC cs,rfl,bQ,fun o H3 eW aL=>fun D hD=>zI (zjp eW (by omega) wc.nd hb hD fun H4 ts aT cu dN=>?_)⟩;refine⟨D,ts,_,rfl,SqL.of cu,dN,by rw[Ab]; omega,fun R H5 bB qJ jD=>?_⟩;have rQ:Rd H5 d (.dT (kvC cs)):=.inr ⟨o,bB _ _ (aT _ _ eW)⟩;have c7:zr d H H5:=fun b u hb' e=>bB _ _ (aT _ _ (by rw[aL b hb']; exact aM _ _ hb' e));refine k R H5 c7 rQ ?_ jD;have uS:=qJ;have b0:zr d H H4:=fun b u hb' e=>aT _ _ (by rw[aL b hb']; exact aM _ _ hb' e);exact b0.freeD (.inr ⟨o,aT _ _ eW⟩) uS
def zfp:Sp:=fun vs H Q _=>∃l d as ae cs,vs=[.ref l,.ref d]/\WC H l d as ae cs/\(∀c∈cs,c.1.length<=5)/\
 ∀H',zr d H H'->Rd H' d (.dT (kvC cs))->Q (.bl (decide ((sumC (cs.flatMap fun c=>stm c.1 c.2)).length=0))) H'
def zfk:zi ["web","chain"] ["web","chain"] (zf zdl):=⟨rfl,rfl,rfl,by decide +kernel,rfl,by decide +kernel,by decide +kernel⟩
def zgK {f fs:Addr}{fd cP:FuncData} (F:Fun K "is_closed" "is_closed" zdl f fd) (B:Bt mg)
  (Fs:Fun K "seam" "seam" zhS fs cP) (bs:Binds K cP ["web","chain"] []) (ms:mg "seam"=some (.ref fs)) (Gs:FnOk P w K mg base CX0 11 fs cP ["web","chain"] zfM):FnOk P w K mg base CX0 12 f fd ["web","chain"] zfp:=by
 refine F.ok zfk (fun vs H Q E h=>?_) (fun cdv A outer s H vs Q E hr h=>?_)
 ·obtain⟨l,d,as,ae,cs,rfl,_⟩:=h; rfl
 ·obtain⟨l,d,as,ae,cs,rfl,wc,h5,k⟩:=h
  refine⟨_,zd (zl (zaL zaK (zq zdS rfl B.len zau (pa_cons (zk Gs hr rfl ms Fs.kp bs .nil pass0 (pa_cons (pv 0) (pa_cons (pv 1) pa_nil))) pa_nil)) ze (nomark _))),?_⟩;refine⟨_,rfl,_,rfl,l,d,as,ae,cs,rfl,wc,h5,fun D H' sb rd hD bj=>⟨D,_,rfl,.inl bj,rfl,?_⟩⟩;rw[zQ];have:=k H' sb rd;rw[show decide ((sumC (cs.flatMap fun c=>stm c.1 c.2)).length=0)=decide (V.int ((sumC (cs.flatMap fun c=>stm c.1 c.2)).length:Int)=V.int 0) from decide_eq_decide.mpr ⟨fun z=>by rw[z]; rfl,fun z=>by injection z with z; omega⟩] at this;exact this
end
end K19
end
section
namespace L2
open PySem PySem.Spec PyProof.Rows
def zhJ:∀{ws:List Str}{ah:List Value},Vals (ws.map V.str) ah->∃l:List (Str×Tok),strValues l=ah/\l.map (fun x=>x.1)=ws
 | [],_,.nil=>⟨[],rfl,rfl⟩
 | x::ws,_,.cons r t=>by
  obtain⟨tk,rfl⟩:=r;obtain⟨l,e1,e2⟩:=zhJ t;exact⟨(x,tk)::l,by rw[<- e1]; rfl,by rw[<- e2]; rfl⟩
section
variable {X:Cx}
def rJoin (K:Ad):V->List V->Hp->VK->Prop:=fun x vs H Q=>∃eC l ws,x=.str eC/\vs=[.ref l]/\SqL K H l (List.map V.str ws)/\JoinOk eC ws=true/\Q (.str (Txt.join eC ws)) H
def zeG:MtR X "str.join" (rJoin X.K):=by
 intro aa s σ H x vs v us Q I rx rv h;obtain⟨eC,l,ws,rfl,rfl,hl,hj,q⟩:=h;obtain⟨t,rfl⟩:=rx;obtain⟨u,rfl,ru⟩:=rv.one;cases ru;obtain⟨ah,r,p,_⟩:=I.list hl;obtain⟨ls,e1,e2⟩:=zhJ r;refine SC.join (l:=ls) (by rw[e1]; exact p.isList) e2 hj fun t' k=>⟨.str _,H,I.tok _,⟨t',rfl⟩,q⟩
end
end L2
end
section
namespace Tx
open PySem PySem.Builtin.Str PyProof.Rows
abbrev fig (i:Int):Str:=A3 (toString i)
def zln:∀i:Nat,i<100->intText? (fig i)=some (i:Int)/\1<=(fig i).length/\(fig i).length<=2/\((fig i).cps.toList.all fun c=>decide (48<=c/\c<=57))=true/\((fig i).length<=1 \/ (fig i).cps[0]?≠some 48):=by decide +kernel
end Tx
end
section
namespace Tx
open PySem PySem.Builtin.Str PyProof.Rows K1
def zll {n:Nat} (h:n<=100000):n<=sizeLine:=by rw[sizeLine_eq]; omega
def zkE {b:Nat}:∀{ws:List Str},(∀t∈ws,t.length<=b)->(ws.map (·.length)).sum<=ws.length*b
 | [],_=>by simp
 | x::r,h=>by
  have ih:=zkE (ws:=r) fun t m=>h t (Aw _ m);have h1:=h x Au;simp only[AH,List.sum_cons,Ap,Nat.succ_mul];omega
def zhT {eC:Str}{ws:List Str}{b n:Nat} (hs:eC.length=1) (h:∀t∈ws,t.length<=b) (hl:ws.length<=n) (hn:n*(b+1)<=100000):JoinOk eC ws=true/\(Txt.join eC ws).length<=n*(b+1):=by
 have h1:=zkE h;have h2:ws.length*(b+1)<=n*(b+1):=Nat.mul_le_mul_right _ hl;rw[Nat.mul_add,Nat.mul_one] at h2;constructor
 ·unfold JoinOk tooLong
  rw[StrLaws.joinTotal,hs,Nat.mul_one];have:(ws.map (·.length)).sum+ws.length<=sizeLine:=zll (by omega);simp only[Bool.not_eq_true',decide_eq_false_iff_not];omega
 ·rw[show Txt.join eC ws=Str.join eC ws from StrLaws.glued_eq_join _ _]
  have:=StrLaws.join_length_le eC ws;rw[hs] at this;omega
abbrev Pts (p:List Int):Prop:=∀x∈p,0<=x/\x<=99
def word (p:List Int):Str:=Txt.join "-" (p.map fig)
def text (ae:List (List Int)):Str:=Txt.join " " (ae.map word)
def znn {i:Int} (h:0<=i/\i<=99):intText? (fig i)=some i/\1<=(fig i).length/\(fig i).length<=2/\(∀c∈(fig i).cps.toList,48<=c/\c<=57)/\((fig i).length<=1 \/ (fig i).cps[0]?≠some 48):=by
 obtain⟨n,rfl⟩:∃n:Nat,i=n:=⟨i.toNat,by omega⟩;obtain⟨a,b,c,d,e⟩:=zln n (by omega);refine⟨a,b,c,fun x hx=>?_,e⟩;have:=List.all_eq_true.mp d x hx;exact of_decide_eq_true this
def dash:("-":Str)=⟨#[45]⟩:=by decide +kernel
def zcV {p:List Int} (h:Pts p) (h5:p.length<=5):JoinOk "-" (p.map fig)=true/\(word p).length<=15:=
 zhT (n:=5) (b:=2) rfl (fun t m=>by
  obtain⟨x,hx,rfl⟩:=List.mem_map.mp m;exact (znn (h x hx)).2.2.1) (by rw[Ab]; exact h5) (by decide)
def acc (p:List Int):Str:=p.foldl (fun w x=>w++"-"++fig x) ""
def raw (p:List Int):List Nat:=p.flatMap fun x=>45::(fig x).cps.toList
end Tx
end
section
namespace L2
open PySem PySem.Spec PyProof.Rows PySem.Builtin PySem.Builtin.Str
section
variable {X:Cx}
def zlF:V->List V->Hp->VK->Prop:=fun x vs H Q=>∃(z:PySem.Str) (c:Nat),x=.str z/\vs=[.str ⟨#[c]⟩]/\Q (.bl (decide (z.cps.toList.head?=some c))) H
def zcM:MtR X "str.startswith" zlF:=by
 intro aa s σ H x vs v us Q I rx rv h;obtain⟨z,c,rfl,rfl,q⟩:=h;obtain⟨t,rfl⟩:=rx;obtain⟨u,rfl,ru⟩:=rv.one;obtain⟨t',rfl⟩:=ru;have e:(decide (0+PySem.Str.length ⟨#[c]⟩<=z.length) && subAt z ⟨#[c]⟩ 0)=decide (z.cps.toList.head?=some c):=by
  obtain⟨⟨l⟩⟩:=z;cases l with
  | nil=>simp[PySem.Str.length,subAt]
  | cons a l=>
   simp only[PySem.Str.length,subAt,Ag,Ap,List.length_nil,List.head?_cons,Nat.zero_add];have:(decide (1<=l.length+1))=true:=decide_eq_true (by omega);rw[this,Bool.true_and];have e2:Array.extract (a::l).toArray 0 1=#[a]:=by simp
   rw[e2]
   by_cases q:a=c
   ·subst q; simp
   ·simp[q]
 refine call_gives F.slot_str_startswith (typeIs_str _ _ _) F.entry_str_startswith (F.args_str_startswith_2 _ _) (gives_str_startswith z ⟨#[c]⟩ t t') ?_;show EP X aa σ Q (.bool _) s;rw[e];exact⟨.bl _,H,I,rfl,q⟩
end
end L2
namespace Tx
open PySem L2
def figs (m:Nat):(fig (m:Int)).cps.toList=(Nat.toDigits 10 m).map Char.toNat:=PySem.W.KIN.signs_num m
def zi4:∀m:Nat,0<m->∃c r,Nat.toDigits 10 m=c::r/\c.toNat≠48:=by
 intro m
 induction m using Nat.strongRecOn with
 | _ m ih=>
  intro h0
  by_cases h:m<10
  ·refine⟨Nat.digitChar m,[],Nat.toDigits_of_lt_base h,?_⟩
   have:∀k:Nat,k<10->0<k->(Nat.digitChar k).toNat≠48:=by decide
   exact this m h h0
  ·obtain⟨c,r,e,hc⟩:=ih (m / 10) (by omega) (by omega)
   have hm:m % 10<10:=Nat.mod_lt m (by decide);have t:Nat.toDigits 10 (m / 10)++Nat.toDigits 10 (m % 10)=Nat.toDigits 10 (10*(m / 10)+m % 10):=Nat.toDigits_append_toDigits (by decide) (by omega) hm;rw[Nat.div_add_mod] at t;exact⟨c,r++Nat.toDigits 10 (m % 10),by rw[<- t,e]; rfl,hc⟩
def zhf:∀(k m:Nat),m<10 ^ (k+1)->(Nat.toDigits 10 m).length<=k+1/\1<=(Nat.toDigits 10 m).length
 | 0,m,h=>by
  rw[Nat.toDigits_of_lt_base (by simpa using h)];simp
 | k+1,m,h=>by
  by_cases h10:m<10
  ·rw[Nat.toDigits_of_lt_base h10]
   simp
  ·have hm:m % 10<10:=Nat.mod_lt m (by decide)
   have t:Nat.toDigits 10 (m / 10)++Nat.toDigits 10 (m % 10)=Nat.toDigits 10 (10*(m / 10)+m % 10):=Nat.toDigits_append_toDigits (by decide) (by omega) hm;rw[Nat.div_add_mod] at t;have hk:m / 10<10 ^ (k+1):=by
    rw[Nat.div_lt_iff_lt_mul (by decide)];rw[Nat.pow_succ] at h;exact h
   have:=zhf k (m / 10) hk;rw[<- t,Aq,Nat.toDigits_of_lt_base hm,List.length_singleton];omega
def wfig {n:Int} (h0:0<=n) (h1:n<10 ^ 16):intText? (fig n)=some n/\1<=(fig n).length/\(fig n).length<=16/\(∀c∈(fig n).cps.toList,48<=c/\c<=57)/\((fig n).length<=1 \/ (fig n).cps[0]?≠some 48):=by
 obtain⟨m,rfl⟩:=Int.eq_ofNat_of_zero_le h0;have hm:m<10 ^ (15+1):=by
  have:((m:Nat):Int)<((10 ^ 16:Nat):Int):=by simpa using h1
  omega
 have hl:=zhf 15 m hm;have hlen:(fig (m:Int)).length=(Nat.toDigits 10 m).length:=by
  show (fig (m:Int)).cps.size=_;rw[<- AS,figs,Ab]
 have hd:∀c∈(fig (m:Int)).cps.toList,48<=c/\c<=57:=by
  intro c hc;rw[figs] at hc;obtain⟨ch,cf,e⟩:=List.mem_map.mp hc;rw[<- e];exact PyProof.Rows.digit_range (Nat.isDigit_of_mem_toDigits (by decide) (by decide) cf)
 have hne:(fig (m:Int)).cps.toList≠[]:=by
  rw[figs];intro e;rw[List.map_eq_nil_iff.mp e] at hl;simp at hl
 have e:=intText_digits hd hne (by omega);rw[figs,PySem.W.KIN.val_back] at e;refine⟨e,by omega,by omega,hd,?_⟩;rcases Nat.eq_zero_or_pos m with rfl | hp
 ·left; rw[hlen]; decide +kernel
 ·right
  obtain⟨c,r,ed,hc⟩:=zi4 m hp;rw[<- AK,figs,ed]
  simpa using hc
end Tx
end
section
namespace Tx
open PySem L2 PyProof.Rows
def term (c:List Int×Int):Str:=fig c.2++"*"++word c.1
def ctext (cs:List (List Int×Int)):Str:=Txt.join " " (cs.map term)
abbrev Sm (n:Int):Prop:=n.natAbs<10 ^ 16
def zeR (m:Nat):(fig (Int.negSucc m)).cps.toList=45::(fig ((m+1:Nat):Int)).cps.toList:=by
 rw[figs,PyProof.Rows.signs_ofString];show ("-"++Nat.repr (m+1)).toList.map Char.toNat=_;rw[String.toList_append,Ar,Nat.toList_repr]
 rfl
def zke {n:Int} (h:n<0):∃m:Nat,n=Int.negSucc m/\-n=((m+1:Nat):Int):=by
 obtain⟨m,rfl⟩:∃m:Nat,n=Int.negSucc m:=⟨(-n - 1).toNat,by omega⟩;exact⟨m,rfl,rfl⟩
def zb5 (x:Str):x.cps.toList.length=x.length:=by simp[Str.length]
def zk3 {n:Int} (h:Sm n):(∀c∈(fig n).cps.toList,c=45 \/ (48<=c/\c<=57))/\(fig n).length<=17/\1<=(fig n).length:=by
 by_cases h0:0<=n
 ·obtain⟨_,a,b,c,_⟩:=wfig h0 (by have:n.natAbs<10 ^ 16:=h; omega)
  exact⟨fun x hx=>.inr (c x hx),by omega,a⟩
 ·obtain⟨m,rfl,e⟩:=zke (by omega:n<0)
  have hm:((m+1:Nat):Int)<10 ^ 16:=by have:(Int.negSucc m).natAbs<10 ^ 16:=h; omega
  obtain⟨_,a,b,c,_⟩:=wfig (n:=((m+1:Nat):Int)) (by omega) hm;have hl:(fig (Int.negSucc m)).length=1+(fig ((m+1:Nat):Int)).length:=by rw[<- zb5,zeR,Ap,zb5]; omega
  refine⟨fun x hx=>?_,by omega,by omega⟩;rw[zeR] at hx;rcases List.mem_cons.mp hx with e | e
  ·exact .inl e
  ·exact .inr (c x e)
def zmj {u v:Str} (h:u.cps.toList=v.cps.toList):u=v:=by
 apply Str.ext';exact Array.toList_inj.mp h
def zfx (n:Int):Txt.join "" [if n<0 then "-" else "",fig (if n<0 then -n else n)]=fig n:=by
 apply zmj;show ((if n<0 then ("-":Str) else "").cps++("":Str).cps++(fig (if n<0 then -n else n)).cps).toList=_
 by_cases h:n<0
 ·rw[if_pos h,if_pos h]
  obtain⟨m,rfl,e⟩:=zke h;rw[e,zeR,dash,show (("":Str).cps)=#[] from rfl];simp
 ·rw[if_neg h,if_neg h,show (("":Str).cps)=#[] from rfl]
  simp
def zgE (c:List Int×Int):(term c).cps.toList=(fig c.2).cps.toList++42::(word c.1).cps.toList:=by
 have es:("*":Str)=⟨#[42]⟩:=by decide +kernel
 unfold term;rw[es];show ((fig c.2).cps++#[42]++(word c.1).cps).toList=_;simp
abbrev Tm (c:List Int×Int):Prop:=Pts c.1/\c.1≠[]/\c.1.length<=5/\Sm c.2
def ziU {c:List Int×Int} (h:Tm c):(term c).length<=33/\1<=(term c).length:=by
 have h1:=(zk3 h.2.2.2).2;have h2:=(zcV h.1 h.2.2.1).2;rw[<- zb5,zgE,Aq,Ap,zb5,zb5];omega
def zie {cs:List (List Int×Int)} (h:∀c∈cs,Tm c) (hl:cs.length<=200):JoinOk " " (cs.map term)=true/\(ctext cs).length<=6800:=
 zhT (n:=200) (b:=33) rfl (fun t m=>by
  obtain⟨x,hx,rfl⟩:=List.mem_map.mp m;exact (ziU (h x hx)).1) (by rw[Ab]; exact hl) (by decide)
end Tx
end
section
namespace L2
open PySem PySem.Spec PyProof.Rows
section
variable {X:Cx}{scope:Scope}{N':List Str}{ar:List (Option Nat)}{tg iter bX:Expr}{bz:List Expr}{wi:TI}{g:TG}{tc:TT}{te:TE}{pos:Pos}
def zkR {i:Nat}{x:Str}{aV eD:Pos} (hc:X.calm=true) (hk:scope.kind=.function) (aD:∀y∈scope.names,y.2≠.cell) (aJ:∀y∈scope.names,y.2=.local->scope.names.lookup y.1=some .local)
  (hfr:∀y∈scope.names,y.2=.free->X.env.kindOf y.1=some .cell \/ X.env.kindOf y.1=some .free) (bM:zjy X.N N' ar scope)
  (hi:PI X tg iter wi) (hg:∀cl C s₀ H₀ ex,PG (cxC X scope N' cl C s₀ H₀ ex) tg g) (ht:∀cl C s₀ H₀ ex,PTL (cxC X scope N' cl C s₀ H₀ ex) bz tc) (he:∀cl C s₀ H₀ ex,PE (cxC X scope N' cl C s₀ H₀ ex) bX te)
  (hs:∀x,foldedSetIterable iter X.env x=pure x) (hN:X.N.Nodup) (hi':X.N[i]?=some x) (hx:Loc X.env.scope x) (hf:X.fn x=true \/ X.env.scope.names.lookup x=some .local)
  (mV:swapsWith (.ListComp bX [⟨tg,iter,bz,0⟩] scope pos) (some (.Name x aV)) eD.line X.env=pure true) :
  PS X (.Assign [.Name x aV] (.ListComp bX [⟨tg,iter,bz,0⟩] scope pos) eD) (tAsg (tLC wi ar g tc te) (zZ i)):=by
 intro aa s σ H D I h;rw[exec_Assign_Name_used _ _ _ _ mV];refine Aa (wpAny_standAt (Aa ?_));show wpAny _ X.A (do let _ <- comprehension (.ListComp bX [⟨tg,iter,bz,0⟩] scope pos) scope X.env _ (newList []) (firstAsync [⟨tg,iter,bz,0⟩]) (firstIter [⟨tg,iter,bz,0⟩] X.env) (some (assign (.Name x aV) X.env))) _ _ s;refine Aa (wpAny_mono (zdG (use:=some (assign (.Name x aV) X.env)) (R:=fun _ s'=>SP X aa D .next s') hc hk aD aJ hfr bM hi hg ht he hs I h fun Dl C H' s4 f L q=>?_) (fun _ s' hq=>Ac (Ac hq)) fun _ _ e=>e);show wpAny _ X.A (assign (.Name x aV) X.env (.ref Dl)) _ _ s4;refine wpAny_assign_Name (zdF (v:=.ref Dl) (L.back s4.heap (Heap.SameBut.refl _ _)) hN hi' hx rfl (fun s5 I5 ⟨a,hsa,ha⟩=>?_) hf);have sA:C≠a:=by
  rcases ha with e | e
  ·rw[e]; exact L.nl
  ·exact fun z=>L.nc x a e z.symm
 obtain⟨m,hn⟩:=L.ns;refine⟨m,hn.sameBut hsa sA,fun h' hs'=>⟨_,H',?_,q⟩⟩;refine I5.call' (s':={ s5 with heap:=h' }) (ch:=[C]) rfl ⟨fun b o q n hb hx=>?_,fun b o q n hb hx=>?_,fun b o q n hx=>n,fun b o q hx=>?_,fun b xs q=>q,fun b o u q=>q,fun b ps q=>⟨#[],by simpa using q⟩⟩ ?_ I5.bare fun b hb=>?_
 ·exact (hs'.2 b (by simpa using hx)).trans q
 ·exact⟨o.slots,(hs'.2 b (by simpa using hx)).trans q⟩
 ·exact⟨o,(hs'.2 b (by simpa using hx)).trans q⟩
 ·intro b u e
  refine (I5.hok b u e).stay (fun c v hc q=>(hs'.2 c ?_).trans q) (fun _ q=>q) fun _ _ q=>q;rintro rfl;rcases hc with z | z
  ·rw[<- z,L.no] at e; cases e
  ·rw[L.no] at z; cases z
 ·have e:b=C:=by simpa using hb
  subst e;exact⟨.inr L.far,L.nl,L.nc,L.np⟩
end
end L2
end
section
namespace L2
open PySem PySem.Spec PyProof.Rows
section
variable {X:Cx}{scope:Scope}{ar:List (Option Nat)}{tg iter bX:Expr}{bz:List Expr}{wi:TI}{g:TG}{tc:TT}{te:TE}{pos:Pos}
def zlk {i:Nat}{x:Str}{aV eD:Pos} (eZ:X.N.Nodup) (hi':X.N[i]?=some x) (hx:Loc X.env.scope x) (N N':List Str) (ar:List (Option Nat)) (hi:PI X tg iter wi) (hg:∀cl C s₀ H₀ ex,PG (cxC X scope N' cl C s₀ H₀ ex) tg g) (ht:∀cl C s₀ H₀ ex,PTL (cxC X scope N' cl C s₀ H₀ ex) bz tc) (he:∀cl C s₀ H₀ ex,PE (cxC X scope N' cl C s₀ H₀ ex) bX te)
  (hc:X.calm=true:=by rfl) (hk:scope.kind=.function:=by rfl) (aD:∀y∈scope.names,y.2≠.cell:=by decide +kernel) (aJ:∀y∈scope.names,y.2=.local->scope.names.lookup y.1=some .local:=by decide +kernel)
  (hfr:∀y∈scope.names,y.2=.free->X.env.kindOf y.1=some .cell \/ X.env.kindOf y.1=some .free) (hN:X.N=N:=by rfl) (bM:capB N N' ar scope=true:=by decide +kernel)
  (hs:∀x,foldedSetIterable iter X.env x=pure x:=by intro _; rfl) (hf:X.fn x=true \/ X.env.scope.names.lookup x=some .local:=by first | exact .inl rfl | exact .inr rfl | assumption)
  (mV:swapsWith (.ListComp bX [⟨tg,iter,bz,0⟩] scope pos) (some (.Name x aV)) eD.line X.env=pure true:=by rfl) :
  PS X (.Assign [.Name x aV] (.ListComp bX [⟨tg,iter,bz,0⟩] scope pos) eD) (tAsg (tLC wi ar g tc te) (zZ i)):=
 zkR hc hk aD aJ hfr (zfQ (by rw[hN]; exact bM)) hi hg ht he hs eZ hi' hx hf mV
end
end L2
end
section
namespace K19
open K1 Tx
open PySem L2 STb
abbrev zcQ:Stmt:=top 45
abbrev zcn:Stmt:=top 52
abbrev zdb:Stmt:=top 53
abbrev zdj:Stmt:=top 54
def zmY:AW "str"=some (.type "str"):=by decide +kernel
def zmF:∀n:Nat,n<100->n.log2<1920:=by decide +kernel
abbrev tStr:TE:=tCB (fun xs H Q=>∃i:Int,xs=[.int i]/\i.natAbs.log2<1920/\Q (.str (toString i)) H) (zy (tVar 0) tNil)
section
variable {P:Program}{w:World}{K:Ad}{mg:Str->Option Value}{base:Heap}
def zjx {H2:Hp}{a D:Addr}{ps:List Int}{Q:VK} (ha:Tp H2 a ps) (hz:ps.length<=5) (hp:Pts ps) (hD:H2 D=none)
  (k:∀H3,Same H2 H3->H3 D=some (.lst ((ps.map fig).map V.str))->Q (.ref D) H3):zaf (Itt K a) (zZ 0) tYes tStr [none] H2 D Q:=by
 refine zfv (xs:=ps.map V.int) (fun j σ ys H3=>∃v:Option V,σ=[v]/\Same H2 H3/\H3 D=some (.lst ys)/\ys=((ps.map fig).take j).map V.str) ?_ ?_ ?_ ?_
 ·exact⟨none,rfl,Same.new hD,upd_same,rfl⟩
 ·rintro j σ ys H3 ⟨v,rfl,sm,aj,rfl⟩
  exact SqT.of (sm.tp ha)
 ·rintro j σ ys H3 x hx hj hy ⟨v,rfl,sm,aj,rfl⟩
  obtain⟨q,eq,rfl⟩:=zcF hx;have hq:=hp q (At eq);have e:(ps.map fig)[j]?=some (fig q):=by rw[Am,eq]; rfl
  refine gyes ?_;exact⟨_,rfl,q,rfl,zmF _ (by omega),cput (by rw[Ab]; exact zb (by omega)) hj hy aj ⟨_,rfl,sm.then hD,upd_same,by rw[AY e,Ar]; rfl⟩⟩
 ·rintro σ ys H3 ⟨v,rfl,sm,aj,rfl⟩
  rw[Av (by simp)] at aj;exact k H3 sm aj
def ze2:Sp:=fun vs H Q _=>∃a ps,vs=[.ref a]/\Tp H a ps/\ps.length<=5/\Pts ps/\∀H',Same H H'->Q (.str (word ps)) H'
def zkd:zi ["piece"] ["piece"] (zf zcQ):=⟨rfl,rfl,rfl,by decide +kernel,rfl,by decide +kernel,by decide +kernel⟩
def zit {f:Addr}{fd:FuncData} (F:Fun K "shown_piece" "shown_piece" zcQ f fd) (ys:mg "str"=none):FnOk P w K mg base CX0 1 f fd ["piece"] ze2:=by
 refine F.ok zkd (fun vs H Q E h=>?_) (fun cdv A outer s H vs Q E hr h=>?_)
 ·obtain⟨a,ps,rfl,_⟩:=h; rfl
 ·obtain⟨a,ps,rfl,ha,h5,hp,k⟩:=h
  refine⟨_,zd (zl (zaF PySem.F.plainAttrs_str PySem.F.slot_str_join PySem.F.type_str_join zeG pe_str (pa_cons (zB ["piece"] ["point"] [none] (zeZ (pv 0)) (fun cl C s₀ H₀ ex=>zm (i:=0) (ndN ["point"]) rfl (Or.inl rfl)) (fun cl C s₀ H₀ ex=>zM)
   (fun cl C s₀ H₀ ex=>zj zbC rfl ys zmY (pa_cons (pv 0) pa_nil)) (hfr:=nofr (by decide +kernel))) pa_nil))),?_⟩
  exact⟨rfl,_,rfl,a,rfl,⟨_,SqT.of ha⟩,fun D hD=>zI (zjx ha h5 hp hD fun H3 sm aj=>⟨_,D,_,rfl,rfl,SqL.of aj,(zcV hp h5).1,k H3 sm⟩)⟩
end
def znF:AW "abs"=some (.builtin "abs"):=by decide +kernel
def zmr {n:Nat} (h:n<10 ^ 16):n.log2<1920:=by
 rcases Nat.eq_zero_or_pos n with rfl | hp
 ·decide
 ·refine (Nat.log2_lt (A1 hp)).mpr (Ay h ?_)
  exact AA (show 10 ^ 16<=2 ^ 64 by decide) (Nat.pow_le_pow_right (by decide) (by decide))
def zmz {a b:Str} (ha:a.length<=1) (hb:b.length<=17):JoinOk "" [a,b]=true:=by
 have:¬ (0+a.length+("":Str).length+b.length+("":Str).length > sizeLine):=by
  rw[sizeLine_eq,show ("":Str).length=0 from rfl];omega
 show (!decide (0+a.length+("":Str).length+b.length+("":Str).length > sizeLine))=true;rw[decide_eq_false this]
 rfl
section
variable {P:Program}{w:World}{K:Ad}{mg:Str->Option Value}{base:Heap}
def zfq:Sp:=fun vs H Q _=>∃n,vs=[.int n]/\Sm n/\∀H',Same H H'->Q (.str (fig n)) H'
def zbL:zi ["number","block","words","left"] ["number"] (zf zdj):=⟨rfl,rfl,rfl,by decide +kernel,rfl,by decide +kernel,by decide +kernel⟩
def zgZ {f:Addr}{fd:FuncData} (F:Fun K "shown_number" "shown_number" zdj f fd) (ys:mg "str"=none) (ya:mg "abs"=none):FnOk P w K mg base CX0 1 f fd ["number"] zfq:=by
 refine F.ok zbL (fun vs H Q E h=>?_) (fun cdv A outer s H vs Q E hr h=>?_)
 ·obtain⟨n,rfl,_⟩:=h; rfl
 ·obtain⟨n,rfl,hs,k⟩:=h
  have hs':n.natAbs<10 ^ 16:=hs;refine⟨_,za (zo (i:=1) zbL.nd rfl (Or.inl rfl) (zw zef ze ze))
   (za (zo (i:=2) zbL.nd rfl (Or.inl rfl) (zC pa_nil))
   (za (zo (i:=3) zbL.nd rfl (Or.inl rfl) (zq ziS rfl ya znF (pa_cons (pv 0) pa_nil)))
   (za (zja AZ (zp zni (pv 3) (pv 1) (nomark _)) zA)
   (za (zv (zaF PySem.F.plainAttrs_list PySem.F.slot_list_append PySem.F.type_list_append zai (pv 2) (pa_cons (zj zbC rfl ys zmY (pa_cons (pv 3) pa_nil)) pa_nil)))
   (za (zv (zaF PySem.F.plainAttrs_list PySem.F.slot_list_append PySem.F.type_list_append zai (pv 2) (pa_cons (zdh (zp zgd (pv 0) ze (nomark _)) pe_str pe_str) pa_nil)))
   (za (zv (zmn PySem.F.plainAttrs_list PySem.F.slot_list_reverse PySem.F.type_list_reverse zgk (pv 2)))
   (zd (zl (zaF PySem.F.plainAttrs_str PySem.F.slot_str_join PySem.F.type_str_join zeG pe_str (pa_cons (pv 2) pa_nil)))))))))),?_⟩
  refine⟨_,_,rfl,rfl,⟨by decide,by decide,by decide⟩,zb (by simp),fun W hW=>⟨_,rfl,n,rfl,?_⟩⟩;have sW:=Same.new (o:=.lst []) hW;have hlt:(if n<0 then -n else n)<(10:Int) ^ (60:Int).toNat:=by
   have h1:(if n<0 then -n else n)<10 ^ 16:=by split <;> omega
   exact Int.lt_of_lt_of_le h1 (by decide)
  refine⟨fun m σ H'=>σ=[some (.int n),some (.int ((10:Int) ^ (60:Int).toNat)),some (.ref W),some (.int (if n<0 then -n else n))]/\H'=upd H W (.lst []),⟨0,rfl,rfl⟩,?_⟩;rintro m σ H' ⟨rfl,rfl⟩;refine⟨_,rfl,_,rfl,_,_,rfl,rfl,_,rfl,?_⟩;rw[decide_eq_false (Int.not_le.mpr hlt)];refine iteF ?_;refine⟨_,rfl,.inl ⟨rfl,_,SqL.of upd_same⟩,_,rfl,_,rfl,zmr (by split <;> omega),W,[],_,rfl,rfl,upd_same,zR (by simp),?_⟩;refine⟨_,rfl,.inl ⟨rfl,_,SqL.of upd_same⟩,_,rfl,_,_,rfl,rfl,_,rfl,?_⟩;have hlen:=(zk3 (n:=if n<0 then -n else n) (by show (if n<0 then -n else n).natAbs<10 ^ 16; split <;> omega)).2.1;refine ite2 (fun e=>?_) fun e=>?_
  ·have e0:n<0:=of_decide_eq_true e
   refine⟨W,_,_,rfl,rfl,upd_same,zR (by simp),_,rfl,.inl ⟨rfl,_,SqL.of upd_same⟩,W,_,rfl,rfl,upd_same,rfl,_,rfl,_,W,["-",fig (if n<0 then -n else n)],rfl,rfl,SqL.of (by rw[upd_same]; rfl),zmz (by decide) (by omega),?_⟩;rw[show Txt.join "" ["-",fig (if n<0 then -n else n)]=fig n from by rw[<- zfx n]; simp only[if_pos e0]];exact k _ (((sW.then hW).then hW).then hW)
  ·have e0:¬ n<0:=fun z=>e (decide_eq_true z)
   refine⟨W,_,_,rfl,rfl,upd_same,zR (by simp),_,rfl,.inl ⟨rfl,_,SqL.of upd_same⟩,W,_,rfl,rfl,upd_same,rfl,_,rfl,_,W,["",fig (if n<0 then -n else n)],rfl,rfl,SqL.of (by rw[upd_same]; rfl),zmz (by decide) (by omega),?_⟩;rw[show Txt.join "" ["",fig (if n<0 then -n else n)]=fig n from by rw[<- zfx n]; simp only[if_neg e0]];exact k _ (((sW.then hW).then hW).then hW)
def zfL:Sp:=fun vs H Q _=>∃a p n,vs=[.ref a,.int n]/\Tp H a p/\Tm (p,n)/\∀H',Same H H'->Q (.str (term (p,n))) H'
def zi2:zi ["piece","weight"] ["piece","weight"] (zf zdb):=⟨rfl,rfl,rfl,by decide +kernel,rfl,by decide +kernel,by decide +kernel⟩
def zhA {f fn fp:Addr}{fd ia ci:FuncData} (F:Fun K "shown_term" "shown_term" zdb f fd) (Fn:Fun K "shown_number" "shown_number" zdj fn ia) (bn:Binds K ia ["number"] []) (mn:mg "shown_number"=some (.ref fn)) (Gn:FnOk P w K mg base CX0 1 fn ia ["number"] zfq)
  (Fp:Fun K "shown_piece" "shown_piece" zcQ fp ci) (bp:Binds K ci ["piece"] []) (mp:mg "shown_piece"=some (.ref fp)) (Gp:FnOk P w K mg base CX0 1 fp ci ["piece"] ze2):FnOk P w K mg base CX0 2 f fd ["piece","weight"] zfL:=by
 refine F.ok zi2 (fun vs H Q E h=>?_) (fun cdv A outer s H vs Q E hr h=>?_)
 ·obtain⟨a,p,n,rfl,_⟩:=h; rfl
 ·obtain⟨a,p,n,rfl,ha,ht,k⟩:=h
  refine⟨_,zd (zl (zw zcu (zw zcu (zk Gn hr rfl mn Fn.kp bn .nil pass0 (pa_cons (pv 1) pa_nil)) pe_str) (zk Gp hr rfl mp Fp.kp bp .nil pass0 (pa_cons (pv 0) pa_nil)))),?_⟩;have h1:(fig n).length<=17:=(zk3 ht.2.2.2).2.1;have h2:(word p).length<=15:=(zcV ht.1 ht.2.2.1).2;have h3:(fig n++("*":Str)).length<=18:=by
   show ((fig n).cps++("*":Str).cps).size<=18;rw[Array.size_append,show ("*":Str).cps.size=1 from by decide +kernel];have:(fig n).cps.size<=17:=h1;omega
  exact⟨_,rfl,n,rfl,ht.2.2.2,fun H1 bA=>⟨_,_,rfl,rfl,zb (by rw[show ("*":Str).length=1 from by decide +kernel]; omega),_,rfl,a,p,rfl,bA.tp ha,ht.2.2.1,ht.1,fun H2 dI=>⟨_,_,rfl,rfl,zb (by omega),k H2 (bA.trans dI)⟩⟩⟩
end
def srC (ae:List (List Int)) (cs:Ch):Ch:=((canon ae).filter fun k=>decide (k∈ksC cs)).map fun k=>(k,getC cs k)
def zhv {cs:Ch} (hn:(ksC cs).Nodup) {c:List Int×Int} (hc:c∈cs):getC cs c.1=c.2:=by
 have h1:=zc7 cs c.1;rw[zba hn c hc] at h1;have:V.int c.2=V.int (getC cs c.1):=h1;injection this with this
 exact this.symm
def zcH {cs:Ch}{k:List Int} (h:k∈ksC cs):∃c∈cs,c.1=k:=by
 obtain⟨c,hc,e⟩:=List.mem_map.mp h;exact⟨c,hc,e⟩
structure Oc (ae:List (List Int)) (cs:Ch):Prop where
 hw:webS ae
 h56:(canon ae).length<=56
 nd:(ksC cs).Nodup
 inn:∀c∈cs,c.1∈canon ae
 hi:∃n:Nat,∀c∈cs,c.1.length=n
 nz:∀c∈cs,c.2≠0
 sm:∀c∈cs,Sm c.2
def Oc.len {ae:List (List Int)}{cs:Ch} (h:Oc ae cs):cs.length<=(canon ae).length:=by
 have:(ksC cs).length=cs.length:=Ab _;rw[<- this];exact h.nd.length_le_of_subset fun q hq=>by obtain⟨c,hc,rfl⟩:=zcH hq; exact h.inn c hc
def zl3 {ae:List (List Int)} (hw:webM ae=true) {q:List Int} (h:q∈canon ae):Pts q/\q≠[]/\q.length<=5:=by
 obtain⟨_,rJ,_,_⟩:=zh8 hw;obtain⟨t,ht,hx⟩:=List.mem_flatMap.mp (zaC.mp h);obtain⟨h0,h5,hp,_⟩:=zbo.mp (zgf (rJ t ht) hx);exact⟨hp,h0,h5⟩
def zfN {ae:List (List Int)}{cs:Ch} (h:Oc ae cs) (c:List Int×Int):c∈srC ae cs ↔ c∈cs:=by
 unfold srC;rw[List.mem_map];constructor
 ·rintro⟨k,hk,rfl⟩
  obtain⟨c,hc,rfl⟩:=zcH (of_decide_eq_true (List.mem_filter.mp hk).2);rw[zhv h.nd hc];exact hc
 ·intro hc
  exact⟨c.1,List.mem_filter.mpr ⟨h.inn c hc,decide_eq_true (List.mem_map.mpr ⟨c,hc,rfl⟩)⟩,by rw[zhv h.nd hc]⟩
def ziN (ae:List (List Int)) (cs:Ch):ksC (srC ae cs)=(canon ae).filter fun k=>decide (k∈ksC cs):=by
 unfold ksC srC;rw[Az];exact List.map_id' _
def zmo (ae:List (List Int)) (cs:Ch):(ksC (srC ae cs)).Nodup:=by rw[ziN]; exact (za5 ae).filter _
def zlh {ae:List (List Int)}{cs:Ch} (h:Oc ae cs) (k:List Int):k∈ksC (srC ae cs) ↔ k∈ksC cs:=by
 rw[ziN,List.mem_filter,decide_eq_true_eq];exact⟨fun z=>z.2,fun z=>⟨by obtain⟨c,hc,rfl⟩:=zcH z; exact h.inn c hc,z⟩⟩
def zmt {ae:List (List Int)}{cs:Ch} (h:Oc ae cs):(srC ae cs).length=cs.length:=by
 have e1:(ksC (srC ae cs)).length=(srC ae cs).length:=Ab _;have e2:(ksC cs).length=cs.length:=Ab _;rw[<- e1,<- e2];exact ((List.perm_ext_iff_of_nodup (zmo ae cs) h.nd).mpr (zlh h)).length_eq
def Oc.hc {ae:List (List Int)}{cs:Ch} (h:Oc ae cs):chM (canon ae) cs=true:=by
 obtain⟨n,hn⟩:=h.hi;exact znD h.inn hn h.nz
def znC {ae:List (List Int)}{cs:Ch} (h:Oc ae cs):Oc ae (srC ae cs):=
 ⟨h.hw,h.h56,zmo ae cs,fun c hc=>h.inn c ((zfN h c).mp hc),(let ⟨n,hn⟩:=h.hi; ⟨n,fun c hc=>hn c ((zfN h c).mp hc)⟩),fun c hc=>h.nz c ((zfN h c).mp hc),fun c hc=>h.sm c ((zfN h c).mp hc)⟩
def Oc.tm {ae:List (List Int)}{cs:Ch} (h:Oc ae cs):∀c∈cs,Tm c:=fun c hc=>by
 obtain⟨a,b,d⟩:=zl3 h.hw.1 (h.inn c hc);exact⟨a,b,d,h.sm c hc⟩
section
variable {P:Program}{w:World}{K:Ad}{mg:Str->Option Value}{base:Heap}
def zk9 {H:Hp}{as:List Addr}{ae:List (List Int)} (p:Tps H as ae):∀x∈ae.zip as,Tp H x.2 x.1:=by
 induction p with
 | nil=>intro x hx; cases hx
 | cons h t ih=>
  intro x hx;rcases List.mem_cons.mp hx with rfl | hx
  ·exact h
  ·exact ih x hx
def zfW {H2:Hp}{L D d:Addr}{as:List Addr}{kn:List (List Int)}{g:List Int->Int}{Q:VK}{te:TE} (mx:∀(a:Addr) (ps:List Int) (H:Hp) (R:VK),Same H2 H->Tp H a ps->ps∈kn->(∀H',Same H H'->R (.str (term (ps,g ps))) H')->te [some (.ref a),some (.ref d)] H R)
  (hl:SqL K H2 L (as.map V.ref)) (ht:Tps H2 as kn) (hz:kn.length<=1000) (hD:H2 D=none)
  (k:∀H3,Same H2 H3->H3 D=some (.lst (((kn.map fun q=>(q,g q)).map term).map V.str))->Q (.ref D) H3):zaf (Itl K L) (zZ 0) tYes te [none,some (.ref d)] H2 D Q:=by
 have aG:=ht.length;refine z0 (xs:=as.map V.ref) (fun j σ ys H3=>∃v:Option V,σ=[v,some (.ref d)]/\Same H2 H3/\H3 D=some (.lst ys)/\ys=(((kn.take j).map fun q=>(q,g q)).map term).map V.str) ?_ ?_ ?_ ?_
 ·exact⟨none,rfl,Same.new hD,upd_same,rfl⟩
 ·rintro j σ ys H3 ⟨v,rfl,sm,aj,rfl⟩
  exact sm.seq hl
 ·rintro j σ ys H3 x hx hj hy ⟨v,rfl,sm,aj,rfl⟩
  obtain⟨o,eo,rfl⟩:=zah hx;obtain⟨p,ep,hp⟩:=ht.get eo;have hn:(as.map V.ref).length<=sizeLine:=by rw[Ab]; exact zb (by omega)
  refine gyes ?_;refine mx o p H3 _ sm (sm.tp hp) (At ep) fun H4 aT=>cput hn hj hy (aT _ _ aj) ⟨_,rfl,(sm.trans aT).then hD,upd_same,?_⟩;rw[AY ep,Ar,Ar,Ar]
  rfl
 ·rintro σ ys H3 ⟨v,rfl,sm,aj,rfl⟩
  rw[Ab,aG,Av (Af _)] at aj;exact k H3 sm aj
def zfK:Sp:=fun vs H Q _=>∃l d as ae cs,vs=[.ref l,.ref d]/\H l=some (.lst (as.map V.ref))/\Tps H as ae/\Rd H d (.dT (kvC cs))/\Oc ae cs/\∀H',zr d H H'->Rd H' d (.dT (kvC cs))->Q (.str (ctext (srC ae cs))) H'
def ze8:zi ["web","chain"] ["web","chain"] (zf zcn):=⟨rfl,rfl,rfl,by decide +kernel,rfl,by decide +kernel,by decide +kernel⟩
def zhe {f fm fo fk ft:Addr}{fd cb bL cE bV:FuncData} (F:Fun K "shown_chain" "shown_chain" zcn f fd) (B:Bt mg) (Fm:Fun K "must_be_chain" "must_be_chain" zbn fm cb) (bm:Binds K cb ["web","chain"] []) (mm:mg "must_be_chain"=some (.ref fm)) (Gm:FnOk P w K mg base CX0 10 fm cb ["web","chain"] (zbb K))
  (Fo:Fun K "in_order" "in_order" zcG fo bL) (bo:Binds K bL ["some"] []) (mo:mg "in_order"=some (.ref fo)) (Fk:Fun K "order_key" "order_key" sKey fk cE) (bk:Binds K cE ["piece"] []) (mk:mg "order_key"=some (.ref fk))
  (Ft:Fun K "shown_term" "shown_term" zdb ft bV) (bt:Binds K bV ["piece","weight"] []) (mt:mg "shown_term"=some (.ref ft)) (Gt:FnOk P w K mg base CX0 2 ft bV ["piece","weight"] zfL):FnOk P w K mg base CX0 11 f fd ["web","chain"] zfK:=by
 have Go:FnOk P w K mg base CX0 4 fo bL ["some"] (zeI K):=ze0 Fo B Fk bk mk;refine F.ok ze8 (fun vs H Q E h=>?_) (fun cdv A outer s H vs Q E hr h=>?_)
 ·obtain⟨l,d,as,ae,cs,rfl,_⟩:=h; rfl
 ·obtain⟨l,d,as,ae,cs,rfl,hl,ht,hd,oc,k⟩:=h
  have hu:=zbE hr;have nE:Room 2 _:=hr.mono (by decide);have uh:Room 4 _:=hr.mono (by decide);refine⟨_,za (zv (zk Gm hr rfl mm Fm.kp bm .nil pass0 (pa_cons (pv 0) (pa_cons (pv 1) pa_nil))))
   (zd (zl (zaF PySem.F.plainAttrs_str PySem.F.slot_str_join PySem.F.type_str_join zeG pe_str (pa_cons (zB ["web","chain"] ["piece","chain"] [none,some 1]
    (zL (zk Go uh rfl mo Fo.kp bo .nil pass0 (pa_cons (zj (zad rfl) rfl B.list zan (pa_cons (pv 1) pa_nil)) pa_nil))) (fun cl C s₀ H₀ ex=>zm (i:=0) (ndN ["piece","chain"]) rfl (Or.inl rfl)) (fun cl C s₀ H₀ ex=>zM)
    (fun cl C s₀ H₀ ex=>zk Gt nE rfl mt Ft.kp bt .nil pass0 (pa_cons (pv 0) (pa_cons (zbt hu (pv 1) (pv 0) (fun _ _=>rfl)) pa_nil))) (hfr:=frOf (zf zcn) (by decide +kernel))) pa_nil)))),?_⟩
  have oZ:=oc.len;have h56:=oc.h56;refine⟨_,rfl,_,rfl,l,d,as,ae,cs,rfl,SqL.of hl,ht,oc.hw,by omega,hd,by omega,by omega,oc.hc,fun H1 aM bQ=>?_⟩;refine⟨rfl,_,rfl,d,kvC cs,rfl,bQ,fun bs pb L hL=>?_⟩;have sL:=Same.new (o:=.lst (bs.map V.ref)) hL;have tb:=sL.tps (zbK pb);refine⟨L,bs,ksC cs,rfl,SqL.of upd_same,tb,by rw[zaI]; omega,fun D H2 qs dI cG hD bq nU=>⟨D,rfl,⟨_,SqL.of hD⟩,fun E' hE=>?_⟩⟩;have s2:=sL.trans dI;have bj:H2 D=some (.lst ((qs.map (·.2)).map V.ref)):=by rw[hD,Az]; rfl
  have hz:=zk9 tb;have tq:Tps H2 (qs.map (·.2)) (qs.map (·.1)):=zc3 fun q hq=>dI.tp (hz q (bq.subset hq));have hZ:(qs.map (·.1)).Perm (ksC cs):=by
   have:=bq.map (·.1);rw[List.map_fst_zip (by rw[tb.length]; exact Af _)] at this;exact this
  have hk:qs.map (·.1)=(canon ae).filter fun q=>decide (q∈ksC cs):=by
   refine zd0 (hZ.trans ((List.perm_ext_iff_of_nodup oc.nd ((za5 ae).filter _)).mpr fun q=>?_)) ?_ ((zaM ae).sublist List.filter_sublist)
   ·rw[List.mem_filter,decide_eq_true_eq]
    exact⟨fun z=>⟨by obtain⟨c,hc,rfl⟩:=zcH z; exact oc.inn c hc,z⟩,fun z=>z.2⟩
   ·rw[List.pairwise_map]; exact nU.imp fun h=>za4.mpr h
  rw[hk] at tq;have dL:=bQ.same s2;have sJ:((canon ae).filter fun q=>decide (q∈ksC cs)).length<=56:=AA (List.length_filter_le _ _) h56;have so:=znC oc;refine zI (zfW (d:=d) (g:=getC cs) (fun a p H' R sm ha hm hR=>?_) (SqL.of bj) tq (by omega) hE fun H3 aE rp=>⟨_,E',_,rfl,rfl,SqL.of rp,(zie so.tm (by rw[zmt oc]; omega)).1,?_⟩)
  ·obtain⟨c,hc,rfl⟩:=zcH (of_decide_eq_true (List.mem_filter.mp hm).2)
   rw[zhv oc.nd hc] at hR;exact⟨_,rfl,_,rfl,_,rfl,d,_,rfl,.inr ⟨kvC cs,c.1.map Sum.inl,a,dL.same sm,rfl,zfE ha,(zba oc.nd c hc).symm⟩,a,c.1,c.2,rfl,ha,oc.tm c hc,hR⟩
  ·exact k H3 (aM.trans (zr.of (s2.trans aE))) (dL.same aE)
end
end K19
end
section
namespace L2
open PySem PySem.Spec PyProof.Rows
def zk6 (f:Array Value->Array Value) (o:Obj):(o.mapFields f).dict=o.dict:=by unfold Obj.mapFields; split <;> rfl
def Xc (h:Heap) (x:Addr) (C:Value) (T:Option Addr):Prop:=
 ∃oe vs,h.get? x=some oe/\oe.cls=C/\oe.dict=none/\oe.data=.fields vs/\1<vs.size/\((T=none/\vs[1]?=some .none) \/ ∃a oT ts,T=some a/\vs[1]?=some (.ref a)/\a≠x/\h.get? a=some oT/\oT.data=.fields ts/\ts[3]?=some .none)
def zcy (fr:List Addr) (x:Addr) (T:Option Addr) (h h':Heap):Prop:=
 (∀b o,h.get? b=some o->b≠x->T≠some b->b∉fr->h'.get? b=some o)/\(∀b o,h.get? b=some o->b∈fr->∃sl,h'.get? b=some { o with slots:=sl })/\h.objs.size<=h'.objs.size
section
variable {M:Model}{A:Around}{E:Value->Shared->Prop}{s:Shared}
def zbW {base:Heap}{env:Env}{outer:List Env}{L x:Addr}{oe:Obj}{vs:Array Value}{head:Value}{fO:Bool}{Q:Unit->Shared->Prop}
  (hfr:A.frames=some (env::outer)) (hl:s.heap.FunFrames base (env::outer)) (hf:env.frame=some L) (he:s.heap.get? x=some oe) (eO:oe.dict=none) (hd:oe.data=.fields vs) (hsz:1<vs.size)
  (h:∀h' T',s.heap.objs.size<=T'->Xc h' x oe.cls (some T')->zcy ((env::outer).filterMap (·.frame)) x none s.heap h'->Q () { s with heap:=h' }) :
  wpAny M A (do let a <- frameOf env; let pl <- entryPlaceOf L fO; let b <- EntryCells.newEntry head a .none (rawInt L) .none pl; setField (.ref x) 1 b) (fun _ s'=>wpAny M A (setFlight (.ref x) none) Q E s') E s:=by
 have hene:x∉(env::outer).filterMap (·.frame):=fun hm=>by
  obtain⟨_,o,ho,dv⟩:=hl.mem hm;rw[he] at ho; injection ho with ho; subst ho; exact dv vs hd
 refine Aa (wpAny_frameOf_fun hfr hl hf fun aq aU=>?_);refine Aa (wpAny_entryPlaceOf fun pl hpl=>?_);unfold EntryCells.newEntry newFields;refine Aa (AI ?_ (hpl.sizeOk5 _ _ _ _ _));have bh:aq.get? x=some oe:=(aU.2.1 x hene).trans he;have aP:=Ae (h:=aq) { cls:=.type "traceback",dict:=none,data:=.fields ([head,.ref L,.none,rawInt L,.none]++(if pl.isEmpty then List.replicate 6 Value.none else pl)).toArray } bh;refine wpAny_setField aP hd hsz ?_;have kX:aq.objs.size≠x:=A1 (Aj bh);have eG:=Obj.data_mapFields hd (·.setIfInBounds 1 (Value.ref aq.objs.size));have bT:=AU (Obj.mapFields (·.setIfInBounds 1 (Value.ref aq.objs.size))) aP (Obj.isFreed_of_fields eG);have gb:=(AE (aq.push { cls:=.type "traceback",dict:=none,data:=.fields ([head,.ref L,.none,rawInt L,.none]++(if pl.isEmpty then List.replicate 6 Value.none else pl)).toArray })
  (Obj.mapFields (·.setIfInBounds 1 (Value.ref aq.objs.size))) (Ne.symm kX)).trans (Ak aq rfl)
 unfold setFlight;refine Aa (AN bT eG (x:=.ref aq.objs.size) (by simp[hsz]) ?_);rw[if_pos (show (Value.ref aq.objs.size != Value.none)=true from by simp)];have om:aq.objs.size=s.heap.objs.size:=aU.1;refine wpAny_setField gb rfl (by simp only[Ag,Aq,Ap,List.length_nil] <;> omega) (h _ aq.objs.size (by omega) ?_ ?_)
 ·refine⟨_,_,?_,Obj.cls_mapFields _ _,(zk6 _ _).trans eO,eG,by simpa using hsz,.inr ⟨aq.objs.size,_,_,rfl,by simp[hsz],kX,AU _ gb (Obj.isFreed_of_fields (Obj.data_mapFields rfl _)),Obj.data_mapFields rfl _,?_⟩⟩
  ·rw[AE _ _ kX]; exact bT
  ·first | (simp; done) | (rcases hpl with rfl | ⟨_,_,_,_,_,_,_,rfl⟩ <;> simp)
 ·have keep:∀b o,b≠x->aq.get? b=some o->
    (((aq.push { cls:=.type "traceback",dict:=none,data:=.fields ([head,.ref L,.none,rawInt L,.none]++(if pl.isEmpty then List.replicate 6 Value.none else pl)).toArray }).update x (Obj.mapFields (·.setIfInBounds 1 (Value.ref aq.objs.size)))).update aq.objs.size
     (Obj.mapFields (·.setIfInBounds 3 ((none:Option Addr).elim Value.none fun f=>rawInt f)))).get? b=some o:=fun b o hbe hb=>by
   have hbT:aq.objs.size≠b:=A1 (Aj hb);rw[AE _ _ hbT,AE _ _ (Ne.symm hbe)];exact Ae _ hb
  refine⟨fun b o hb iI _ dB=>keep b o iI ((aU.2.1 b dB).trans hb),fun b o hb dB=>?_,?_⟩
  ·obtain⟨sl,iZ⟩:=aU.2.2 b o hb
   exact⟨sl,keep b _ (fun e=>hene (e ▸ dB)) iZ⟩
  ·rw[A0,A0,Heap.size_push]
   show s.heap.objs.size<=aq.objs.size+1;omega
def zgI {base:Heap}{env:Env}{outer:List Env}{L x:Addr}{C:Value}{T:Option Addr}{Q:Unit->Shared->Prop}
  (hfr:A.frames=some (env::outer)) (hl:s.heap.FunFrames base (env::outer)) (hf:env.frame=some L) (he:Xc s.heap x C T)
  (h:∀h' T',s.heap.objs.size<=T'->Xc h' x C (some T')->zcy ((env::outer).filterMap (·.frame)) x T s.heap h'->Q () { s with heap:=h' }):wpAny M A (leaving env (.ref x)) Q E s:=by
 obtain⟨oe,vs,he,rfl,eO,hd,hsz,h1⟩:=he;unfold leaving noteFrame;simp only[hf];rcases h1 with ⟨rfl,h1⟩ | ⟨a,oT,ts,rfl,h1,eT,hT,cK,h3⟩
 ·refine Aa (Aa (AN he hd h1 ?_))
  rw[if_neg (by decide)];exact zbW hfr hl hf he eO hd hsz h
 ·refine Aa (Aa (AN he hd h1 ?_))
  rw[if_pos (show (Value.ref a != Value.none)=true from by simp)];refine Aa (AN hT cK h3 ?_);rw[if_neg (show ¬ ((Value.none == rawInt L)=true) from by simp[rawInt])];refine Aa (wpAny_setField hT cK (Array.getElem?_eq_some_iff.mp h3).1 ?_);have aY:∀b,b≠a->(s.heap.update a (Obj.mapFields (·.setIfInBounds 3 Value.none))).get? b=s.heap.get? b:=fun b hb=>AE _ _ (Ne.symm hb);have aR:∀b o,s.heap.get? b=some o->(∀vs,o.data≠.fields vs)->b≠a:=fun b o hb dv q=>by
   rw[q,hT] at hb; injection hb with hb; subst hb; exact dv ts cK
  refine zbW hfr (hl.of_keeps fun b o hb dv=>⟨o,(aY b (aR b o hb dv)).trans hb,rfl⟩) hf ((aY x (Ne.symm eT)).trans he) eO hd hsz fun h' T' fX hx hk=>h h' T' (by rw[A0] at fX; exact fX) hx ?_;obtain⟨k1,k2,k3⟩:=hk;refine⟨fun b o hb iI hbT dB=>k1 b o ((aY b fun e=>hbT (by rw[e])).trans hb) iI (by simp) dB,fun b o hb dB=>?_,by rw[A0] at k3; exact k3⟩;obtain⟨_,o',ho',dv⟩:=hl.mem dB;rw[hb] at ho'; cases ho';exact k2 b o ((aY b (aR b o hb dv)).trans hb) dB
end
def CX1 (P:Program) (w:World):CXT:=fun outer H s E e s'=>∃(x C:Addr) (T:Option Addr) (H':Hp),e=.ref x/\s'.os=s.os/\AllBare s'.gens/\Un (frs outer) [] H H' s.heap s'.heap/\HOk P w H' s'.heap/\
 H' x=none/\s.heap.get? x=none/\(∀a,T=some a->H' a=none/\s.heap.get? a=none)/\Xc s'.heap x (.ref C) T/\E e (some C) H'
def zkm {P:Program}{w:World}{H:Hp}{h h':Heap}{fr:List Addr}{x:Addr}{T:Option Addr} (hok:HOk P w H h) (k:zcy fr x T h h') (hx:H x=none) (hT:∀a,T=some a->H a=none) (hf:∀b∈fr,H b=none):HOk P w H h':=by
 intro b u e;refine (hok b u e).stay (fun c v hc q=>k.1 c v q ?_ ?_ ?_) (fun _ q=>q) fun _ _ q=>q
 all_goals
  have hcn:H c≠none:=by
   rcases hc with z | z
   ·rw[z,e]; simp
   ·rw[z]; simp
 ·exact fun z=>hcn (z ▸ hx)
 ·exact fun z=>hcn (hT c z)
 ·exact fun z=>hcn (hf c z)
def zea {P:Program}{w:World}{K:Ad}{mg:Str->Option Value}{base:Heap}{N:List Str}{al:Str}{scope:Scope}{f:Addr}{cd:Value}{A:Around}{outer:List Env}{s:Shared}{H:Hp}{E:XK}
  {aa:List (Addr×Obj)} {σ:St} {H':Hp} {s':Shared} {x C:Addr} {T:Option Addr} (I:Inv (cxOf (CX1 P w) P w K mg base N al scope f cd A outer s H E) aa σ H' s')
  (hx:Xc s'.heap x (.ref C) T) (e_:H' x=none) (f_:s.heap.get? x=none) (hT:∀a,T=some a->H' a=none/\s.heap.get? a=none) (hE:E (.ref x) (some C) H') :
  (cxOf (CX1 P w) P w K mg base N al scope f cd A outer s H E).xe (.ref x) s':=by
 show wpAny (model P w) (A.deeper (envOfC al scope s.heap.objs.size f cd)) (leaving (envOfC al scope s.heap.objs.size f cd) (.ref x)) _ _ s';refine zgI I.ok.frames I.stack rfl hx fun h' T' fX hx' hk=>?_;have hfr:=I.stkFree;have hsz:s.heap.objs.size<=s'.heap.objs.size:=I.sz;have dW:∀b o,s.heap.get? b=some o->b≠x/\T≠some b/\b≠s.heap.objs.size:=fun b o e=>by
  have hb:=Aj e;exact⟨fun z=>(by rw[z,f_] at e; cases e),fun z=>(by rw[(hT b z).2] at e; cases e),As hb⟩
 have up:∀b o o',s.heap.get? b=some o->s'.heap.get? b=some o'->b∉frs outer->h'.get? b=some o':=fun b o o' e e' hb=>by
  obtain⟨n1,n2,n3⟩:=dW b o e;refine hk.1 b o' e' n1 n2 fun hm=>?_;have eJ:b∈s.heap.objs.size::frs outer:=hm;rcases List.mem_cons.mp eJ with z | z
  ·exact n3 z
  ·exact hb z
 have upf:∀b o',s'.heap.get? b=some o'->b∈frs outer->∃sl,h'.get? b=some { o' with slots:=sl }:=fun b o' e' hb=>hk.2.1 b o' e' (show b∈s.heap.objs.size::frs outer from Aw _ hb);have kI:∀b:Addr,b∉(cxOf (CX1 P w) P w K mg base N al scope f cd A outer s H E).ex:=fun b z=>absurd (show b∈([]:List Addr) from z) (by simp);refine⟨x,C,some T',H',rfl,I.os,I.bare,⟨fun b o q n hb hx=>?_,fun b o q n hb hx=>?_,fun b o q n hx=>I.base.free b o q n (kI b),fun b o q hx=>?_,I.base.tups,I.base.frzs,I.base.tbls⟩,zkm I.hok hk e_ (fun a e=>(hT a e).1) hfr,e_,f_,fun a e=>?_,hx',hE⟩
 ·exact up b o o q (I.base.keep b o q n hb (kI b)) hb
 ·obtain⟨sl,e⟩:=I.base.slot b o q n hb (kI b)
  obtain⟨fT,e'⟩:=upf b _ e hb;exact⟨fT,e'⟩
 ·obtain⟨o',e⟩:=I.base.there b o q (kI b)
  by_cases hb:b∈frs outer
  ·obtain⟨sl,e'⟩:=upf b o' e hb
   exact⟨_,e'⟩
  ·exact⟨o',up b o o' q e hb⟩
 ·cases e
  refine⟨I.hok.fresh fX,?_⟩;cases q:s.heap.get? T' with
  | none=>rfl
  | some o=>exact absurd (Aj q) (Nat.not_lt.mpr (AA hsz fX))
def pass1 {P:Program}{w:World}{K:Ad}{mg:Str->Option Value}{base:Heap}{N:List Str}{al:Str}{scope:Scope}{f:Addr}{cd:Value}{A:Around}{outer:List Env}{s:Shared}{H:Hp}{E:XK} :
  Passes (CX1 P w) (cxOf (CX1 P w) P w K mg base N al scope f cd A outer s H E) E:=by
 rintro aa σ H1 s1 e s2 I ⟨x,C,T,H',rfl,os,bare,un,hok,e_,f_,hT,hx,hE⟩;have I2:Inv (cxOf (CX1 P w) P w K mg base N al scope f cd A outer s H E) aa σ H' s2:=I.call' (ch:=[]) os un hok bare (fun b z=>absurd z (by simp));have back:∀b,s1.heap.get? b=none->s.heap.get? b=none:=fun b hb=>by
  cases q:s.heap.get? b with
  | none=>rfl
  | some o=>
   obtain⟨o',e⟩:=I.base.there b o q (fun z=>absurd (show b∈([]:List Addr) from z) (by simp));rw[hb] at e; cases e
 exact zea I2 hx e_ (back x f_) (fun a e=>⟨(hT a e).1,back a (hT a e).2⟩) hE
def FnOk.cx1 {P:Program}{w:World}{K:Ad}{mg:Str->Option Value}{base:Heap}{k:Nat}{f:Addr}{fd:FuncData}{ps:List Str}{sp:Sp} (F:FnOk P w K mg base CX0 k f fd ps sp):FnOk P w K mg base (CX1 P w) k f fd ps sp:=
 ⟨F.len,fun A outer s H args us vs Q E hr e0 hb hv hs=>codeAny_mono (F.run A outer s H args us vs Q E hr e0 hb hv hs) fun r s' h=>by
  cases r with
  | error e=>exact h.elim
  | ok fl=>cases fl <;> exact h⟩
def Fun.ok1 {P:Program}{w:World}{K:Ad}{mg:Str->Option Value}{base:Heap}{x al:Str}{st:Stmt}{f:Addr}{fd:FuncData}{N ps:List Str}{k:Nat}{sp:Sp} (F:Fun K x al st f fd) (S:zi N ps (zf st)) (len:∀vs H Q E,sp vs H Q E->vs.length=ps.length)
  (a9:∀(cdv:Value) (A:Around) (outer:List Env) (s:Shared) (H:Hp) (vs:List V) (Q:VK) (E:XK),Room k (A.deeper (envOfC al (zf st) s.heap.objs.size f cdv))->sp vs H Q E->
   ∃t,PSs (cxOf (CX1 P w) P w K mg base N al (zf st) f cdv A outer s H E) (zH st) t/\t { nx:=fun _ H'=>Q .non H',rt:=Q } (start N vs) H):FnOk P w K mg base (CX1 P w) (k+1) f fd ps sp:=by
 obtain⟨oc,od,kV,bc,pm,an,cdv,ct,dl,rfl,lk,bJ⟩:=F.ex;exact zmc lk bJ S len fun A outer s H vs Q E hr cY=>a9 cdv A outer s H vs Q E hr cY
def zjO {P:Program}{w:World}{H:Hp}{h:Heap}{a:Addr}{o:HO} (x:zx P w H h a o):∃ob,h.get? a=some ob:=by
 cases o with
 | lst xs=>obtain⟨_,_,_,_,e⟩:=x; exact⟨_,e⟩
 | tup xs=>obtain⟨_,_,_,o,e,_⟩:=x; exact⟨_,e⟩
 | dK kvs=>obtain⟨_,_,_,_,o,_,_,e,_⟩:=x; exact⟨_,e⟩
 | dT kvs=>obtain⟨_,_,_,_,o,_,_,e,_⟩:=x; exact⟨_,e⟩
 | set S n=>obtain⟨o,_,_,_,e,_⟩:=x; exact⟨_,e⟩
 | ins C dx fs=>obtain⟨_,_,_,e,_⟩:=x; exact⟨_,e⟩
 | own y=>exact x
 | xd fs=>obtain⟨_,⟨_,_,_,e,_⟩,_⟩:=x; exact⟨_,e⟩
 | met f y=>exact⟨_,x⟩
 | rng lo hi=>obtain⟨_,_,_,e⟩:=x; exact⟨_,e⟩
 | frz ob u=>exact⟨_,x.1⟩
 | tbl ps=>exact⟨_,x⟩
 | ext φ=>exact x.2.1
def zeq {K:Ad}{h:Heap}{C:Addr}{mE:List Value}{bC:String} (X:K.In h) (q:PySem.W.excIn K C mE bC=true) :
  ∃bm N nm qn bs hdct sn sub ab col dd k0 k1 k2 k3 k5,∃mN:Str->Option Value,mN "__init__"=none/\(∀T,mE.contains (.type T)=true->bm.contains (.type T)=true)/\∀h':Heap,K.In h'->h'.get? C=some (excClassObj nm qn C N bs bm hdct sn sub ab col dd k0 k1 k2 k3 k5 bC)/\h'.Ns N mN/\OwnTail h' mE bm:=by
 unfold PySem.W.excIn at q;split at q
 ·rename_i dd cd sl ho
  split at q
  ·rename_i C' bm k0 k1 k2 k3 n k5 hm hs
   simp only[AF,beq_iff_eq,Bool.not_eq_true'] at q;obtain⟨⟨⟨⟨⟨rfl,rfl⟩,iV⟩,ht⟩,hok⟩,kt⟩:=q;obtain⟨nm,bs,mro,ns,qn,hd,sn,sub,ab,col,xQ⟩:=cd;dsimp only at hm iV hok kt;subst hm iV;have iZ:sl=#[k0,k1,k2,k3,some (.builtin n),k5]:=by
    obtain⟨l⟩:=sl;simp only at hs;rw[hs]
   subst iZ;refine⟨bm,ns,nm,qn,bs,hd,sn,sub,ab,col,dd,k0,k1,k2,k3,k5,h.nsMap ns,PySem.W.nsMap_none_of_in X hok kt,fun T hT=>(PySem.W.tail_of_in X ht).hasType hT,fun h' X'=>⟨X' _ _ ho,?_,PySem.W.tail_of_in X' ht⟩⟩;have hN:h.Ns ns (h.nsMap ns):=.of_isNs (PySem.W.isNs_of_in X hok);unfold PySem.W.nsOkIn at hok;split at hok
   ·rename_i c1 d1 eU cZ sl1 fe
    exact hN.at' fun o e=>by
     rw[X _ _ fe] at e;rw[<- e];exact X' _ _ fe
   ·cases hok
  ·cases q
 ·cases q
abbrev bmV:List Value:=[.type "ValueError",.type "Exception",.type "BaseException",.type "object"]
section
variable {X:Cx}
def zmy (EX:XK) (C:Addr):TS:=fun _ _ H=>∀x,H x=none->EX (.ref x) (some C) H
def zbS {x:Str}{C:Addr}{jX:Str}{j:Nat}{np mp au pos:Pos}{EX:XK} (hc:X.calm=true) (hg:Gl X x) (hm:X.mg x=some (.ref C)) (q:PySem.W.excIn X.K C bmV "ValueError.__new__"=true)
  (rL:∀(aa:List (Addr×Obj)) (σ:St) (H:Hp) (s:Shared) (x:Addr),Inv X aa σ H s->Xc s.heap x (.ref C) none->H x=none->X.s₀.heap.get? x=none->EX (.ref x) (some C) H->X.xe (.ref x) s)
  (hex:X.ex=[]:=by rfl) (hd:(x == ("__debug__":Str))=false:=by decide) (cQ:(backTo au (starEach [Expr.Constant (.str jX) j mp] X.env)).any (·.1)=false:=by rfl) :
  PS X (.Raise (some (.Call (.Name x np) [.Constant (.str jX) j mp] [] au)) none pos) (zmy EX C):=by
 intro aa s σ H D I h;obtain⟨bm,N,nm,qn,bs,hdct,sn,sub,ab,col,dd,k0,k1,k2,k3,k5,mN,kt,kq,dG⟩:=zeq I.kIn q;refine wpAny_Raise_call_subU (C:=C) (nm:=nm) (q:=qn) (N:=N) (bs:=bs) (bm:=bm) (hdct:=hdct) (sn:=sn) (sub:=sub) (ab:=ab) (col:=col) (dd:=dd) (k0:=k0) (k1:=k1) (k2:=k2) (k3:=k3) (k5:=k5) PySem.F.excBase_ValueError PySem.F.excBase_ValueError.hasB PySem.F.excBase_ValueError (kq _ PySem.F.excBase_ValueError.hasBase) (I.ok.hd hc) cQ kt ?_;refine thn (zaQ (v:=.ref C) hg hm rfl hd aa s σ H (fun v H1=>v=.ref C/\H1=H) I ⟨rfl,rfl⟩) fun f am ⟨v,H1,I1,r1,e1,e2⟩=>?_;subst e1 e2;cases r1;refine⟨rfl,?_⟩;have hA:=(pa_cons pe_str pa_nil:PA X [Expr.Constant (.str jX) j mp] _) au aa am σ H1 (fun vs H2=>vs=[.str jX]/\H2=H1) I1 ⟨rfl,rfl⟩;refine Calls.evalArgs_plain (thn hA fun us az ⟨vs,H2,I2,r2,e3,e4⟩=>?_);subst e3 e4;obtain⟨c1,c2,c3⟩:=dG az.heap I2.kIn;refine⟨rfl,?_,c1,c2,c3,fun h' e hm=>?_⟩
 ·rw[<- r2.length]; show 1<=sizeLine; decide
 obtain⟨t,ht,_,_⟩:=hm.there;have I3:Inv X aa σ H2 { az with heap:=h' }:=I2.kept (t':=az.toks) hm.keeps;have he:H2 e=none:=by
  cases z:H2 e with
  | none=>rfl
  | some u=>
   obtain⟨o,ho⟩:=zjO (I2.hok e u z);rw[hm.new] at ho; cases ho
 refine rL aa σ H2 _ e I3 ⟨_,_,ht,rfl,rfl,rfl,(by show 1<6; decide),.inl ⟨rfl,rfl⟩⟩ he ?_ (h e he);cases z:X.s₀.heap.get? e with
 | none=>rfl
 | some o=>
  obtain⟨o',ho⟩:=I2.base.there e o z (by rw[hex]; simp);rw[hm.new] at ho; cases ho
end
section
variable {M:Model}{A:Around}{E:Value->Shared->Prop}{s:Shared}
def zkS {base:Heap}{env:Env}{outer:List Env}{L x:Addr}{C:Value}{T:Option Addr}{Q:Unit->Shared->Prop}
  (hfr:A.frames=some (env::outer)) (hl:s.heap.FunFrames base (env::outer)) (hf:env.frame=some L) (he:Xc s.heap x C T)
  (h:∀h' T',s.heap.objs.size<=T'->Xc h' x C (some T')->zcy ((env::outer).filterMap (·.frame)) x T s.heap h'->Q () { s with heap:=h' }) :
  wpAny M A (noteFrame (.ref x) env) (fun _ az=>wpAny M A (setFlight (.ref x) none) Q E az) E s:=by
 obtain⟨oe,vs,he,rfl,eO,hd,hsz,h1⟩:=he;unfold noteFrame;simp only[hf];rcases h1 with ⟨rfl,h1⟩ | ⟨a,oT,ts,rfl,h1,eT,hT,cK,h3⟩
 ·refine Aa (AN he hd h1 ?_)
  rw[if_neg (by decide)];exact zbW hfr hl hf he eO hd hsz h
 ·refine Aa (AN he hd h1 ?_)
  rw[if_pos (show (Value.ref a != Value.none)=true from by simp)];refine Aa (AN hT cK h3 ?_);rw[if_neg (show ¬ ((Value.none == rawInt L)=true) from by simp[rawInt])];refine Aa (wpAny_setField hT cK (Array.getElem?_eq_some_iff.mp h3).1 ?_);have aY:∀b,b≠a->(s.heap.update a (Obj.mapFields (·.setIfInBounds 3 Value.none))).get? b=s.heap.get? b:=fun b hb=>AE _ _ (Ne.symm hb);have aR:∀b o,s.heap.get? b=some o->(∀vs,o.data≠.fields vs)->b≠a:=fun b o hb dv q=>by
   rw[q,hT] at hb; injection hb with hb; subst hb; exact dv ts cK
  refine zbW hfr (hl.of_keeps fun b o hb dv=>⟨o,(aY b (aR b o hb dv)).trans hb,rfl⟩) hf ((aY x (Ne.symm eT)).trans he) eO hd hsz fun h' T' fX hx hk=>h h' T' (by rw[A0] at fX; exact fX) hx ?_;obtain⟨k1,k2,k3⟩:=hk;refine⟨fun b o hb iI hbT dB=>k1 b o ((aY b fun e=>hbT (by rw[e])).trans hb) iI (by simp) dB,fun b o hb dB=>?_,by rw[A0] at k3; exact k3⟩;obtain⟨_,o',ho',dv⟩:=hl.mem dB;rw[hb] at ho'; cases ho';exact k2 b o ((aY b (aR b o hb dv)).trans hb) dB
def zh3 {x:Addr}{C:Value}{T:Addr}{Q:Unit->Shared->Prop} (he:Xc s.heap x C (some T))
  (h:∀h',Xc h' x C (some T)->zcy [] x (some T) s.heap h'->Q () { s with heap:=h' }):wpAny M A (setFlight (.ref x) none) Q E s:=by
 obtain⟨oe,vs,he,rfl,eO,hd,hsz,h1⟩:=he;rcases h1 with ⟨z,_⟩ | ⟨a,oT,ts,z,h1,eT,hT,cK,h3⟩
 ·cases z
 cases z;unfold setFlight;refine Aa (AN he hd h1 ?_);rw[if_pos (show (Value.ref T != Value.none)=true from by simp)];have hlt:=(Array.getElem?_eq_some_iff.mp h3).1;refine wpAny_setField hT cK hlt (h _ ?_ ?_)
 ·refine⟨oe,vs,?_,rfl,eO,hd,hsz,.inr ⟨T,_,_,rfl,h1,eT,AU _ hT (Obj.isFreed_of_fields (Obj.data_mapFields cK _)),Obj.data_mapFields cK _,?_⟩⟩
  ·rw[AE _ _ eT]; exact he
  ·simp[hlt]
 ·refine⟨fun b o hb iI hbT _=>?_,fun b o _ z=>absurd z (by simp),by rw[A0]; exact Af _⟩
  rw[AE _ _ (fun e=>hbT (by rw[e]))]; exact hb
def zgw {C S:Addr}{nm q N bs bm hdct sn sub ab col dd k0 k1 k2 k3 k5 bC}{iF q' N' fg fF bS iA dC iq dn dz gU iT iG iQ iL bZ}{h:Heap}{g:Array GenState}{d:Drawn}{t:Nat}{os:OsState}{e:Addr}{oe:Obj}{Q:Bool->Shared->Prop}
  (hC:h.get? C=some (excClassObj nm q C N bs bm hdct sn sub ab col dd k0 k1 k2 k3 k5 bC)) (hS:h.get? S=some (excClassObj iF q' S N' fg fF bS iA dC iq dn dz gU iT iG iQ iL bZ)) (he:h.get? e=some oe) (h_:oe.cls=.ref C)
  (aZ:fF.contains (.type "BaseException")=true) (aH:(Value.ref C::bm).contains (.ref S)=true)
  (hq:Q true ⟨h,g,d,t,os⟩):wpAny M A (excMatches (.ref e) (.ref S)) Q E ⟨h,g,d,t,os⟩:=by
 have hcB:(Value.ref S::fF).contains (.type "BaseException")=true:=by rw[List.contains_cons,aZ,Bool.or_true]
 have f:=tc_notTuple;unfold excMatches
 repeat (first | (with_reducible refine wpAny_loadPart_at he ?_; rw[h_]) | with_reducible refine wpAny_loadPart_at hS ?_ | (with_reducible refine wpAny_isSubtype_exc hS ?_; rw[hcB]) | (with_reducible refine wpAny_isSubtype_exc hC ?_; rw[aH]) | wp_step)
 exact hq
end
section
variable {X:Cx}{aa:List (Addr×Obj)}{σ:List (Option V)}{H H':Hp}{s:Shared}{h':Heap}
structure Off (X:Cx) (aa:List (Addr×Obj)) (x:Addr):Prop where
 s0:X.s₀.heap.get? x=none
 lo:x≠X.env.locals
 ce:∀y c,X.env.cells.lookup y=some c->c≠x
 pn:∀p∈X.pn++aa,p.1≠x
def Inv.off (I:Inv X aa σ H s) (hex:X.ex=[]) {x:Addr} (h:s.heap.get? x=none):Off X aa x:=by
 refine⟨?_,fun e=>?_,fun y c e z=>?_,fun p hp z=>?_⟩
 ·cases q:X.s₀.heap.get? x with
  | none=>rfl
  | some o=>
   obtain⟨o',e⟩:=I.base.there x o q (by rw[hex]; simp);rw[h] at e; cases e
 ·obtain⟨m,⟨o,_,_,ho,_⟩,_⟩:=I.loc
  rw[<- e,h] at ho; cases ho
 ·obtain⟨v,o,ho,_⟩:=I.cell y c e
  rw[z,h] at ho; cases ho
 ·have:=(I.pin p hp).1
  rw[z,h] at this; cases this
def Inv.stepN {ch:List Addr} (I:Inv X aa σ H s) (cf:∀b∈ch,Off X aa b)
  (keep:∀b o,b≠X.env.locals->b∉X.fs->b∉ch->s.heap.get? b=some o->H b=none->h'.get? b=some o)
  (slot:∀b o,b≠X.env.locals->b∈X.fs->b∉ch->s.heap.get? b=some o->H b=none->∃sl,h'.get? b=some { o with slots:=sl }) (free:∀b o,b∉ch->s.heap.get? b=some o->H b=none->H' b=none)
  (there:∀b o,b∉ch->s.heap.get? b=some o->∃o',h'.get? b=some o')
  (tups:∀b xs,H b=some (.tup xs)->H' b=some (.tup xs)) (frzs:∀b o u,H b=some (.frz o u)->H' b=some (.frz o u)) (tbls:∀b ps,H b=some (.tbl ps)->∃more,H' b=some (.tbl (ps++more)))
  (ns:∀m,s.heap.Ns X.env.locals m->h'.Ns X.env.locals m) (hok:HOk X.prog X.w H' h') :
  Inv X aa σ H' { s with heap:=h' }:=by
 have neL:∀b o,X.s₀.heap.get? b=some o->b≠X.env.locals:=fun b o e=>As (Ay (Aj e) I.ok.above);have fH:∀b o,X.s₀.heap.get? b=some o->b∉ch:=fun b o e hb=>by
  rw[(cf b hb).s0] at e; cases e
 have cellK:∀x c,X.env.cells.lookup x=some c->∀v,s.heap.IsCell c v->h'.IsCell c v:=fun x c e v ⟨o,ho,hd⟩=>by
  have nch:c∉ch:=fun z=>(cf c z).ce x c e rfl
  by_cases hc:c∈X.fs
  ·obtain⟨sl,q⟩:=slot c o (I.cne x c e) hc nch ho (I.freeC x c e)
   exact⟨_,q,hd⟩
  ·exact⟨o,keep c o (I.cne x c e) hc nch ho (I.freeC x c e),hd⟩
 refine⟨I.ok,I.os,I.bare,⟨fun b o e n hb hx=>?_,fun b o e n hb hx=>?_,fun b o e n hx=>?_,fun b o e hx=>?_,fun b xs e=>tups b xs (I.base.tups b xs e),fun b o xs e=>frzs b o xs (I.base.frzs b o xs e),fun b ps e=>?_⟩,?_,fun x c e=>?_,?_,fun x c e=>?_,fun p hp=>?_,hok,I.len⟩
 ·exact keep b o (neL b o e) hb (fH b o e) (I.base.keep b o e n hb hx) (I.base.free b o e n hx)
 ·obtain⟨sl,e1⟩:=I.base.slot b o e n hb hx
  obtain⟨fT,e2⟩:=slot b _ (neL b o e) hb (fH b o e) e1 (I.base.free b o e n hx);exact⟨fT,e2⟩
 ·obtain⟨o',e1⟩:=I.base.there b o e hx
  exact free b o' (fH b o e) e1 (I.base.free b o e n hx)
 ·obtain⟨o',e1⟩:=I.base.there b o e hx
  exact there b o' (fH b o e) e1
 ·obtain⟨m1,e1⟩:=I.base.tbls b ps e
  obtain⟨m2,e2⟩:=tbls b _ e1;exact⟨m1++m2,by rw[e2,Array.append_assoc]⟩
 ·obtain⟨m,hn,hl⟩:=I.loc
  refine⟨m,ns m hn,fun i x v e1 e2 e3=>?_⟩;obtain⟨u,r,l⟩:=hl i x v e1 e2 e3;refine⟨u,r,?_⟩;rcases l with l | ⟨k,c,e,z⟩
  ·exact .inl l
  ·exact .inr ⟨k,c,e,cellK x c e _ z⟩
 ·obtain⟨v,z⟩:=I.cell x c e
  exact⟨v,cellK x c e v z⟩
 ·obtain⟨m,⟨o,_,_,ho,_⟩,_⟩:=I.loc
  exact free _ o (fun z=>(cf _ z).lo rfl) ho I.free
 ·obtain⟨v,o,ho,hd⟩:=I.cell x c e
  exact free c o (fun z=>(cf c z).ce x c e rfl) ho (I.freeC x c e)
 ·obtain⟨e,n,ne,nf,d⟩:=I.pin p hp
  have nch:p.1∉ch:=fun z=>(cf p.1 z).pn p hp rfl;exact⟨keep p.1 p.2 ne nf nch e n,free p.1 p.2 nch e n,ne,nf,d⟩
def Inv.xkeep {fr:List Addr}{x:Addr}{T:Option Addr} (I:Inv X aa σ H s) (k:zcy fr x T s.heap h') (hfr:∀b∈fr,b∈frs X.stack) (ox:Off X aa x) (hx:H x=none) (oT:∀a,T=some a->Off X aa a/\H a=none):Inv X aa σ H { s with heap:=h' }:=by
 have sl:∀b o,b∉(x::T.toList)->s.heap.get? b=some o->∃sl,h'.get? b=some { o with slots:=sl }:=fun b o hc e=>by
  by_cases hb:b∈fr
  ·exact k.2.1 b o e hb
  ·exact⟨o.slots,k.1 b o e (fun z=>hc (by simp[z])) (fun z=>hc (by simp[z])) hb⟩
 refine I.stepN (ch:=x::T.toList) (fun b hb=>?_) (fun b o hL hb hc e _=>?_) (fun b o _ _ hc e _=>sl b o hc e) (fun _ _ _ _ n=>n) (fun b o hc e=>?_) (fun _ _ e=>e) (fun _ _ _ e=>e) (fun b ps e=>⟨#[],by rw[e]; simp⟩) (fun m hm=>?_) (zkm I.hok k hx (fun a e=>(oT a e).2) fun b hb=>I.stkFree b (hfr b hb))
 ·rcases List.mem_cons.mp hb with z | z
  ·rw[z]; exact ox
  ·exact (oT b (by simpa using z)).1
 ·exact k.1 b o e (fun z=>hc (by simp[z])) (fun z=>hc (by simp[z])) fun z=>(List.mem_cons.mp (I.stkSub b (hfr b z))).elim hL hb
 ·obtain⟨z,e⟩:=sl b o hc e
  exact⟨_,e⟩
 ·obtain⟨o,es,ep,ho,r⟩:=hm
  obtain⟨z,e⟩:=sl _ o (fun z=>by
   rcases List.mem_cons.mp z with z | z
   ·exact ox.lo z.symm
   ·exact (oT _ (by simpa using z)).1.lo rfl) ho
  exact⟨_,es,ep,e,r⟩
abbrev excO (x C:Addr):HO:=.ext fun h=>∃o,PySem.W.InstAt h x o C none
def Inv.know {x C:Addr}{T:Option Addr} (I:Inv X aa σ H s) (hx:H x=none) (ox:Off X aa x) (e:Xc s.heap x (.ref C) T):Inv X aa σ (upd H x (excO x C)) s:=by
 obtain⟨oe,vs,he,hc,eO,vi,_⟩:=e;have hno:PySem.W.notCls oe=true:=by unfold PySem.W.notCls; rw[vi]
 have hdc:match oe.dict,(none:Option Obj) with | some dx,some o=>s.heap.get? dx=some o | none,none=>True | _,_=>False:=by rw[eO]; trivial
 have ne:∀b u,H b=some u->b≠x:=fun b u e z=>by rw[z,hx] at e; cases e
 refine I.stepN (h':=s.heap) (ch:=[x]) (fun b hb=>?_) (fun b o _ _ _ e _=>e) (fun b o _ _ _ e _=>⟨o.slots,e⟩) (fun b o hc _ n=>?_) (fun b o _ e=>⟨o,e⟩) (fun b xs e=>?_) (fun b o u e=>?_) (fun b ps e=>⟨#[],?_⟩) (fun m hm=>hm) (fun b u e=>?_)
 ·obtain rfl:b=x:=by simpa using hb
  exact ox
 ·rw[zh (fun z=>hc (by simp[z]))]; exact n
 ·rw[zh (ne b _ e)]; exact e
 ·rw[zh (ne b _ e)]; exact e
 ·rw[zh (ne b _ e),e]; simp
 ·by_cases hb:b=x
  ·subst hb
   rw[upd_same] at e; cases e;refine⟨⟨oe,he,hc,hno,hdc⟩,⟨oe,he⟩,fun h1 h2 ⟨o,e1,e2,e3,e4⟩ q=>⟨o,q o e1,e2,e3,?_⟩⟩;cases z:o.dict with
   | none=>trivial
   | some dx=>rw[z] at e4; exact e4.elim
  ·rw[zh hb] at e
   refine (I.hok b u e).stay (fun c v _ q=>q) (fun c q=>?_) fun c xs q=>?_
   ·rw[zh (ne c _ q)]; exact q
   ·rw[zh (ne c _ q)]; exact q
end
section
variable {X:Cx}{aa bF:List (Addr×Obj)}{σ:List (Option V)}{H H':Hp}{s:Shared}{h':Heap}{EB:XK}
def XeT (X:Cx) (aa:List (Addr×Obj)) (EB:XK):Value->Shared->Prop:=fun e s=>∃(x C:Addr) (T:Option Addr) (σ:St) (H:Hp),e=.ref x/\Inv X aa σ H s/\Xc s.heap x (.ref C) T/\H x=none/\Off X aa x/\(∀a,T=some a->Off X aa a/\H a=none)/\EB (.ref x) (some C) H
abbrev XB (X:Cx) (aa:List (Addr×Obj)) (EB:XK):Cx:={ X with pn:=X.pn++aa,xe:=XeT X aa EB }
abbrev XH (X:Cx) (aa:List (Addr×Obj)) (x:Addr):Cx:={ X with A:=X.A.mark (some (.ref x)),calm:=false,pn:=X.pn++aa,xe:=fun _ _=>False }
def Inv.toB (I:Inv X aa σ H s):Inv (XB X aa EB) [] σ H s:=
 ⟨⟨I.ok.mod,I.ok.kind,I.ok.glob,I.ok.blt,I.ok.above,I.ok.inj,I.ok.has,I.ok.cab,I.ok.hd,I.ok.frames,I.ok.stk,I.ok.exf,I.ok.bs,I.ok.bsz,I.ok.noex,I.ok.exfs,I.ok.funs,I.ok.frf⟩,I.os,I.bare,I.base,I.loc,I.cell,I.free,I.freeC,
  fun p hp=>I.pin p (by simpa using hp),I.hok,I.len⟩
def Inv.ofB (I:Inv (XB X aa EB) bF σ H s):Inv X aa σ H s:=
 ⟨⟨I.ok.mod,I.ok.kind,I.ok.glob,I.ok.blt,I.ok.above,I.ok.inj,I.ok.has,I.ok.cab,I.ok.hd,I.ok.frames,I.ok.stk,I.ok.exf,I.ok.bs,I.ok.bsz,I.ok.noex,I.ok.exfs,I.ok.funs,I.ok.frf⟩,I.os,I.bare,I.base,I.loc,I.cell,I.free,I.freeC,
  fun p hp=>I.pin p (List.mem_append_left _ hp),I.hok,I.len⟩
def Inv.toH {x:Addr} (I:Inv X aa σ H s):Inv (XH X aa x) [] σ H s:=
 ⟨⟨I.ok.mod,I.ok.kind,I.ok.glob,I.ok.blt,I.ok.above,I.ok.inj,I.ok.has,I.ok.cab,(fun z=>nomatch z),I.ok.frames,I.ok.stk,I.ok.exf,I.ok.bs,I.ok.bsz,I.ok.noex,I.ok.exfs,I.ok.funs,I.ok.frf⟩,I.os,I.bare,I.base,I.loc,I.cell,I.free,I.freeC,
  fun p hp=>I.pin p (by simpa using hp),I.hok,I.len⟩
def Inv.ofH {x:Addr} (I:Inv (XH X aa x) bF σ H s) (hd:X.calm=true->X.A.handled=none):Inv X aa σ H s:=
 ⟨⟨I.ok.mod,I.ok.kind,I.ok.glob,I.ok.blt,I.ok.above,I.ok.inj,I.ok.has,I.ok.cab,hd,I.ok.frames,I.ok.stk,I.ok.exf,I.ok.bs,I.ok.bsz,I.ok.noex,I.ok.exfs,I.ok.funs,I.ok.frf⟩,I.os,I.bare,I.base,I.loc,I.cell,I.free,I.freeC,
  fun p hp=>I.pin p (List.mem_append_left _ hp),I.hok,I.len⟩
def SP.ofB {D:Ends}{f:Flow}{s':Shared} (h:SP (XB X aa EB) [] D f s'):SP X aa D f s':=by
 cases f with
 | next=>obtain⟨ao,H',I,q⟩:=h; exact⟨ao,H',I.ofB,q⟩
 | brk=>obtain⟨ao,H',I,q⟩:=h; exact⟨ao,H',I.ofB,q⟩
 | cont=>obtain⟨ao,H',I,q⟩:=h; exact⟨ao,H',I.ofB,q⟩
 | ret u=>obtain⟨v,ao,H',I,r,q⟩:=h; exact⟨v,ao,H',I.ofB,r,q⟩
def ziX (hex:X.ex=[]):Passes (CX1 X.prog X.w) (XB X aa EB) EB:=by
 rintro bF σ H1 s1 e s2 I ⟨x,C,T,H',rfl,os,bare,un,hok,e_,f_,hT,hx,hE⟩;have I2:Inv (XB X aa EB) bF σ H' s2:=I.call' (ch:=[]) os un hok bare (fun b z=>absurd z (by simp));have J:Inv X aa σ H1 s1:=I.ofB;exact⟨x,C,T,σ,H',rfl,I2.ofB,hx,e_,J.off hex f_,fun a e=>⟨J.off hex (hT a e).2,(hT a e).1⟩,hE⟩
def Inv.gone {i:Nat}{n:Str}{m:Str->Option Value}{u:Option Value} (I:Inv X aa σ H s) (hN:X.N.Nodup) (hi:X.N[i]?=some n)
  (hl:∀(i:Nat) (x:Str) (v:V),X.N[i]?=some x->σ[i]?=some (some v)->Vis X.env.scope x->∃u,RelV v u/\Look X.env s.heap m x u)
  (hn:h'.Ns X.env.locals fun y=>if y=n then u else m y) (hs:AC X.env.locals s.heap h'):Inv X aa (σ.set i none) H { s with heap:=h' }:=by
 have hiσ:i<σ.length:=by rw[I.len]; exact (List.getElem?_eq_some_iff.mp hi).1
 refine⟨I.ok,I.os,I.bare,⟨fun b o e n hb hx=>?_,fun b o e n hb hx=>?_,I.base.free,fun b o e hx=>?_,I.base.tups,I.base.frzs,I.base.tbls⟩,⟨_,hn,fun j y v' e1 e2 e3=>?_⟩,fun y c e=>?_,I.free,I.freeC,fun p hp=>?_,fun b ob e=>?_,by simpa using I.len⟩
 ·exact (hs.2 b (As (Ay (Aj e) I.ok.above))).trans (I.base.keep b o e n hb hx)
 ·obtain⟨sl,e1⟩:=I.base.slot b o e n hb hx
  exact⟨sl,(hs.2 b (As (Ay (Aj e) I.ok.above))).trans e1⟩
 ·obtain⟨o',e1⟩:=I.base.there b o e hx
  exact⟨o',(hs.2 b (As (Ay (Aj e) I.ok.above))).trans e1⟩
 ·by_cases hj:j=i
  ·subst hj
   rw[List.getElem?_set_self hiσ] at e2;cases e2
  ·rw[List.getElem?_set_ne (Ne.symm hj)] at e2
   obtain⟨u',r',q⟩:=hl j y v' e1 e2 e3;refine⟨u',r',?_⟩;rcases q with ⟨k,e⟩ | ⟨k,c,e,z⟩
   ·refine .inl ⟨k,?_⟩
    have:y≠n:=fun e=>hj (zcJ hN e1 (e ▸ hi));simp[this,e]
   ·exact .inr ⟨k,c,e,z.sameBut hs (I.cne y c e)⟩
 ·obtain⟨w',z⟩:=I.cell y c e
  exact⟨w',z.sameBut hs (I.cne y c e)⟩
 ·obtain⟨e,n,ne,nf,d⟩:=I.pin p hp
  exact⟨(hs.2 p.1 ne).trans e,n,ne,nf,d⟩
 ·refine (I.hok b ob e).stay (fun c w' hc q=>(hs.2 c ?_).trans q) (fun _ q=>q) fun _ _ q=>q
  rintro rfl;rcases hc with z | z
  ·rw[<- z,I.free] at e; cases e
  ·rw[I.free] at z; cases z
def SubX (K:Ad) (C S:Addr):Prop:=∀h:Heap,K.In h->∃nm q N bs bm hdct sn sub ab col dd k0 k1 k2 k3 k5 bC iF q' N' fg fF bS iA dC iq dn dz gU iT iG iQ iL bZ,
 h.get? C=some (excClassObj nm q C N bs bm hdct sn sub ab col dd k0 k1 k2 k3 k5 bC)/\h.get? S=some (excClassObj iF q' S N' fg fF bS iA dC iq dn dz gU iT iG iQ iL bZ)/\
 fF.contains (.type "BaseException")=true/\(Value.ref C::bm).contains (.ref S)=true
def EBof (K:Ad) (n ie:Nat) (S:Addr) (tH:TS) (D:Ends):XK:=fun e c H'=>∃x C,e=.ref x/\c=some C/\SubX K C S/\∀ao:St,ao.length=n->
 tH { nx:=fun bf H2=>D.nx (bf.set ie none) H2,rt:=fun _ _=>False } (ao.set ie (some (.ref x))) (upd H' x (excO x C))
def tTry (K:Ad) (n ie:Nat) (S:Addr) (t:XK->TS) (tH:TS):TS:=fun D σ H=>t (EBof K n ie S tH D) D σ H
def zm1 {n:Str}{ie:Nat}{xS:Str}{S:Addr}{body ge:List Stmt}{jv:Stmt}{t:XK->TS}{tH:TS}{np jI pos:Pos} (hex:X.ex=[]) (hN:X.N.Nodup) (iY:X.N[ie]?=some n) (dj:X.env.scope.names.lookup n=some .local)
  (hst:X.stack=X.env::X.outer) (hfr:X.env.frame=some X.env.locals) (xl:Gl X xS) (uj:X.mg xS=some (.ref S))
  (hb:∀aa EB,PSs (XB X aa EB) body (t EB)) (hH:∀aa x,PSs (XH X aa x) (jv::ge) tH) (hd:(xS == ("__debug__":Str))=false:=by decide) :
  PS X (.Try body [.ExceptHandler (some (.Name xS np)) (some n) (jv::ge) jI] [] [] pos) (tTry X.K X.N.length ie S t tH):=by
 intro aa s σ H D I h;refine wpAny_Try_except (wpAny_mono (hb aa _ [] s σ H D I.toB h) (fun f s1 q=>?_) (fun e s1 q=>?_))
 ·have q':SP X aa D f s1:=q.ofB
  cases f with
  | next=>exact wpAny_execs_nil q'
  | brk=>exact q'
  | cont=>exact q'
  | ret u=>exact q'
 obtain⟨x,C,T,eF,H1,rfl,I1,hx,e_,ox,hT,x',C',e1,e2,sub,k⟩:=q;cases e1;cases e2;have tN:=hst;refine zkS (base:=X.base) (outer:=X.outer) (L:=X.env.locals) (by rw[<- hst]; exact I1.ok.frames) (by rw[<- hst]; exact I1.stack) hfr hx fun h2 T2 hJ km xq=>?_;have I2:Inv X aa eF H1 { s1 with heap:=h2 }:=I1.xkeep xq (fun b z=>by rw[hst]; exact z) ox e_ hT;have ur:s1.heap.get? T2=none:=Heap.get?_none_of_le hJ;have sy:Off X aa T2:=I1.off hex ur;have ux:H1 T2=none:=I1.hok.fresh hJ;refine wpAny_handleBy_cons (codeAny_handlers_test ?_) (by intro q; cases q);refine zbY (X:=XH X aa x) (I2.toH (x:=x)) xl uj ?_ hd;obtain⟨nm,q,N,bs,bm,hdct,sn,dC,ab,col,dd,k0,k1,k2,k3,k5,bC,iF,q',N',fg,fF,bS,iA,pK,iq,dn,dz,gU,iT,iG,iQ,iL,bZ,hC,hS,kq,aH⟩:=sub h2 I2.kIn;obtain⟨oe,vs,fh,hcl,_⟩:=id km;refine zgw hC hS fh hcl kq aH ?_;show codeAny _ _ _ _ _;refine codeAny_handlers_suite_as ?_;refine zh3 km fun h4 xf kB=>?_;have I4:Inv X aa eF H1 { s1 with heap:=h4 }:=I2.xkeep (h':=h4) kB (fun b z=>absurd z (by simp)) ox e_ (fun a e=>by cases e; exact⟨sy,ux⟩);have I5:Inv X aa eF (upd H1 x (excO x C)) { s1 with heap:=h4 }:=I4.know e_ ox xf;refine zbI (X:=XH X aa x) (I5.toH (x:=x)) hN iY (.inl dj) (v:=.ref x) rfl (fun s6 I6=>?_) (.inr dj);refine wpAny_mono (hH aa x [] s6 _ _ _ I6 (k eF I1.len)) (fun f s7 q7=>?_) fun _ _ z=>z.elim;cases f with
 | brk=>obtain⟨_,_,_,z⟩:=q7; exact z.elim
 | cont=>obtain⟨_,_,_,z⟩:=q7; exact z.elim
 | ret u=>obtain⟨_,_,_,_,_,z⟩:=q7; exact z.elim
 | next=>
  obtain⟨c8,H7,I7,d7⟩:=q7;have I7':Inv X aa c8 H7 s7:=I7.ofH I.ok.hd;show wpAny _ _ (do bindName X.env n .none; unbindBehindTheSuite X.env n jI) _ _ s7;refine Aa (wpAny_bindName (zbI I7' hN iY (.inl dj) (v:=.non) rfl (fun s8 I8=>?_) (.inr dj)));obtain⟨m,hn,hl⟩:=id I8.loc;have ml:ie<c8.length:=by rw[I7'.len]; exact (List.getElem?_eq_some_iff.mp iY).1
  obtain⟨u,_,lk⟩:=hl ie n .non iY (by rw[List.getElem?_set_self ml]) (.inl dj);have kn:X.env.kindOf n=some .local:=dj;have hm:m n=some u:=by
   rcases lk with ⟨_,e⟩ | ⟨z,_⟩
   ·exact e
   ·rw[kn] at z; rcases z with z | z <;> cases z
  unfold unbindBehindTheSuite;refine wpAny_onRaise (wpAny_unbindName_local kn hn hm (by rw[I.ok.kind]; rfl) fun h9 u9 vF u3=>?_);have I9:=I8.gone hN iY hl vF u3;rw[List.set_set] at I9;exact⟨_,H7,I9,d7⟩
end
def zdJ {K:Ad}{C:Addr}{name:Str}{a g:Value} (hc:(PySem.W.clsIn K C).isSome=true) (ha:PySem.W.findIn K (.ref C) name=some (some a)) (hg:PySem.W.specialIn K a "__get__"=some (some g)) (ht:PySem.W.takesIn K a=some true):PySem.W.findObj K C none name=some (.bind g a):=by
 obtain⟨cd,hc⟩:=Option.isSome_iff_exists.mp hc;unfold PySem.W.findObj;rw[hc,Option.bind_some,ha,Option.bind_some];simp[hg,ht]
structure XCls (K:Ad) (D:Addr):Prop where
 ga:PySem.W.findIn K (.ref D) "__getattribute__"=some (some (.builtin "BaseException.__getattribute__"))
 gt:PySem.W.findIn K (.ref D) "__getattr__"=some none
 cls:(PySem.W.clsIn K D).isSome=true
 find:PySem.W.findIn K (.ref D) "__class__"=some (some (.builtin "object.__class__"))
 spec:PySem.W.specialIn K (.builtin "object.__class__") "__get__"=some (some (.builtin "getset_descriptor.__get__"))
 tk:PySem.W.takesIn K (.builtin "object.__class__")=some true
 mro:PySem.W.mroIn K D (.type "object")=some true
 mroB:PySem.W.mroIn K D (.type "BaseException")=some true
section
variable {prog:Program}{w:World}{A:Around}{E:Value->Shared->Prop}{s:Shared}{K:Ad}{x D:Addr}{ox:Obj}
def zjg {M:Model}{gg:Value}{Q:Unit->Shared->Prop} (c:XCls K D) (X:K.In s.heap) (I:PySem.W.InstAt s.heap x ox D none) (hq:Q () s):wpAny M A (checkBuiltinCall "BaseException.__getattribute__" ⟨[.ref x,gg],[]⟩) Q E s:=by
 obtain⟨hh,g,d,t,os⟩:=s;have hk:builtinKind "BaseException.__getattribute__"=some .slot:=by decide +kernel
 have hsplit:splitId "BaseException.__getattribute__"=some ("BaseException","__getattribute__"):=by decide +kernel
 have ha:=F.args_bexc_ga (.ref x) gg;have L0:=I.type (M:=M);have L1:=PySem.W.looks_mroIn (M:=M) X c.mroB;simp only[checkBuiltinCall,hk,hsplit];refine Aa ?_;unfold isInstance;refine Aa (L0.at (L1.at ?_))
 repeat (first | assumption | wp_step)
def zjm {tk:Tok}{Q:Fin->Shared->Prop} (c:XCls K D) (X:K.In s.heap) (I:PySem.W.InstAt s.heap x ox D none) (hq:Q (.done (.ret (.ref D))) s) :
  wpAny (model prog w) A (Builtin.«object.__getattribute__» ⟨[.ref x,.str "__class__" tk],[]⟩) Q E s:=by
 obtain⟨hh,g,d,t,os⟩:=s;have hf:=zdJ c.cls c.find c.spec c.tk;have L0:=I.type (M:=model prog w);have L1:=PySem.W.looks_find (M:=model prog w) X I hf;unfold Builtin.«object.__getattribute__»
 repeat (first | with_reducible refine Aa (L0.at ?_) | with_reducible refine Aa (L1.at ?_) | wp_step)
 exact PySem.W.class_get (s:=⟨hh,g,d,t,os⟩) X I c.mro (Ac hq)
def zj1 {Q:Option Value->Shared->Prop} (c:XCls K D) (X:K.In s.heap) (I:PySem.W.InstAt s.heap x ox D none) (h:Q (some (.ref D)) { s with toks:=s.toks+1 }):wpAny (model prog w) A (getAttr? (.ref x) "__class__") Q E s:=by
 obtain⟨hh,g,d,t,os⟩:=s;have L0:=I.type (M:=model prog w);have L1:=PySem.W.looks_findIn (M:=model prog w) X c.ga;have L2:=PySem.W.looks_findIn (M:=model prog w) X c.gt;have FA:=F.excAttr_ValueError;have f3:=FA.ga.bind (.ref x);have km:(Value.builtin "BaseException.__getattribute__" == Value.builtin "object.__getattribute__")=false:=by decide +kernel
 unfold getAttr? getAttrBy? getAttrBy;refine Aa (wpAny_mkText (Aa (wpAny_attempt (AM (Aa (L0.at (Aa (L1.at ?_))))))));dsimp only;rw[if_neg (by rw[km,Bool.and_false]; decide)];unfold getAttrByItsOwn hookBefore;rw[if_pos (show onTheHeap (.ref D)=true from rfl)];refine Aa (L2.at ?_);refine Aa (wpAny_attempt (AM ?_));unfold callGetattribute boundAndCalled;rw[Bool.false_and,if_neg Ao,f3];refine Aa (Ac ?_);refine wpAny_call (codeAny_call_builtin FA.ga.plain F.entry_bexc_ga (zjg (s:=⟨hh,g,d,t+1,os⟩) c X I (zjm (s:=⟨hh,g,d,t+1,os⟩) c X I ?_)));exact PySem.W.handed_on rfl (Ac h)
end
def zjX {K:Ad}{x D:Addr}{ox:Obj} (c:XCls K D):PySem.W.KitX K (.ref x) (.ref D) (fun h=>PySem.W.InstAt h x ox D none) where
 ty:=fun _ _ _ I=>I.type
 it:=fun _ _ X _=>by
  obtain⟨vj,gS⟩:=Option.isSome_iff_exists.mp c.cls;unfold PySem.W.clsIn at gS;split at gS
  ·rename_i c' d' cd' fT ho
   intro A' Q' E' s' k q;unfold isType loadHead;exact Aa (wpAny_loadPart (k _ _ (X _ _ ho)) (Ac q))
  ·cases gS
 ne:=fun h tp dd ah n sl X wM=>by
  obtain⟨vj,gS⟩:=Option.isSome_iff_exists.mp c.cls;refine Bool.eq_false_iff.mpr fun q=>?_;have e:D=tp:=Value.ref.inj (beq_iff_eq.mp q);subst e;unfold PySem.W.clsIn at gS;split at gS
  ·rename_i c' d' cd' fT ho
   have z:=(X _ _ ho).symm.trans wM;cases z
  ·cases gS
 ca:=fun X I k=>zj1 c X I k
section
variable {X:Cx}
def zcC {c:V}{cv:Value}{b:Bool}{C:Addr} (rc:∀u,RelV c u->u=cv) (xc:XCls X.K C) (e:AD X.K (.ref C) cv=some b) :
  zX X (.builtin "isinstance") (fun xs H Q=>∃x,xs=[.ref x,c]/\H x=some (excO x C)/\Q (.bl b) H):=by
 intro aa s σ H xs us Q I r h;obtain⟨x,rfl,hx,q⟩:=h;obtain⟨u,u',rfl,ru,fJ⟩:=vals2 r;obtain rfl:=rc _ fJ;cases (show u=Value.ref x from ru);obtain⟨⟨o,p⟩,_⟩:=(show zx X.prog X.w H s.heap x (excO x C) from I.hok x _ hx);exact PySem.W.kia_one (zjX xc) I.kIn p e (fun z=>nomatch z) fun tk=>⟨.bl b,H,I.tok _,rfl,q⟩
end
structure zbF (k:Nat) (A:Around):Prop where
 dp:A.depth+3*k+5<recursionLimit
 un:A.units+16*k+200<cLine
def Room.mark {k:Nat}{A:Around} (r:Room k A) (v:Option Value):zbF k (A.mark v):=⟨r.dp,r.un⟩
def zbF.deeper {k:Nat}{A:Around} (r:zbF (k+1) A) (env:Env):zbF k (A.deeper env):=
 ⟨by have:=r.dp; show A.depth+1+3*k+5<_; omega,by have:=r.un; show A.units+3+16*k+200<_; omega⟩
def zbF.depth {k:Nat}{A:Around} (r:zbF k A):A.depth<recursionLimit:=by have:=r.dp; omega
def zbF.units {k:Nat}{A:Around} (r:zbF k A):A.units+64<cLine:=by have:=r.un; omega
structure zgQ (P:Program) (w:World) (K:Ad) (mg:Str->Option Value) (base:Heap) (k:Nat) (f:Addr) (fd:FuncData) (ps:List Str) (sp:Sp):Prop where
 len:∀vs H Q E,sp vs H Q E->vs.length=ps.length
 run:∀(A:Around) (outer:List Env) (s:Shared) (H:Hp) (args:Args) (us:List Value) (vs:List V) (Q:VK) (E:XK),zbF k A->Env0 P w K mg base A outer s H->BindsTo s fd args (ps.zip us)->Vals vs us->sp vs H Q E->
  codeAny (model P w) A (.call (.ref f) args) (CR CX0 outer P w H s Q E) s
abbrev cxN (P:Program) (w:World) (K:Ad) (mg:Str->Option Value) (base:Heap) (N:List Str) (al:Str) (scope:Scope) (f:Addr) (cd:Value) (A:Around) (outer:List Env) (s:Shared) (H:Hp) (E:XK):Cx:=
 { cxOf CX0 P w K mg base N al scope f cd A outer s H E with calm:=false,xe:=fun _ _=>False }
def zgu {P:Program}{w:World}{K:Ad}{mg:Str->Option Value}{base:Heap}{N ps:List Str}{al:Str}{scope:Scope}{f:Addr}{cd:Value}{A:Around}{outer:List Env}{s s1:Shared}{H:Hp}{E:XK}{us:List Value}{vs:List V}
  (S:zi N ps scope) (e0:Env0 P w K mg base A outer s H) (hl:vs.length=ps.length) (r:Vals vs us)
  (x:InCallC s s.heap.objs.size (bindL (envOfC al scope s.heap.objs.size f cd).kindOf (ps.zip us) fun _=>none) (cellsFrom (s.heap.objs.size+1) scope.names []) (bindC (envOfC al scope s.heap.objs.size f cd).kindOf (ps.zip us) fun _=>none) s1) :
  Inv (cxN P w K mg base N al scope f cd A outer s H E) [] (start N vs) H s1:=by
 have I:Inv (cxOf CX0 P w K mg base N al scope f cd { A with handled:=none } outer s H E) [] (start N vs) H s1:=zdK (A:={ A with handled:=none }) S rfl ⟨e0.frames,e0.mod,e0.bs,e0.bsz,e0.funs,e0.frf,e0.hok,e0.bare⟩ hl r x;exact⟨⟨I.ok.mod,I.ok.kind,I.ok.glob,I.ok.blt,I.ok.above,I.ok.inj,I.ok.has,I.ok.cab,(fun z=>nomatch z),Around.frames_deeper e0.frames,I.ok.stk,I.ok.exf,I.ok.bs,I.ok.bsz,I.ok.noex,I.ok.exfs,I.ok.funs,I.ok.frf⟩,I.os,I.bare,I.base,I.loc,I.cell,I.free,I.freeC,I.pin,I.hok,I.len⟩
def zmh {P:Program}{w:World}{K:Ad}{mg:Str->Option Value}{base:Heap}{k:Nat}{f:Addr}{name al:Str}{be:Arguments}{body:List Stmt}{scope:Scope}{dV kV bc pm cdv ct oc:Value}{an od:Option Addr}
  {dl:Array (Option Value)} {N ps:List Str} {sp:Sp} (lk:K.lookup f=some ⟨oc,od,.func (PySem.W.fnOf name al be body scope dV kV bc pm an cdv ct),dl⟩) (bJ:PySem.W.codeIn K cdv al=true) (S:zi N ps scope)
  (len:∀vs H Q E,sp vs H Q E->vs.length=ps.length)
  (a9:∀(A:Around) (outer:List Env) (s:Shared) (H:Hp) (vs:List V) (Q:VK) (E:XK),zbF k (A.deeper (envOfC al scope s.heap.objs.size f cdv))->sp vs H Q E->
   ∃t,PSs (cxN P w K mg base N al scope f cdv A outer s H E) body t/\t { nx:=fun _ H'=>Q .non H',rt:=Q } (start N vs) H) :
  zgQ P w K mg base (k+1) f (PySem.W.fnOf name al be body scope dV kV bc pm an cdv ct) ps sp:=by
 refine⟨len,fun A outer s H args us vs Q E hr e0 hb r cY=>?_⟩;have hl:=len _ _ _ _ cY;have KX:K.In s.heap:=e0.mod.kin.keeps fun b o e=>(e0.bs b o e).1;have lu:s.heap.NoLimit:=e0.mod.nolimit.keeps fun b o e=>(e0.bs b o e).1;have dX:∀y∈ps.zip us,scope.names.lookup y.1=some .local \/ (scope.names.lookup y.1=some .cell/\((cellsFrom (s.heap.objs.size+1) scope.names []).lookup y.1).isSome=true):=fun ⟨n,v⟩ hy=>by
  rcases S.par n (List.of_mem_zip hy).1 with q | q
  ·exact .inl q
  ·exact .inr ⟨q,PySem.W.cellsFrom_some _ _ _ (.inl q)⟩
 refine codeAny_call_function hr.depth (KX _ _ lk) rfl S.co S.gen rfl (PySem.W.codeRec_of KX bJ) (hb _ _ _ _ ?_);refine wpAny_newFunctionEnv_cells S.kind dX fun env he s1 x=>?_;subst he;refine⟨lu.keeps x.toInCall.keep,codeAny_func ?_⟩;obtain⟨t,ht,hq⟩:=a9 A outer s H vs Q E (hr.deeper _) cY;have I:Inv (cxN P w K mg base N al scope f cdv A outer s H E) [] (start N vs) H s1:=zgu S e0 hl r x;refine wpAny_mono (ht [] s1 (start N vs) H _ I hq) (fun fl s' hs=>?_) fun e s' hs=>hs.elim;have fin:∀{ao:St} {H':Hp} {v:V} {u:Value},Inv (cxN P w K mg base N al scope f cdv A outer s H E) [] ao H' s'->RelV v u->Q v H'->CE outer P w H s Q u s':=
  fun {ao H' v u} J rv q=>⟨v,H',J.os,J.bare,J.base,J.hok,rv,q⟩
 cases fl with
 | ret u=>
  obtain⟨v,ao,H',J,rv,q⟩:=hs;exact fin J rv q
 | next=>
  obtain⟨ao,H',J,q⟩:=hs;exact fin (v:=V.non) (u:=Value.none) J rfl q
 | brk=>
  obtain⟨_,_,_,q⟩:=hs;exact False.elim q
 | cont=>
  obtain⟨_,_,_,q⟩:=hs;exact False.elim q
def Fun.okN {P:Program}{w:World}{K:Ad}{mg:Str->Option Value}{base:Heap}{x al:Str}{st:Stmt}{f:Addr}{fd:FuncData}{N ps:List Str}{k:Nat}{sp:Sp} (F:Fun K x al st f fd) (S:zi N ps (zf st)) (len:∀vs H Q E,sp vs H Q E->vs.length=ps.length)
  (a9:∀(cdv:Value) (A:Around) (outer:List Env) (s:Shared) (H:Hp) (vs:List V) (Q:VK) (E:XK),zbF k (A.deeper (envOfC al (zf st) s.heap.objs.size f cdv))->sp vs H Q E->
   ∃t,PSs (cxN P w K mg base N al (zf st) f cdv A outer s H E) (zH st) t/\t { nx:=fun _ H'=>Q .non H',rt:=Q } (start N vs) H):zgQ P w K mg base (k+1) f fd ps sp:=by
 obtain⟨oc,od,kV,bc,pm,an,cdv,ct,dl,rfl,lk,bJ⟩:=F.ex;exact zmh lk bJ S len fun A outer s H vs Q E hr cY=>a9 cdv A outer s H vs Q E hr cY
section
variable {X:Cx}{k:Nat}{f:Addr}{fd:FuncData}{ps:List Str}{sp:Sp}{dA:List V}{ds:List Value}{E:XK}{x:Str}{p pos:Pos}{e:Expr}{es:List Expr}{t:TA}
def ziT (F:zgQ X.prog X.w X.K X.mg X.base k f fd ps sp) (hr:zbF k X.A) (hg:Gl X x) (hm:X.mg x=some (.ref f)) (hk:PySem.W.keepIn X.K (.ref f)=true) (hb:Binds X.K fd ps ds) (hd:Vals dA ds)
  (ha:PA X (e::es) t) (dy:(x == ("__debug__":Str))=false:=by decide) (he:starEach (e::es) X.env=(false,eval e X.env)::starEach es X.env:=by rfl) (hpl:(backTo pos (starEach es X.env)).any (·.1)=false:=by rfl) :
  PE X (.Call (.Name x p) (e::es) [] pos) (zg6 sp dA E t):=by
 intro aa s σ H Q I h;refine wpAny_Call_Name_kw (zbY I hg hm ?_ dy);refine PySem.W.callWith_K (h₀:=X.base) I.ok.mod.kin hk (thn (ha pos aa s σ H _ I h) fun us s1 ⟨vs,H1,I1,r,q⟩=>⟨I1.kIn,?_⟩) he hpl;have r2:Vals (vs++dA) (us++ds):=r.append hd;have hl:(us++ds).length=ps.length:=by rw[<- r2.length]; exact F.len _ _ _ _ q
 refine wpAny_call (codeAny_mono (F.run X.A X.stack s1 H1 ⟨us,[]⟩ (us++ds) (vs++dA) Q E hr I1.env0 (hb s1 us I1.kIn hl) r2 q) fun r s' hq=>?_);cases r with
 | error e=>exact hq.elim
 | ok fl=>
  cases fl with
  | ret u=>exact I1.after hq
  | next=>exact False.elim hq
  | brk=>exact False.elim hq
  | cont=>exact False.elim hq
end
section
variable {X:Cx}
abbrev zlq:V->List V->Hp->VK->Prop:=fun x vs H Q=>∃(l:Addr) (ys:List V) (y:V),x=.ref l/\vs=[y]/\H l=some (.lst ys)/\ys.all zcc=true/\zcc y=true/\Q (.int (ys.countP fun z=>eqV z y)) H
abbrev zlH:V->List V->Hp->VK->Prop:=fun x vs H Q=>∃(l:Addr) (ys:List V) (y:V) (j:Nat),x=.ref l/\vs=[y]/\H l=some (.lst ys)/\ys.all zcc=true/\zcc y=true/\j<1000/\((ys[j]?).map fun z=>eqV z y)=some true/\(∀m,m<j->((ys[m]?).map fun z=>eqV z y)=some false)/\Q (.int j) H
def ziD {x:V}{xs:List V}{us:List Value} (h:Vals xs us) (f:xs.all zcc=true):us.countP (eqU x)=xs.countP fun y=>eqV y x:=by
 induction h with
 | nil=>rfl
 | cons r t ih=>
  rw[List.all_cons,AF] at f;rw[List.countP_cons,List.countP_cons,zhO r f.1,ih f.2]
def zkJ {x:V}{xs:List V}{us:List Value} (h:Vals xs us) (f:xs.all zcc=true):∀m:Nat,(us[m]?).map (eqU x)=(xs[m]?).map fun y=>eqV y x:=by
 induction h with
 | nil=>intro m; simp
 | cons r t ih=>
  rw[List.all_cons,AF] at f;intro m;cases m with
  | zero=>simp[zhO r f.1]
  | succ m=>simpa using ih f.2 m
def zg8:MtM X "list.count" zlq:=by
 intro aa s σ H x vs v us Q I rx rv h;obtain⟨l,ys,y,rfl,rfl,hH,fl,fy,q⟩:=h;cases rx;obtain⟨u,rfl,ru⟩:=rv.one;obtain⟨z,ah,c,r,hl,e⟩:=I.lstM hH;refine call_meets F.slot_list_count ⟨_,e,rfl⟩ F.entry_list_count (F.args_list_count_2 _ _) (SeqAt.list_countAt l ah.toArray c none #[] u (eqU y)) ⟨e,fun y' hy=>?_,?_⟩
 ·exact zc9 ru fy r fl y' (by simpa using hy)
 ·have ec:ah.toArray.toList.countP (eqU y)=ys.countP fun z=>eqV z y:=ziD r fl
  exact⟨.int (ys.countP fun z=>eqV z y),H,I.tok _,⟨_,by rw[<- ec]⟩,q⟩
def zhI:MtM X "list.index" zlH:=by
 intro aa s σ H x vs v us Q I rx rv h;obtain⟨l,ys,y,j,rfl,rfl,hH,fl,fy,hj,h1,h2,q⟩:=h;cases rx;obtain⟨u,rfl,ru⟩:=rv.one;obtain⟨z,ah,c,r,hl,e⟩:=I.lstM hH;have g1:=(zkJ (x:=y) r fl j).trans h1;have qi:j<ah.toArray.size:=by
  rcases Nat.lt_or_ge j ah.length with q | q
  ·simpa using q
  ·rw[List.getElem?_eq_none q] at g1; cases g1
 have get:∀(m:Nat) (hm:m<ah.toArray.size),(ah[m]?).map (eqU y)=some (eqU y ah.toArray[m]):=fun m hm=>by
  rw[Ah (by simpa using hm)]; rfl
 have hsm:(j:Int)<2 ^ 63 - 1:=by
  have h1:(j:Int)<1000:=by omega
  have h2:(1000:Int)<2 ^ 63 - 1:=by decide
  omega
 refine call_meets F.slot_list_index ⟨_,e,rfl⟩ F.entry_list_index (F.args_list_index_2 _ _) (SeqAt.list_indexAt l ah.toArray c none #[] u (eqU y) j qi hsm ?_ ?_) ⟨e,fun y' hy=>?_,?_⟩
 ·exact Al ((get j qi).symm.trans g1)
 ·intro m hm rm
  exact Al ((get m hm).symm.trans ((zkJ (x:=y) r fl m).trans (h2 m rm)))
 ·exact zc9 ru fy r fl y' (by simpa using hy)
 ·exact⟨.int j,H,I.tok _,⟨_,rfl⟩,q⟩
end
def zlz {K:Ad}{C S:Addr} (q1:PySem.W.excIn K C bmV "ValueError.__new__"=true) (q2:PySem.W.excIn K S bmV "ValueError.__new__"=true) (m:PySem.W.mroIn K C (.ref S)=some true):SubX K C S:=by
 intro h X;obtain⟨bm,N,nm,qn,bs,hdct,sn,sub,ab,col,dd,k0,k1,k2,k3,k5,mN,_,kq,dG⟩:=zeq X q1;obtain⟨fF,N',iF,rh,fg,bS,iA,dC,iq,dn,dz,gU,iT,iG,iQ,iL,yA,_,k9,lX⟩:=zeq X q2;refine⟨nm,qn,N,bs,bm,hdct,sn,sub,ab,col,dd,k0,k1,k2,k3,k5,_,iF,rh,N',fg,fF,bS,iA,dC,iq,dn,dz,gU,iT,iG,iQ,iL,_,(dG h X).1,(lX h X).1,k9 _ (by decide),?_⟩;have g:=(dG h X).1;unfold PySem.W.mroIn at m;obtain⟨cd,a,b⟩:=Option.bind_eq_some_iff.mp m;unfold PySem.W.clsIn at a;split at a
 ·rename_i c' d' cd' fT ho
  cases a;have z:=(X _ _ ho).symm.trans g;injection z with z
  have zc:=congrArg Obj.data z;injection zc with zc
  subst zc;split at b
  ·cases b
  ·exact Al b
 ·cases a
def zgr {K:Ad}{C:Addr}{bm:List Value}{n:String} (q:PySem.W.excIn K C bm n=true):(PySem.W.clsIn K C).isSome=true:=by
 unfold PySem.W.excIn at q;unfold PySem.W.clsIn;split at q
 ·rename_i ho; rw[ho]; rfl
 ·cases q
def Cl (P:Program) (w:World) (K:Ad) (mg:Str->Option Value) (base:Heap) (CX:CXT) (x:Str) (ps:List Str) (k:Nat) (sp:Sp):Prop:=
 ∃(f:Addr) (fd:FuncData),PySem.W.keepIn K (.ref f)=true/\Binds K fd ps []/\mg x=some (.ref f)/\FnOk P w K mg base CX k f fd ps sp
section
variable {X:Cx}{CX:CXT}{k n:Nat}{ps:List Str}{sp:Sp}{E:XK}{x:Str}{p pos:Pos}{e:Expr}{es:List Expr}{t:TA}
def zE (C:Cl X.prog X.w X.K X.mg X.base CX x ps k sp) (hr:Room n X.A) (hg:Gl X x) (hx:Passes CX X E) (ha:PA X (e::es) t) (oE:k<=n:=by decide) (dy:(x == ("__debug__":Str))=false:=by decide)
  (he:starEach (e::es) X.env=(false,eval e X.env)::starEach es X.env:=by rfl) (hpl:(backTo pos (starEach es X.env)).any (·.1)=false:=by rfl):PE X (.Call (.Name x p) (e::es) [] pos) (zg6 sp [] E t):=by
 obtain⟨f,fd,hk,hb,hm,F⟩:=C;exact zk F (hr.mono oE) hg hm hk hb .nil hx ha dy he hpl
end
section
variable {P:Program}{w:World}{K:Ad}{mg:Str->Option Value}{base:Heap}{CX:CXT}{k:Nat}{f:Addr}{fd:FuncData}{x:Str}{st:Stmt}{ps:List Str}{sp sq:Sp}
def FnOk.or (F:FnOk P w K mg base CX k f fd ps sp) (G:FnOk P w K mg base CX k f fd ps sq):FnOk P w K mg base CX k f fd ps (fun vs H Q E=>sp vs H Q E \/ sq vs H Q E):=
 ⟨fun vs H Q E h=>h.elim (F.len vs H Q E) (G.len vs H Q E),fun A outer s H args us vs Q E hr he hb hv h=>h.elim (F.run A outer s H args us vs Q E hr he hb hv) (G.run A outer s H args us vs Q E hr he hb hv)⟩
def zbp (F:Fun K x x st f fd) (b:Binds K fd ps []) (m:mg x=some (.ref f)) (G:FnOk P w K mg base CX k f fd ps sp):Cl P w K mg base CX x ps k sp:=⟨f,fd,F.kp,b,m,G⟩
def zcq (F:Fun K x x st f fd) (b:Binds K fd ps []) (m:mg x=some (.ref f)) (G:FnOk P w K mg base CX0 k f fd ps sp) (G':FnOk P w K mg base (CX1 P w) k f fd ps sq):Cl P w K mg base (CX1 P w) x ps k (fun vs H Q E=>sp vs H Q E \/ sq vs H Q E):=⟨f,fd,F.kp,b,m,G.cx1.or G'⟩
structure Df (K:Ad) (x:Str) (st:Stmt) (f:Addr):Prop where
 ex:∃fd,Fun K x x st f fd
 a:PySem.W.nsIn K mainGlobals x=some (some (.ref f))
def df_i {oc:Value}{od an:Option Addr}{dl:Array (Option Value)}{kV bc pm cdv ct:Value} (a:PySem.W.nsIn K mainGlobals x=some (some (.ref f))) (l:K.lookup f=some ⟨oc,od,.func (PySem.W.fnOf x x (zbv st) (zH st) (zf st) .none kV bc pm an cdv ct),dl⟩)
  (c:PySem.W.codeIn K cdv x=true) (k:PySem.W.keepIn K (.ref f)=true):Df K x st f:=⟨⟨_,zmI l c k⟩,a⟩
structure Nn (K:Ad) (x:Str) (v:Option Value):Prop where
 e:PySem.W.nsIn K mainGlobals x=some v
abbrev BA (x:Str) (st:Stmt) (us:List Value) (r:List (Str×Value)):Prop:=∀(kV bc pm:Value) (an:Option Addr) (cdv ct:Value),bindArgs (PySem.W.fnOf x x (zbv st) (zH st) (zf st) .none kV bc pm an cdv ct) ⟨us,[]⟩=pure r
variable {h:Heap} (X:K.In h) (G:h.Ns mainGlobals mg)
include X G
theorem Nn.m {v:Value} (n:Nn K x (some v)):mg x=some v:=PySem.W.mg_of X G n.e
theorem Nn.n (n:Nn K x none):mg x=none:=PySem.W.mg_none_of X G n.e
theorem Df.m (D:Df K x st f):mg x=some (.ref f):=PySem.W.mg_of X G D.a
theorem Df.g1 (D:Df K x st f) (p:Str) (hb:∀a,BA x st [a] [(p,a)]:=by exact fun _ _ _ _ _ _ _=>rfl):∃fd,Fun K x x st f fd/\Binds K fd [p] []/\mg x=some (.ref f):=by
 obtain⟨⟨fd,F⟩,a⟩:=D;refine⟨fd,F,F.binds fun _ _ _ _ _ _ us hl=>?_,PySem.W.mg_of X G a⟩
 match us,hl with
 | [a],_=>exact hb a _ _ _ _ _ _
theorem Df.g2 (D:Df K x st f) (p q:Str) (hb:∀a b,BA x st [a,b] [(p,a),(q,b)]:=by exact fun _ _ _ _ _ _ _ _=>rfl):∃fd,Fun K x x st f fd/\Binds K fd [p,q] []/\mg x=some (.ref f):=by
 obtain⟨⟨fd,F⟩,a⟩:=D;refine⟨fd,F,F.binds fun _ _ _ _ _ _ us hl=>?_,PySem.W.mg_of X G a⟩
 match us,hl with
 | [a,b],_=>exact hb a b _ _ _ _ _ _
theorem Df.g3 (D:Df K x st f) (p q r:Str) (hb:∀a b c,BA x st [a,b,c] [(p,a),(q,b),(r,c)]:=by exact fun _ _ _ _ _ _ _ _ _=>rfl):∃fd,Fun K x x st f fd/\Binds K fd [p,q,r] []/\mg x=some (.ref f):=by
 obtain⟨⟨fd,F⟩,a⟩:=D;refine⟨fd,F,F.binds fun _ _ _ _ _ _ us hl=>?_,PySem.W.mg_of X G a⟩
 match us,hl with
 | [a,b,c],_=>exact hb a b c _ _ _ _ _ _
theorem Df.g4 (D:Df K x st f) (p q r s:Str) (hb:∀a b c d,BA x st [a,b,c,d] [(p,a),(q,b),(r,c),(s,d)]:=by exact fun _ _ _ _ _ _ _ _ _ _=>rfl):∃fd,Fun K x x st f fd/\Binds K fd [p,q,r,s] []/\mg x=some (.ref f):=by
 obtain⟨⟨fd,F⟩,a⟩:=D;refine⟨fd,F,F.binds fun _ _ _ _ _ _ us hl=>?_,PySem.W.mg_of X G a⟩
 match us,hl with
 | [a,b,c,d],_=>exact hb a b c d _ _ _ _ _ _
omit X G
theorem zlB {C:Addr} (a:PySem.W.findIn K (.ref C) "__getattribute__"=some (some (.builtin "BaseException.__getattribute__"))) (b:PySem.W.findIn K (.ref C) "__getattr__"=some none) (q:PySem.W.excIn K C bmV "ValueError.__new__"=true) (c:PySem.W.findIn K (.ref C) "__class__"=some (some (.builtin "object.__class__")))
  (d:PySem.W.specialIn K (.builtin "object.__class__") "__get__"=some (some (.builtin "getset_descriptor.__get__"))) (e:PySem.W.takesIn K (.builtin "object.__class__")=some true) (f:PySem.W.mroIn K C (.type "object")=some true) (g:PySem.W.mroIn K C (.type "BaseException")=some true):XCls K C:=
 ⟨a,b,zgr q,c,d,e,f,g⟩
end
end L2
end
section
namespace L2
open PySem PySem.Spec PyProof.Rows PySem.Builtin PySem.Builtin.Str
section
variable {X:Cx}
def zmp:V->List V->Hp->VK->Prop:=fun x vs H Q=>∃(z:PySem.Str) (c:Nat),x=.str z/\vs=[.str ⟨#[c]⟩]/\z.length<=sizeLine/\occurrences z ⟨#[c]⟩ 0 z.length 1=[]/\∀D,H D=none->Q (.ref D) (upd H D (.tup [.str z,.str "",.str ""]))
def zjw:MtM X "str.partition" zmp:=by
 intro aa s σ H x vs v us Q I rx rv h;obtain⟨z,c,rfl,rfl,hz,ho,q⟩:=h;obtain⟨t,rfl⟩:=rx;obtain⟨u,rfl,ru⟩:=rv.one;obtain⟨t',rfl⟩:=ru;refine call_meets F.slot_str_partition (typeIs_str _ _ _) F.entry_str_partition (F.args_str_partition_2 _ _) (meets_str_partition z ⟨#[c]⟩ t t' rfl hz) ?_;show wants _ _ _ (match occurrences z ⟨#[c]⟩ 0 z.length 1 with | i::_=>_ | []=>_);rw[ho];dsimp only;refine⟨.ref s.heap.objs.size,_,I.laid (o:=.tup [.str z,.str "",.str ""]) (fun b ob q=>Ae _ q) (Af _) ?_,rfl,q _ (I.hok.fresh (Af _))⟩;exact⟨by show 3<=sizeLine; rw[sizeLine_eq]; decide,_,.cons ⟨_,rfl⟩ (.cons ⟨_,rfl⟩ (.cons ⟨_,rfl⟩ .nil)),⟨_,Ak _ rfl,rfl,_,rfl⟩⟩
def ziP {e:Expr}:PE X e (fun _ _ _=>False):=fun _ _ _ _ _ _ h=>h.elim
def zlR {tg iter:Expr}{body:List Stmt}{te:TE}{pos:Pos} (hi:PE X iter te) (hs:∀x,foldedSetIterable iter X.env x=pure x:=by intro _; rfl):PS X (.For tg iter body [] pos) (fun _ σ H=>te σ H fun _ _=>False):=by
 intro aa s σ H D I h;exact wpAny_For (thn (hi aa s σ H _ I h) fun v s1 ⟨x,H1,I1,r1,q⟩=>q.elim) hs
end
end L2
namespace K19
open K1 Tx
open PySem L2 STb
abbrev ziu:Stmt:=top 55
abbrev zha:Stmt:=top 56
abbrev zhm:Stmt:=top 48
section
variable {P:Program}{w:World}{K:Ad}{mg:Str->Option Value}{base:Heap}{f fW fC fP fN:Addr}{fd:FuncData}
abbrev QX (K:Ad) (C:Addr):Prop:=PySem.W.excIn K C bmV "ValueError.__new__"=true
abbrev C1 (P:Program) (w:World) (K:Ad) (mg:Str->Option Value) (base:Heap) (x:Str) (ps:List Str) (k:Nat) (sp sq:Sp):Prop:=Cl P w K mg base (CX1 P w) x ps k fun vs H Q E=>sp vs H Q E \/ sq vs H Q E
def Bad (K:Ad) (fW:Addr) (H:Hp) (l:Addr) (E:XK):Prop:=∃as ae,SqL K H l (as.map V.ref)/\Tps H as ae/\(ae.all zG=true->(dd (ae.flatMap parts)).length<64)/\webM ae=false/\∀H1,Same H H1->∀x,H1 x=none->E (.ref x) (some fW) H1
def Bad.same {H H':Hp}{l:Addr}{E:XK} (h:Bad K fW H l E) (s:Same H H'):Bad K fW H' l E:=let ⟨as,ae,a,b,c,d,k⟩:=h; ⟨as,ae,s.seq a,s.tps b,c,d,fun H1 s1=>k H1 (s.trans s1)⟩
def zge (K:Ad) (fW:Addr):Sp:=fun vs H Q E=>∃l,vs=[.ref l]/\Bad K fW H l E
def zgO (K:Ad) (fW:Addr):Sp:=fun vs H Q E=>∃l v,vs=[.ref l,v]/\Bad K fW H l E
def zju (F:Fun K "must_be_web" "must_be_web" zh0 f fd) (mW:mg "NoWeb"=some (.ref fW)) (qW:QX K fW) (Cw:Cl P w K mg base CX0 "is_web" ["web"] 6 (zeF K)):FnOk P w K mg base (CX1 P w) 7 f fd ["web"] (zge K fW):=by
 refine F.ok1 zkh (fun vs H Q E h=>?_) (fun cdv A outer s H vs Q E hr h=>?_)
 ·obtain⟨l,rfl,_⟩:=h; rfl
 ·obtain⟨l,rfl,as,ae,hl,ht,h64,hw,k⟩:=h
  refine⟨_,zd (zD (zaB (zaY (zE Cw hr rfl pass0 (pa_cons (pv 0) pa_nil))))
   (zd (zbS (C:=fW) (EX:=E) rfl rfl mW qW (fun aa σ H' s' x I hx h0 hs hE=>zea I hx h0 hs (fun a e=>nomatch e) hE))) zn),?_⟩
  refine⟨_,rfl,l,as,ae,rfl,hl,ht,h64,fun H1 bA=>⟨_,rfl,?_⟩⟩;rw[hw];exact iteT fun x hx=>k H1 bA x hx
def zgs (F:Fun K "pieces" "pieces" zb6 f fd) (Cm:C1 P w K mg base "must_be_web" ["web"] 7 (zeV K) (zge K fW)):FnOk P w K mg base (CX1 P w) 8 f fd ["web"] (zge K fW):=by
 refine F.ok1 zfj (fun vs H Q E h=>?_) (fun cdv A outer s H vs Q E hr h=>?_)
 ·obtain⟨l,rfl,_⟩:=h; rfl
 ·obtain⟨l,rfl,hb⟩:=h
  exact⟨_,za (zv (zE Cm hr rfl (pass1 (E:=E)) (pa_cons (pv 0) pa_nil))) zA,⟨_,rfl,.inr ⟨l,rfl,hb⟩⟩⟩
def zj3 (F:Fun K "is_chain" "is_chain" ziI f fd) (Cp:C1 P w K mg base "pieces" ["web"] 8 (zbM K) (zge K fW)):FnOk P w K mg base (CX1 P w) 9 f fd ["web","chain"] (zgO K fW):=by
 refine F.ok1 zfb (fun vs H Q E h=>?_) (fun cdv A outer s H vs Q E hr h=>?_)
 ·obtain⟨l,v,rfl,_⟩:=h; rfl
 ·obtain⟨l,v,rfl,hb⟩:=h
  exact⟨_,za (zo (i:=2) zfb.nd rfl (Or.inl rfl) (zE Cp hr rfl (pass1 (E:=E)) (pa_cons (pv 0) pa_nil))) zA,⟨_,rfl,.inr ⟨l,rfl,hb⟩⟩⟩
def Rf (K:Ad) (fW fC:Addr) (H:Hp) (l d:Addr) (E:XK):Prop:=Bad K fW H l E \/ ∃as ae cs,SqL K H l (as.map V.ref)/\Tps H as ae/\webS ae/\(canon ae).length<=59/\Rd H d (.dT (kvC cs))/\cs.length<=4*(canon ae).length+3/\cs.length<=59/\chM (canon ae) cs=false/\
 ∀H',zr d H H'->Rd H' d (.dT (kvC cs))->∀x,H' x=none->E (.ref x) (some fC) H'
def spRf (K:Ad) (fW fC:Addr):Sp:=fun vs H Q E=>∃l d,vs=[.ref l,.ref d]/\Rf K fW fC H l d E
def zmg (K:Ad) (fW fC:Addr):Sp:=fun vs H Q E=>∃l d v,vs=[.ref l,.ref d,v]/\Rf K fW fC H l d E
def Rf2 (K:Ad) (fW fC:Addr) (H:Hp) (l d e:Addr) (E:XK):Prop:=Rf K fW fC H l d E \/ ∃as ae cs,WC H l d as ae cs/\∀H',zr d H H'->Rd H' d (.dT (kvC cs))->Rf K fW fC H' l e E
def zi9 (K:Ad) (fW fC:Addr):Sp:=fun vs H Q E=>∃l d e,vs=[.ref l,.ref d,.ref e]/\Rf2 K fW fC H l d e E
def zjk (F:Fun K "must_be_chain" "must_be_chain" zbn f fd) (mC:mg "NoChain"=some (.ref fC)) (qC:QX K fC) (Ci:C1 P w K mg base "is_chain" ["web","chain"] 9 (zfz K) (zgO K fW)):FnOk P w K mg base (CX1 P w) 10 f fd ["web","chain"] (spRf K fW fC):=by
 refine F.ok1 zg5 (fun vs H Q E h=>?_) (fun cdv A outer s H vs Q E hr h=>?_)
 ·obtain⟨l,d,rfl,_⟩:=h; rfl
 ·obtain⟨l,d,rfl,hb⟩:=h
  refine⟨_,zd (zD (zaB (zaY (zE Ci hr rfl (pass1 (E:=E)) (pa_cons (pv 0) (pa_cons (pv 1) pa_nil)))))
   (zd (zbS (C:=fC) (EX:=E) rfl rfl mC qC (fun aa σ H' s' x I hx h0 hs hE=>zea I hx h0 hs (fun a e=>nomatch e) hE))) zn),?_⟩
  rcases hb with hb | ⟨as,ae,cs,hl,ht,hw,h59,hd,h1,h2,hc,k⟩
  ·exact⟨_,rfl,_,rfl,.inr ⟨l,_,rfl,hb⟩⟩
  ·refine⟨_,rfl,_,rfl,.inl ⟨l,d,as,ae,cs,rfl,hl,ht,hw,h59,hd,h1,h2,fun H1 aM bQ=>⟨_,rfl,?_⟩⟩⟩
   rw[hc];exact iteT fun x hx=>k H1 aM bQ x hx
section
variable (Cm:C1 P w K mg base "must_be_chain" ["web","chain"] 10 (zbb K) (spRf K fW fC))
include Cm
theorem zhB (F:Fun K "times" "times" zdR f fd):FnOk P w K mg base (CX1 P w) 11 f fd ["web","chain","often"] (zmg K fW fC):=by
 refine F.ok1 zhP (fun vs H Q E h=>?_) (fun cdv A outer s H vs Q E hr h=>?_)
 ·obtain⟨l,d,v,rfl,_⟩:=h; rfl
 ·obtain⟨l,d,v,rfl,hb⟩:=h
  exact⟨_,za (zv (zE Cm hr rfl (pass1 (E:=E)) (pa_cons (pv 0) (pa_cons (pv 1) pa_nil)))) zA,⟨_,rfl,_,rfl,.inr ⟨l,d,rfl,hb⟩⟩⟩
theorem zjh (F:Fun K "seam" "seam" zhS f fd):FnOk P w K mg base (CX1 P w) 11 f fd ["web","chain"] (spRf K fW fC):=by
 refine F.ok1 zkg (fun vs H Q E h=>?_) (fun cdv A outer s H vs Q E hr h=>?_)
 ·obtain⟨l,d,rfl,_⟩:=h; rfl
 ·obtain⟨l,d,rfl,hb⟩:=h
  exact⟨_,za (zv (zE Cm hr rfl (pass1 (E:=E)) (pa_cons (pv 0) (pa_cons (pv 1) pa_nil)))) zA,⟨_,rfl,_,rfl,.inr ⟨l,d,rfl,hb⟩⟩⟩
theorem zh6 (F:Fun K "shown_chain" "shown_chain" zcn f fd):FnOk P w K mg base (CX1 P w) 11 f fd ["web","chain"] (spRf K fW fC):=by
 refine F.ok1 ze8 (fun vs H Q E h=>?_) (fun cdv A outer s H vs Q E hr h=>?_)
 ·obtain⟨l,d,rfl,_⟩:=h; rfl
 ·obtain⟨l,d,rfl,hb⟩:=h
  exact⟨_,za (zv (zE Cm hr rfl (pass1 (E:=E)) (pa_cons (pv 0) (pa_cons (pv 1) pa_nil)))) zA,⟨_,rfl,_,rfl,.inr ⟨l,d,rfl,hb⟩⟩⟩
theorem zjI (F:Fun K "plus" "plus" zj5 f fd):FnOk P w K mg base (CX1 P w) 11 f fd ["web","one","other"] (zi9 K fW fC):=by
 refine F.ok1 zku (fun vs H Q E h=>?_) (fun cdv A outer s H vs Q E hr h=>?_)
 ·obtain⟨l,d,e,rfl,_⟩:=h; rfl
 ·obtain⟨l,d,e,rfl,hb⟩:=h
  refine⟨_,za (zv (zE Cm hr rfl (pass1 (E:=E)) (pa_cons (pv 0) (pa_cons (pv 1) pa_nil)))) (za (zv (zE Cm hr rfl (pass1 (E:=E)) (pa_cons (pv 0) (pa_cons (pv 2) pa_nil)))) zA),?_⟩;rcases hb with hb | ⟨as,ae,cs,wc,k⟩
  ·exact⟨_,rfl,_,rfl,.inr ⟨l,d,rfl,hb⟩⟩
  ·have h1:=wc.ln
   have h2:=wc.h59;exact⟨_,rfl,_,rfl,.inl ⟨l,d,as,ae,cs,rfl,SqL.of wc.hl,wc.ht,wc.hw,by omega,wc.hd,by omega,by omega,wc.hc,fun H1 aM bQ=>⟨_,rfl,_,rfl,.inr ⟨l,e,rfl,k H1 aM bQ⟩⟩⟩⟩
theorem zeP (F:Fun K "weighed" "weighed" zbj f fd):FnOk P w K mg base (CX1 P w) 11 f fd ["web","weights","chain"] (zi9 K fW fC):=by
 refine F.ok1 zdD (fun vs H Q E h=>?_) (fun cdv A outer s H vs Q E hr h=>?_)
 ·obtain⟨l,d,e,rfl,_⟩:=h; rfl
 ·obtain⟨l,d,e,rfl,hb⟩:=h
  refine⟨_,za (zv (zE Cm hr rfl (pass1 (E:=E)) (pa_cons (pv 0) (pa_cons (pv 1) pa_nil)))) (za (zv (zE Cm hr rfl (pass1 (E:=E)) (pa_cons (pv 0) (pa_cons (pv 2) pa_nil)))) zA),?_⟩;rcases hb with hb | ⟨as,ae,cs,wc,k⟩
  ·exact⟨_,rfl,_,rfl,.inr ⟨l,d,rfl,hb⟩⟩
  ·have h1:=wc.ln
   have h2:=wc.h59;exact⟨_,rfl,_,rfl,.inl ⟨l,d,as,ae,cs,rfl,SqL.of wc.hl,wc.ht,wc.hw,by omega,wc.hd,by omega,by omega,wc.hc,fun H1 aM bQ=>⟨_,rfl,_,rfl,.inr ⟨l,e,rfl,k H1 aM bQ⟩⟩⟩⟩
end
def zgH (F:Fun K "is_closed" "is_closed" zdl f fd) (B:Bt mg) (Cs:C1 P w K mg base "seam" ["web","chain"] 11 zfM (spRf K fW fC)):FnOk P w K mg base (CX1 P w) 12 f fd ["web","chain"] (spRf K fW fC):=by
 refine F.ok1 zfk (fun vs H Q E h=>?_) (fun cdv A outer s H vs Q E hr h=>?_)
 ·obtain⟨l,d,rfl,_⟩:=h; rfl
 ·obtain⟨l,d,rfl,hb⟩:=h
  exact⟨_,zd (zl (zaL zaK (zq zdS rfl B.len zau (pa_cons (zE Cs hr rfl (pass1 (E:=E)) (pa_cons (pv 0) (pa_cons (pv 1) pa_nil))) pa_nil)) ze (nomark _))),⟨_,rfl,_,rfl,.inr ⟨l,d,rfl,hb⟩⟩⟩
def NoP (K:Ad) (fP:Addr) (H:Hp) (l:Addr) (v:V) (E:XK):Prop:=∃a as ae p,v=.ref a/\SqL K H l (as.map V.ref)/\Tps H as ae/\webS ae/\Tp H a p/\p∉canon ae/\∀H1,Same H H1->∀x,H1 x=none->E (.ref x) (some fP) H1
def zjF (K:Ad) (fW fP:Addr):Sp:=fun vs H Q E=>∃l v,vs=[.ref l,v]/\(Bad K fW H l E \/ NoP K fP H l v E)
def zhL (F:Fun K "pieces_about" "pieces_about" zhn f fd) (mP:mg "NoPiece"=some (.ref fP)) (qP:QX K fP) (Cp:C1 P w K mg base "pieces" ["web"] 8 (zbM K) (zge K fW)):FnOk P w K mg base (CX1 P w) 9 f fd ["web","piece"] (zjF K fW fP):=by
 refine F.ok1 zgY (fun vs H Q E h=>?_) (fun cdv A outer s H vs Q E hr h=>?_)
 ·obtain⟨l,v,rfl,_⟩:=h; rfl
 ·obtain⟨l,v,rfl,hb⟩:=h
  have aS:=hr.units;refine⟨_,za (zo (i:=2) zgY.nd rfl (Or.inl rfl) (zE Cp hr rfl (pass1 (E:=E)) (pa_cons (pv 0) pa_nil)))
   (za (zD (zp (zd7 (in1_units aS)) (pv 1) (pv 2) (by with_unfolding_all rfl)) (zd (zbS (C:=fP) (EX:=E) rfl rfl mP qP (fun aa σ H' s' x I hx h0 hs hE=>zea I hx h0 hs (fun a e=>nomatch e) hE))) zn) zA),?_⟩
  rcases hb with hb | ⟨a,as,ae,p,rfl,hl,ht,hw,ha,hp,k⟩
  ·exact⟨_,rfl,.inr ⟨l,rfl,hb⟩⟩
  ·refine⟨_,rfl,.inl ⟨l,as,ae,rfl,hl,ht,hw,fun D H2 bs sm hD bD hb=>⟨_,rfl,_,rfl,a,D,p,bs,canon ae,rfl,rfl,sm.tp ha,SqL.of bD,hb,_,rfl,?_⟩⟩⟩
   rw[if_pos rfl,decide_eq_false hp];exact iteT fun x hx=>k H2 sm x hx
def zgA (F:Fun K "around" "around" zet f fd) (Ca:Cl P w K mg base (CX1 P w) "pieces_about" ["web","piece"] 9 (zjF K fW fP)):FnOk P w K mg base (CX1 P w) 10 f fd ["web","piece"] (zjF K fW fP):=by
 refine F.ok1 zeY (fun vs H Q E h=>?_) (fun cdv A outer s H vs Q E hr h=>?_)
 ·obtain⟨l,v,rfl,_⟩:=h; rfl
 ·obtain⟨l,v,rfl,hb⟩:=h
  refine⟨_,za (zo (i:=2) zeY.nd rfl (Or.inl rfl) (zC pa_nil)) (za (zlR (zE Ca hr rfl (pass1 (E:=E)) (pa_cons (pv 0) (pa_cons (pv 1) pa_nil)))) zA),?_⟩;refine⟨zb (by simp),fun L hL=>?_⟩;have sL:=Same.new (o:=.lst []) hL;refine⟨_,rfl,_,rfl,l,v,rfl,?_⟩;rcases hb with hb | ⟨a,as,ae,p,rfl,hl,ht,hw,ha,hp,k⟩
  ·exact .inl (hb.same sL)
  ·exact .inr ⟨a,as,ae,p,rfl,sL.seq hl,sL.tps ht,hw,sL.tp ha,hp,fun H1 bA x hx=>k H1 (sL.trans bA) x hx⟩
abbrev znZ:TE:=tOp (fun x y H Q=>∃i j,x=.str i/\y=.str j/\Q (.bl (!(Builtin.Str.occurrences j i 0 j.length 1).isEmpty)) H) (tVar 0) (tC (.str "0123456789"))
def zhy {H2:Hp}{D:Addr}{x:Str}{Q:VK} (h2:x.length<=100) (hD:H2 D=none)
  (k:∀H3,Same H2 H3->H3 D=some (.lst ((x.cps.toList.map fun c=>decide (c∈("0123456789":Str).cps.toList)).map V.bl))->Q (.ref D) H3):zaf (Its x) (zZ 0) tYes znZ [none] H2 D Q:=by
 have hsz:x.cps.size=x.length:=rfl;refine zeW (fun j σ ys H3=>∃v:Option V,σ=[v]/\Same H2 H3/\H3 D=some (.lst ys)/\ys=((x.cps.toList.map fun c=>decide (c∈("0123456789":Str).cps.toList)).take j).map V.bl) ?_ ?_ ?_
 ·exact⟨none,rfl,Same.new hD,upd_same,rfl⟩
 ·rintro j σ ys H3 c hx hj hy ⟨v,rfl,sm,aj,rfl⟩
  have ec:x.cps.toList[j]?=some c:=by simpa using hx
  have e:(x.cps.toList.map fun c=>decide (c∈("0123456789":Str).cps.toList))[j]?=some (decide (c∈("0123456789":Str).cps.toList)):=by rw[Am,ec]; rfl
  refine gyes ?_;refine⟨_,rfl,_,_,rfl,rfl,?_⟩;rw[StrLaws.found_one];exact cput (zb (by omega)) hj hy aj ⟨_,rfl,sm.then hD,upd_same,by rw[AY e,Ar]; rfl⟩
 ·rintro σ ys H3 ⟨v,rfl,sm,aj,rfl⟩
  rw[Av (by simp)] at aj;exact k H3 sm aj
def zmT (fN:Addr):Sp:=fun vs H Q E=>vs=[.str "?",.int 30]/\∀H1,Same H H1->∀x,H1 x=none->E (.ref x) (some fN) H1
def znb (fN:Addr):Sp:=fun vs H Q E=>vs=[.str "?"]/\∀H1,Same H H1->∀x,H1 x=none->E (.ref x) (some fN) H1
def zl6:zi ["figures","most"] ["figures","most"] (zf zhm):=⟨rfl,rfl,rfl,by decide +kernel,rfl,by decide +kernel,by decide +kernel⟩
def zly:zi ["word"] ["word"] (zf zha):=⟨rfl,rfl,rfl,by decide +kernel,rfl,by decide +kernel,by decide +kernel⟩
def zhZ {tf:Tok} (F:Fun K "read_number" "read_number" zhm f fd) (B:Bt mg) (mN:mg "NoNote"=some (.ref fN)) (qN:QX K fN) (mf:mg "FIGURES"=some (.str "0123456789" tf)):FnOk P w K mg base (CX1 P w) 1 f fd ["figures","most"] (zmT fN):=by
 refine F.ok1 zl6 (fun vs H Q E h=>?_) (fun cdv A outer s H vs Q E hr h=>?_)
 ·obtain⟨rfl,_⟩:=h; rfl
 ·obtain⟨rfl,k⟩:=h
  have h1:("?":Str).length=1:=by decide +kernel
  refine⟨_,za (zD (zaB (ze1 zgp zgp ze (zq zec rfl B.len zau (pa_cons (pv 0) pa_nil)) (pv 1))) zA zn)
   (za (zD (zaB (zaY (zq (zbT rfl) rfl B.all zi5 (pa_cons (zB ["figures","most"] ["sign"] [none] (zkp (pv 0)) (fun cl C s₀ H₀ ex=>zm (i:=0) (ndN ["sign"]) rfl (Or.inl rfl)) (fun cl C s₀ H₀ ex=>zM)
    (fun cl C s₀ H₀ ex=>zaL zhz (pv 0) (zaQ rfl mf (v:=.str "0123456789") ⟨_,rfl⟩) (by with_unfolding_all rfl)) (hfr:=nofr (by decide +kernel))) pa_nil))))
    (zd (zbS (C:=fN) (EX:=E) rfl rfl mN qN (fun aa σ H' s' x I hx h0 hs hE=>zea I hx h0 hs (fun a e=>nomatch e) hE))) zn)
   zA),?_⟩
  refine⟨_,rfl,_,rfl,zb (by omega),_,_,rfl,rfl,_,rfl,?_⟩;rw[h1];refine iteT ⟨_,rfl,_,_,rfl,rfl,_,rfl,?_⟩;refine iteF ⟨_,rfl,_,rfl,fun D hD=>zI (zhy (by omega) hD fun H3 sm aj=>⟨D,_,rfl,SqL.of aj,_,rfl,?_⟩)⟩;rw[show (("?":Str).cps.toList.map fun c=>decide (c∈("0123456789":Str).cps.toList)).all id=false from by decide +kernel];exact iteT fun x hx=>k H3 sm x hx
def zg3 {tm:Tok} (F:Fun K "read_weight" "read_weight" zha f fd) (mm:mg "MOST_FIGURES_chainnotes"=some (.int 30 tm)) (Cn:Cl P w K mg base (CX1 P w) "read_number" ["figures","most"] 1 (zmT fN)):FnOk P w K mg base (CX1 P w) 2 f fd ["word"] (znb fN):=by
 refine F.ok1 zly (fun vs H Q E h=>?_) (fun cdv A outer s H vs Q E hr h=>?_)
 ·obtain⟨rfl,_⟩:=h; rfl
 ·obtain⟨rfl,k⟩:=h
  refine⟨_,za (zD (zaY (zaF PySem.F.plainAttrs_str PySem.F.slot_str_startswith PySem.F.type_str_startswith zcM (pv 0) (pa_cons pe_str pa_nil))) zA zn)
   (zd (zl (zE Cn hr rfl (pass1 (E:=E)) (pa_cons (pv 0) (pa_cons (zaQ rfl mm (v:=.int 30) ⟨_,rfl⟩) pa_nil))))),?_⟩
  refine⟨_,rfl,rfl,_,45,rfl,by rw[show ("-":Str)=⟨#[45]⟩ from dash],?_⟩;rw[show decide (("?":Str).cps.toList.head?=some 45)=false from by decide +kernel];exact⟨_,rfl,iteF ⟨_,rfl,rfl,k⟩⟩
def zm0 (K:Ad) (fW fN:Addr):Sp:=fun vs H Q E=>∃l,vs=[.ref l,.str "?"]/\(Bad K fW H l E \/ ∃as ae,SqL K H l (as.map V.ref)/\Tps H as ae/\webS ae/\∀H1,Same H H1->∀x,H1 x=none->E (.ref x) (some fN) H1)
abbrev nmR:List Str:=["web","text","chain","word","halves"]
def zcS:zi nmR ["web","text"] (zf ziu):=⟨rfl,rfl,rfl,by decide +kernel,rfl,by decide +kernel,by decide +kernel⟩
def zhs (F:Fun K "read_chain" "read_chain" ziu f fd) (Cm:C1 P w K mg base "must_be_web" ["web"] 7 (zeV K) (zge K fW)) (Cw:Cl P w K mg base (CX1 P w) "read_weight" ["word"] 2 (znb fN)):FnOk P w K mg base (CX1 P w) 12 f fd ["web","text"] (zm0 K fW fN):=by
 refine F.ok1 zcS (fun vs H Q E h=>?_) (fun cdv A outer s H vs Q E hr h=>?_)
 ·obtain⟨l,rfl,_⟩:=h; rfl
 ·obtain⟨l,rfl,hb⟩:=h
  have hu:=zbE hr;refine⟨_,za (zv (zE Cm hr rfl (pass1 (E:=E)) (pa_cons (pv 0) pa_nil)))
   (za (zD (zp zaK (pv 1) pe_str (nomark _)) zA zn)
   (za (zo (i:=2) zcS.nd rfl (Or.inl rfl) zaR)
   (za (zaa PassesOwn.leaving rfl (zL (zaF PySem.F.plainAttrs_str PySem.F.slot_str_split PySem.F.type_str_split zfC (pv 1) (pa_cons pe_str pa_nil))) (zm (i:=3) zcS.nd rfl (Or.inl rfl))
    (za (zo (i:=4) zcS.nd rfl (Or.inl rfl) (zaF PySem.F.plainAttrs_str PySem.F.slot_str_partition PySem.F.type_str_partition zjw (pv 3) (pa_cons pe_str pa_nil)))
    (zd (za3 hu (pv 2) ziP (zE Cw hr rfl (pass1 (E:=E)) (pa_cons (zaz zfc (pv 4) ze (fun _ _=>rfl)) pa_nil)) rfl))))
   zA))),?_⟩
  rcases hb with hb | ⟨as,ae,hl,ht,hw,k⟩
  ·exact⟨_,rfl,.inr ⟨l,rfl,hb⟩⟩
  ·refine⟨_,rfl,.inl ⟨l,as,ae,rfl,hl,ht,hw,fun H1 bA=>⟨_,rfl,rfl,_,rfl,?_⟩⟩⟩
   rw[show decide (V.str "?"=V.str "")=false from by decide +kernel];refine iteF fun D hD=>?_;have sD:=bA.trans (Same.new (o:=.dT []) hD);have e:Txt.split "?" " "=[("?":PySem.Str)]:=by decide +kernel
   refine⟨_,rfl,rfl,_,_,rfl,rfl,by decide +kernel,zb (by decide +kernel),by rw[e]; exact zb (by decide),fun S hS=>⟨S,rfl,⟨_,SqL.of upd_same⟩,?_⟩⟩;rw[e];have sS:=sD.trans (Same.new (o:=.lst [V.str "?"]) hS);refine zae (K:=K) (a:=S) (xs:=[V.str "?"]) (fun i σ H3=>i=0/\(∃v3 v4:Option V,σ=[some (.ref l),some (.str "?"),some (.ref D),v3,v4])/\Same H H3/\H3 S=some (.lst [V.str "?"]))
    ⟨rfl,⟨none,none,rfl⟩,sS,upd_same⟩ (fun i σ H3 _ ⟨_,_,_,h⟩=>SqL.of h) ?_ ?_
   ·rintro i x σ H3 hx ⟨rfl,⟨v3,v4,rfl⟩,aE,o9⟩
    obtain rfl:V.str "?"=x:=Al hx;refine⟨_,rfl,rfl,"?",42,rfl,by rw[show ("*":Str)=⟨#[42]⟩ from by decide +kernel],zb (by decide +kernel),by decide +kernel,fun T hT=>?_⟩;have sT:=Same.new (o:=.tup [.str "?",.str "",.str ""]) hT;exact⟨_,rfl,T,_,_,_,rfl,rfl,SqT.of upd_same,zS (j:=0) rfl,rfl,fun H4 aT x hx=>k H4 (aE.trans (sT.trans aT)) x hx⟩
   ·rintro σ H3 ⟨h0,_⟩
    exact absurd h0 (by decide)
end
end K19
end
section
namespace K19
open K1
open PySem L2
abbrev zbD:Stmt:=top 67
def tIsi (C:Addr) (i:Nat) (b:Bool):TE:=fun σ H Q=>∃x,σ[i]?=some (some (.ref x))/\H x=some (excO x C)/\Q (.bl b) H
section
variable {X:Cx}{x1 x2 x3 x4:Str}{j1 j2 j3 j4:Nat}{p1 p2 p3 p4:Pos}{es:List Expr}{t:TA}
def zaJ {n xC:Str}{i:Nat}{C fC:Addr}{b:Bool}{q1 q2 q3 pos:Pos} (xc:XCls X.K C) (y:AD X.K (.ref C) (.ref fC)=some b) (bi:X.mg "isinstance"=none) (mC:X.mg xC=some (.ref fC)) (uc:Gl X "isinstance") (qL:Gl X xC) (he:PE X (.Name n q2) (tVar i)) (dy:(xC == ("__debug__":Str))=false:=by decide) :
  PE X (.Call (.Name "isinstance" q1) [.Name n q2,.Name xC q3] [] pos) (tIsi C i b):=by
 intro aa s σ H Q I h;obtain⟨x,e,hx,q⟩:=h;refine (show PE X _ _ from zq (zcC (c:=.ref fC) (fun u h=>h) xc y) uc bi zbw (pa_cons he (pa_cons (zaQ (v:=.ref fC) qL mC rfl (hd:=dy)) pa_nil))) aa s σ H Q I ?_;exact⟨_,e,x,rfl,hx,q⟩
def zin (h:PA X es t):PA X (.Constant (.str x1) j1 p1::.Constant (.str x2) j2 p2::.Constant (.str x3) j3 p3::.Constant (.str x4) j4 p4::es) (zy (tC (.str x1)) (zy (tC (.str x2)) (zy (tC (.str x3)) (zy (tC (.str x4)) t)))):=
 pa_cons pe_str (pa_cons pe_str (pa_cons pe_str (pa_cons pe_str h)))
end
structure Mk (K:Ad) (C f0 f1 f2 f3 f4 f5 f6 f7 f8 f9 dS:Addr) (i:Nat):Prop where
 xc:XCls K C
 y0:AD K (.ref C) (.ref f0)=some (decide (i=0))
 y1:AD K (.ref C) (.ref f1)=some (decide (i=1))
 y2:AD K (.ref C) (.ref f2)=some (decide (i=2))
 y3:AD K (.ref C) (.ref f3)=some (decide (i=3))
 y4:AD K (.ref C) (.ref f4)=some (decide (i=4))
 y5:AD K (.ref C) (.ref f5)=some (decide (i=5))
 y6:AD K (.ref C) (.ref f6)=some (decide (i=6))
 y7:AD K (.ref C) (.ref f7)=some (decide (i=7))
 y8:AD K (.ref C) (.ref f8)=some (decide (i=8))
 y9:AD K (.ref C) (.ref f9)=some (decide (i=9))
 y10:AD K (.ref C) (.ref dS)=some (decide (i=10))
 yv:AD K (.ref C) (.type "ValueError")=some true
def znJ {K:Ad}{C f0 f1 f2 f3 f4 f5 f6 f7 f8 f9 dS:Addr}{i:Nat} (a:PySem.W.findIn K (.ref C) "__getattribute__"=some (some (.builtin "BaseException.__getattribute__"))) (b:PySem.W.findIn K (.ref C) "__getattr__"=some none) (q:PySem.W.excIn K C bmV "ValueError.__new__"=true) (c:PySem.W.findIn K (.ref C) "__class__"=some (some (.builtin "object.__class__")))
  (d:PySem.W.specialIn K (.builtin "object.__class__") "__get__"=some (some (.builtin "getset_descriptor.__get__"))) (e:PySem.W.takesIn K (.builtin "object.__class__")=some true) (f:PySem.W.mroIn K C (.type "object")=some true) (g:PySem.W.mroIn K C (.type "BaseException")=some true)
  (y0:AD K (.ref C) (.ref f0)=some (decide (i=0))) (y1:AD K (.ref C) (.ref f1)=some (decide (i=1))) (y2:AD K (.ref C) (.ref f2)=some (decide (i=2))) (y3:AD K (.ref C) (.ref f3)=some (decide (i=3))) (y4:AD K (.ref C) (.ref f4)=some (decide (i=4))) (y5:AD K (.ref C) (.ref f5)=some (decide (i=5))) (y6:AD K (.ref C) (.ref f6)=some (decide (i=6))) (y7:AD K (.ref C) (.ref f7)=some (decide (i=7))) (y8:AD K (.ref C) (.ref f8)=some (decide (i=8))) (y9:AD K (.ref C) (.ref f9)=some (decide (i=9))) (y10:AD K (.ref C) (.ref dS)=some (decide (i=10))) (yv:AD K (.ref C) (.type "ValueError")=some true):Mk K C f0 f1 f2 f3 f4 f5 f6 f7 f8 f9 dS i:=⟨zlB a b q c d e f g,y0,y1,y2,y3,y4,y5,y6,y7,y8,y9,y10,yv⟩
def znO:List Expr:=match List.drop 4 (zH zbD) with
 | [.Assign _ (.List E _) _,_]=>E
 | _=>[]
def wRet:Stmt:=(List.drop 5 (zH zbD)).headD (.Pass ⟨0,0,0,0⟩)
def wS (i:Nat):Stmt:=(zH zbD).getD i (.Pass ⟨0,0,0,0⟩)
def w2:∃E:List Expr,zH zbD=[wS 0,wS 1,wS 2,wS 3,.Assign [.Name "some" ⟨257,4,257,8⟩] (.List E ⟨257,11,257,105⟩) ⟨257,4,257,105⟩,wRet]/\∀X:Cx,PA X E (zy (tC (.str "web")) (zy (tC (.str "piece")) (zy (tC (.str "chain")) (zy (tC (.str "closed")) (zy (tC (.str "table")) (zy (tC (.str "goal")) (zy (tC (.str "push")) (zy (tC (.str "map")) (zy (tC (.str "order")) (zy (tC (.str "number")) (zy (tC (.str "note")) tNil))))))))))):=
 ⟨znO,rfl,fun X=>zin (zin (pa_cons pe_str (pa_cons pe_str (pa_cons pe_str pa_nil))))⟩
section
variable {P:Program}{w:World}{K:Ad}{mg:Str->Option Value}{base:Heap}
def wd:Nat->Str
 | 0=>"web"
 | 1=>"piece"
 | 2=>"chain"
 | _=>"note"
def zer (K:Ad) (f0 f1 f2 f3 f4 f5 f6 f7 f8 f9 dS:Addr):Sp:=fun vs H Q _=>∃x C i,vs=[.ref x]/\Mk K C f0 f1 f2 f3 f4 f5 f6 f7 f8 f9 dS i/\(i=0 \/ i=1 \/ i=2 \/ i=10)/\H x=some (excO x C)/\∀H',Same H H'->Q (.str (wd i)) H'
def zca:zi ["e","low","some"] ["e"] (zf zbD):=⟨rfl,rfl,rfl,by decide +kernel,rfl,by decide +kernel,by decide +kernel⟩
def zjq {f f0 f1 f2 f3 f4 f5 f6 f7 f8 f9 dS:Addr}{fd:FuncData} (F:Fun K "_law_which" "_law_which" zbD f fd) (bi:mg "isinstance"=none) (bv:mg "ValueError"=none)
  (m0:mg "NoWeb"=some (.ref f0)) (m1:mg "NoPiece"=some (.ref f1)) (m2:mg "NoChain"=some (.ref f2)) (m3:mg "NotClosed"=some (.ref f3)) (m4:mg "NoTable"=some (.ref f4)) (m5:mg "NoGoal"=some (.ref f5)) (m6:mg "NoPush"=some (.ref f6)) (m7:mg "NoMap"=some (.ref f7)) (m8:mg "NoOrder"=some (.ref f8)) (m9:mg "NoNumber"=some (.ref f9)) (mQ:mg "NoNote"=some (.ref dS))
 :zgQ P w K mg base 1 f fd ["e"] (zer K f0 f1 f2 f3 f4 f5 f6 f7 f8 f9 dS):=by
 refine F.okN zca (fun vs H Q E h=>?_) (fun cdv A outer s H vs Q E hr h=>?_)
 ·obtain⟨x,C,i,rfl,_⟩:=h; rfl
 ·obtain⟨x,C,i,rfl,M,hi,hx,k⟩:=h
  obtain⟨EL,xg,mH⟩:=w2;rw[xg];refine⟨_,za (zo (i:=1) zca.nd rfl (Or.inl rfl) (zC (pa_cons (zaJ M.xc M.y0 bi m0 rfl rfl (pv 0)) (pa_cons (zaJ M.xc M.y1 bi m1 rfl rfl (pv 0)) (pa_cons (zaJ M.xc M.y2 bi m2 rfl rfl (pv 0)) (pa_cons (zaJ M.xc M.y3 bi m3 rfl rfl (pv 0)) pa_nil))))))
   (za (zo (i:=1) zca.nd rfl (Or.inl rfl) (zw zaj (pv 1) (zC (pa_cons (zaJ M.xc M.y4 bi m4 rfl rfl (pv 0)) (pa_cons (zaJ M.xc M.y5 bi m5 rfl rfl (pv 0)) (pa_cons (zaJ M.xc M.y6 bi m6 rfl rfl (pv 0)) (pa_cons (zaJ M.xc M.y7 bi m7 rfl rfl (pv 0)) pa_nil)))))))
   (za (zo (i:=1) zca.nd rfl (Or.inl rfl) (zw zaj (pv 1) (zC (pa_cons (zaJ M.xc M.y8 bi m8 rfl rfl (pv 0)) (pa_cons (zaJ M.xc M.y9 bi m9 rfl rfl (pv 0)) (pa_cons (zaJ M.xc M.y10 bi mQ rfl rfl (pv 0)) pa_nil))))))
   (za (zD (PW.pt (znx (zaB (zaY (zq (zcC (c:=.ty "ValueError") (fun u h=>h) M.xc M.yv) rfl bi zbw (pa_cons (pv 0) (pa_cons (zlW (v:=.ty "ValueError") rfl bv PyProof.Rows.Boot.«ValueError» rfl) pa_nil))))) (zkn (zp zdO (zaF PySem.F.plainAttrs_list PySem.F.slot_list_count PySem.F.type_list_count zg8 (pv 1) (pa_cons za8 pa_nil)) ze (nomark _)))))
     (zd (zl pe_str)) zn)
   (za (zo (i:=2) zca.nd rfl (Or.inl rfl) (zC (mH _)))
    (zd (zl (zaz zV (pv 2) (zaF PySem.F.plainAttrs_list PySem.F.slot_list_index PySem.F.type_list_index zhI (pv 1) (pa_cons za8 pa_nil)) (fun _ _=>rfl)))))))),?_⟩
  refine⟨x,rfl,hx,x,rfl,hx,x,rfl,hx,x,rfl,hx,zb (by simp),fun p hp=>?_⟩;have s1:=Same.new (o:=.lst [.bl (decide (i=0)),.bl (decide (i=1)),.bl (decide (i=2)),.bl (decide (i=3))]) hp;refine⟨_,rfl,x,rfl,s1 _ _ hx,x,rfl,s1 _ _ hx,x,rfl,s1 _ _ hx,x,rfl,s1 _ _ hx,zb (by simp),fun p2 dJ=>?_⟩;have s2:=s1.trans (Same.new (o:=.lst [.bl (decide (i=4)),.bl (decide (i=5)),.bl (decide (i=6)),.bl (decide (i=7))]) dJ);refine⟨p,p2,_,_,rfl,rfl,(Same.new dJ) _ _ upd_same,upd_same,zb (by simp),fun p3 hV=>?_⟩;have s3:=s2.trans (Same.new (o:=.lst [.bl (decide (i=0)),.bl (decide (i=1)),.bl (decide (i=2)),.bl (decide (i=3)),.bl (decide (i=4)),.bl (decide (i=5)),.bl (decide (i=6)),.bl (decide (i=7))]) hV);refine⟨_,rfl,x,rfl,s3 _ _ hx,x,rfl,s3 _ _ hx,x,rfl,s3 _ _ hx,zb (by simp),fun p4 dN=>?_⟩;have s4:=s3.trans (Same.new (o:=.lst [.bl (decide (i=8)),.bl (decide (i=9)),.bl (decide (i=10))]) dN);refine⟨p3,p4,_,_,rfl,rfl,(Same.new dN) _ _ upd_same,upd_same,zb (by simp),fun p5 kM=>?_⟩;have s5:=s4.trans (Same.new (o:=.lst [.bl (decide (i=0)),.bl (decide (i=1)),.bl (decide (i=2)),.bl (decide (i=3)),.bl (decide (i=4)),.bl (decide (i=5)),.bl (decide (i=6)),.bl (decide (i=7)),.bl (decide (i=8)),.bl (decide (i=9)),.bl (decide (i=10))]) kM);refine⟨_,rfl,x,rfl,s5 _ _ hx,_,rfl,?_⟩;refine iteF ⟨_,rfl,.inl ⟨rfl,_,SqL.of upd_same⟩,p5,_,.bl true,rfl,rfl,upd_same,rfl,?_⟩;rcases hi with rfl | rfl | rfl | rfl
  ·refine⟨rfl,rfl,false,(by first | rfl | decide),iteF ⟨zb (by simp),fun p6 dR=>?_⟩⟩
   have h6:=(Same.new (o:=.lst [.str "web",.str "piece",.str "chain",.str "closed",.str "table",.str "goal",.str "push",.str "map",.str "order",.str "number",.str "note"]) dR) _ _ (upd_same (a:=p5));refine⟨_,rfl,_,rfl,.inl ⟨rfl,_,SqL.of h6⟩,p5,_,.bl true,0,rfl,rfl,h6,by decide,rfl,by decide,by decide,(fun m hm=>?_),p6,_,0,_,rfl,rfl,SqL.of upd_same,rfl,k _ (s5.trans (Same.new dR))⟩;exact absurd hm (by omega)
  ·refine⟨rfl,rfl,false,(by first | rfl | decide),iteF ⟨zb (by simp),fun p6 dR=>?_⟩⟩
   have h6:=(Same.new (o:=.lst [.str "web",.str "piece",.str "chain",.str "closed",.str "table",.str "goal",.str "push",.str "map",.str "order",.str "number",.str "note"]) dR) _ _ (upd_same (a:=p5));refine⟨_,rfl,_,rfl,.inl ⟨rfl,_,SqL.of h6⟩,p5,_,.bl true,1,rfl,rfl,h6,by decide,rfl,by decide,by decide,(fun m hm=>?_),p6,_,1,_,rfl,rfl,SqL.of upd_same,rfl,k _ (s5.trans (Same.new dR))⟩;have:m=0:=by omega
   rcases this with rfl <;> decide
  ·refine⟨rfl,rfl,false,(by first | rfl | decide),iteF ⟨zb (by simp),fun p6 dR=>?_⟩⟩
   have h6:=(Same.new (o:=.lst [.str "web",.str "piece",.str "chain",.str "closed",.str "table",.str "goal",.str "push",.str "map",.str "order",.str "number",.str "note"]) dR) _ _ (upd_same (a:=p5));refine⟨_,rfl,_,rfl,.inl ⟨rfl,_,SqL.of h6⟩,p5,_,.bl true,2,rfl,rfl,h6,by decide,rfl,by decide,by decide,(fun m hm=>?_),p6,_,2,_,rfl,rfl,SqL.of upd_same,rfl,k _ (s5.trans (Same.new dR))⟩;have:m=0 \/ m=1:=by omega
   rcases this with rfl | rfl <;> decide
  ·refine⟨rfl,rfl,false,(by first | rfl | decide),iteF ⟨zb (by simp),fun p6 dR=>?_⟩⟩
   have h6:=(Same.new (o:=.lst [.str "web",.str "piece",.str "chain",.str "closed",.str "table",.str "goal",.str "push",.str "map",.str "order",.str "number",.str "note"]) dR) _ _ (upd_same (a:=p5));refine⟨_,rfl,_,rfl,.inl ⟨rfl,_,SqL.of h6⟩,p5,_,.bl true,10,rfl,rfl,h6,by decide,rfl,by decide,by decide,(fun m hm=>?_),p6,_,10,_,rfl,rfl,SqL.of upd_same,rfl,k _ (s5.trans (Same.new dR))⟩;have:m=0 \/ m=1 \/ m=2 \/ m=3 \/ m=4 \/ m=5 \/ m=6 \/ m=7 \/ m=8 \/ m=9:=by omega
   rcases this with rfl | rfl | rfl | rfl | rfl | rfl | rfl | rfl | rfl | rfl <;> decide
end
end K19
end
section
namespace K19
open K1 Tx
open PySem L2 STb
abbrev zhc:Stmt:=top 68
abbrev sMet:Stmt:=top 69
section
variable {P:Program}{w:World}{K:Ad}{mg:Str->Option Value}{base:Heap}{f fW fC fP fN fS:Addr}{fd:FuncData}
def AskG (H:Hp) (l d e:Addr) (Q:VK):Prop:=∃as ae cs,WC H l d as ae cs/\WC H l e as ae cs/\Oc ae cs/\∀v H',Same2 d e H H'->Q v H'
def zns (K:Ad) (fW fC:Addr):Sp:=fun vs H Q E=>∃cx:Int,∃l d e,vs=[.int cx,.ref l,.ref d,.ref e]/\d≠e/\(AskG H l d e Q \/ (Rf K fW fC H l d E/\Rf2 K fW fC H l e d E))
def zlG:zi ["way","web","one","other"] ["way","web","one","other"] (zf zhc):=⟨rfl,rfl,rfl,by decide +kernel,rfl,by decide +kernel,by decide +kernel⟩
def zjz (F:Fun K "_law_asked" "_law_asked" zhc f fd) (kG:C1 P w K mg base "plus" ["web","one","other"] 11 zkB (zi9 K fW fC)) (lW:C1 P w K mg base "times" ["web","chain","often"] 11 ziH (zmg K fW fC)) (kE:C1 P w K mg base "seam" ["web","chain"] 11 zfM (spRf K fW fC))
  (nA:C1 P w K mg base "is_closed" ["web","chain"] 12 zfp (spRf K fW fC)) (kD:C1 P w K mg base "weighed" ["web","weights","chain"] 11 zdE (zi9 K fW fC)) (nZ:C1 P w K mg base "shown_chain" ["web","chain"] 11 zfK (spRf K fW fC)):FnOk P w K mg base (CX1 P w) 13 f fd ["way","web","one","other"] (zns K fW fC):=by
 refine F.ok1 zlG (fun vs H Q E h=>?_) (fun cdv A outer s H vs Q E hr h=>?_)
 ·obtain⟨cx,l,d,e,rfl,_⟩:=h; rfl
 ·obtain⟨cx,l,d,e,rfl,hne,h⟩:=h
  refine⟨_,za (zD (zp zaK (pv 0) ze (nomark _)) (zd (zl (zE kG hr rfl (pass1 (E:=E)) (pa_cons (pv 1) (pa_cons (pv 2) (pa_cons (pv 3) pa_nil)))))) zn)
   (za (zD (zp zaK (pv 0) ze (nomark _)) (zd (zl (zE kG hr rfl (pass1 (E:=E)) (pa_cons (pv 1) (pa_cons (pv 3) (pa_cons (pv 2) pa_nil)))))) zn)
   (za (zD (zp zaK (pv 0) ze (nomark _)) (zd (zl (zE lW hr rfl (pass1 (E:=E)) (pa_cons (pv 1) (pa_cons (pv 2) (pa_cons ze pa_nil)))))) zn)
   (za (zD (zp zaK (pv 0) ze (nomark _)) (zd (zl (zE kE hr rfl (pass1 (E:=E)) (pa_cons (pv 1) (pa_cons (pv 2) pa_nil))))) zn)
   (za (zD (zp zaK (pv 0) ze (nomark _)) (zd (zl (zE nA hr rfl (pass1 (E:=E)) (pa_cons (pv 1) (pa_cons (pv 2) pa_nil))))) zn)
   (za (zD (zp zaK (pv 0) ze (nomark _)) (zd (zl (zE kD hr rfl (pass1 (E:=E)) (pa_cons (pv 1) (pa_cons (pv 2) (pa_cons (pv 3) pa_nil)))))) zn)
   (za (zD (zp zaK (pv 0) ze (nomark _)) (zd (zl (zE kD hr rfl (pass1 (E:=E)) (pa_cons (pv 1) (pa_cons (pv 3) (pa_cons (pv 2) pa_nil)))))) zn)
   (zd (zl (zE nZ hr rfl (pass1 (E:=E)) (pa_cons (pv 1) (pa_cons (pv 2) pa_nil))))))))))),?_⟩
  rcases h with ⟨as,ae,cs,wc,wd,oc,k⟩ | ⟨h1,h2⟩
  ·have h5:∀c∈cs,c.1.length<=5:=fun c hc=>(oc.tm c hc).2.2.1
   have hoh:oneH (ksC cs++ksC cs)=true:=by
    obtain⟨n,hn⟩:=oc.hi;refine zij (n:=n) fun q hq=>?_;rcases List.mem_append.mp hq with z | z <;> obtain⟨c,hc,rfl⟩:=zcH z <;> exact hn c hc
   have hbd:∀c∈cs,-(2 ^ 64)<c.2/\c.2<2 ^ 64:=fun c hc=>by
    have:c.2.natAbs<10 ^ 16:=oc.sm c hc;omega
   have hmul:∀c∈cs,CMul 3 c.2:=fun c hc=>.inl ⟨by decide,by decide⟩;refine⟨_,rfl,rfl,_,rfl,ite2 (fun _=>⟨_,rfl,_,rfl,_,rfl,.inl ⟨l,d,e,as,ae,cs,cs,rfl,hne,wc,wd,hoh,fun D H' s2 _ _ _ _=>k _ H' s2⟩⟩) fun _=>?_⟩;refine⟨_,rfl,rfl,_,rfl,ite2 (fun _=>⟨_,rfl,_,rfl,_,rfl,.inl ⟨l,e,d,as,ae,cs,cs,rfl,hne.symm,wd,wc,hoh,fun D H' s2 _ _ _ _=>k _ H' fun b o h1 h2 q=>s2 b o h2 h1 q⟩⟩) fun _=>?_⟩;refine⟨_,rfl,rfl,_,rfl,ite2 (fun _=>⟨_,rfl,_,rfl,.inl ⟨l,d,as,ae,cs,3,rfl,wc,hmul,fun D H' sb _ _ _=>k _ H' fun b o h1 _ q=>sb b o h1 q⟩⟩) fun _=>?_⟩;refine⟨_,rfl,rfl,_,rfl,ite2 (fun _=>⟨_,rfl,_,rfl,.inl ⟨l,d,as,ae,cs,rfl,wc,h5,fun D H' sb _ _ _=>k _ H' fun b o h1 _ q=>sb b o h1 q⟩⟩) fun _=>?_⟩;refine⟨_,rfl,rfl,_,rfl,ite2 (fun _=>⟨_,rfl,_,rfl,.inl ⟨l,d,as,ae,cs,rfl,wc,h5,fun H' sb _=>k _ H' fun b o h1 _ q=>sb b o h1 q⟩⟩) fun _=>?_⟩;refine⟨_,rfl,rfl,_,rfl,ite2 (fun _=>⟨_,rfl,_,rfl,_,rfl,.inl ⟨l,d,e,as,ae,cs,cs,rfl,hne,wc,wd,hbd,fun H' s2 _=>k _ H' s2⟩⟩) fun _=>?_⟩;refine⟨_,rfl,rfl,_,rfl,ite2 (fun _=>⟨_,rfl,_,rfl,_,rfl,.inl ⟨l,e,d,as,ae,cs,cs,rfl,hne.symm,wd,wc,hbd,fun H' s2 _=>k _ H' fun b o h1 h2 q=>s2 b o h2 h1 q⟩⟩) fun _=>?_⟩;exact⟨_,rfl,_,rfl,.inl ⟨l,d,as,ae,cs,rfl,wc.hl,wc.ht,wc.hd,oc,fun H' sb _=>k _ H' fun b o h1 _ q=>sb b o h1 q⟩⟩
  ·refine⟨_,rfl,rfl,_,rfl,ite2 (fun _=>⟨_,rfl,_,rfl,_,rfl,.inr ⟨l,d,e,rfl,.inl h1⟩⟩) fun _=>?_⟩
   refine⟨_,rfl,rfl,_,rfl,ite2 (fun _=>⟨_,rfl,_,rfl,_,rfl,.inr ⟨l,e,d,rfl,h2⟩⟩) fun _=>?_⟩;refine⟨_,rfl,rfl,_,rfl,ite2 (fun _=>⟨_,rfl,_,rfl,.inr ⟨l,d,_,rfl,h1⟩⟩) fun _=>?_⟩;refine⟨_,rfl,rfl,_,rfl,ite2 (fun _=>⟨_,rfl,_,rfl,.inr ⟨l,d,rfl,h1⟩⟩) fun _=>?_⟩;refine⟨_,rfl,rfl,_,rfl,ite2 (fun _=>⟨_,rfl,_,rfl,.inr ⟨l,d,rfl,h1⟩⟩) fun _=>?_⟩;refine⟨_,rfl,rfl,_,rfl,ite2 (fun _=>⟨_,rfl,_,rfl,_,rfl,.inr ⟨l,d,e,rfl,.inl h1⟩⟩) fun _=>?_⟩;refine⟨_,rfl,rfl,_,rfl,ite2 (fun _=>⟨_,rfl,_,rfl,_,rfl,.inr ⟨l,e,d,rfl,h2⟩⟩) fun _=>?_⟩;exact⟨_,rfl,_,rfl,.inr ⟨l,d,rfl,h1⟩⟩
end
end K19
end
section
namespace K19
open K1 Tx
open PySem L2 STb
section
variable {P:Program}{w:World}{K:Ad}{mg:Str->Option Value}{base:Heap}{f fw fW fC fP fN fS f3 f4 f5 f6 f7 f8 f9:Addr}{fd eA:FuncData}
def BadL (K:Ad) (H:Hp) (l:Addr):Prop:=∃as ae,SqL K H l (as.map V.ref)/\Tps H as ae/\(ae.all zG=true->(dd (ae.flatMap parts)).length<64)/\webM ae=false
def zlM (K:Ad) (H:Hp) (l:Addr) (ae:List (List Int)):Prop:=∃as,SqL K H l (as.map V.ref)/\Tps H as ae/\webS ae
def AnyC (K:Ad) (H:Hp) (l d:Addr) (ae:List (List Int)) (cs:Ch):Prop:=∃as,SqL K H l (as.map V.ref)/\Tps H as ae/\webS ae/\(canon ae).length<=59/\Rd H d (.dT (kvC cs))/\cs.length<=4*(canon ae).length+3/\cs.length<=59
def MetC (K:Ad) (H:Hp) (cx:Int) (l d e:Addr) (st:Str):Prop:=
 (BadL K H l/\st="web") \/
 (cx<8/\(∃ae cs as ds,AnyC K H l d ae cs/\chM (canon ae) cs=false/\WC H l e as ae ds)/\st="chain") \/
 (cx<8/\(∃as ae cs,WC H l d as ae cs/\WC H l e as ae cs/\Oc ae cs)/\st="told") \/
 (cx=8/\(∃ae cs,AnyC K H l d ae cs)/\st="told") \/
 (cx=9/\(∃ae,zlM K H l ae/\[-1,500]∉canon ae)/\st="piece") \/
 (cx=10/\(∃ae,zlM K H l ae)/\st="note")
def zjA (K:Ad):Sp:=fun vs H Q _=>∃cx:Int,∃l d e st,vs=[.int cx,.ref l,.ref d,.ref e]/\d≠e/\MetC K H cx l d e st/\∀H',Same2 d e H H'->Q (.str st) H'
def zjb:zi ["way","web","one","other","which","e"] ["way","web","one","other"] (zf sMet):=⟨rfl,rfl,rfl,by decide +kernel,rfl,by decide +kernel,by decide +kernel⟩
def AnyC.keep {H H':Hp}{l d e:Addr}{ae:List (List Int)}{cs ds:Ch}{as:List Addr} (h:AnyC K H l d ae cs) (hne:d≠e) (wc:WC H l e as ae ds) (s:zr e H H'):AnyC K H' l d ae cs:=by
 obtain⟨bs,hl,ht,hw,h1,hd,h2,h3⟩:=h;exact⟨as,SqL.of (s.lst wc.hd wc.hl),s.tpsD wc.hd wc.ht,hw,h1,zb8 s hne hd,h2,h3⟩
def zm8 (F:Fun K "_law_met" "_law_met" sMet f fd) (mS:mg "SeamError"=some (.ref fS))
  (Ca:Cl P w K mg base (CX1 P w) "_law_asked" ["way","web","one","other"] 13 (zns K fW fC)) (Ci:C1 P w K mg base "is_chain" ["web","chain"] 9 (zfz K) (zgO K fW)) (Cr:Cl P w K mg base (CX1 P w) "around" ["web","piece"] 10 (zjF K fW fP)) (Cd:Cl P w K mg base (CX1 P w) "read_chain" ["web","text"] 12 (zm0 K fW fN))
  (Fw:Fun K "_law_which" "_law_which" zbD fw eA) (bw:Binds K eA ["e"] []) (mw:mg "_law_which"=some (.ref fw)) (Gw:zgQ P w K mg base 1 fw eA ["e"] (zer K fW fP fC f3 f4 f5 f6 f7 f8 f9 fN))
  (M0:Mk K fW fW fP fC f3 f4 f5 f6 f7 f8 f9 fN 0) (M1:Mk K fP fW fP fC f3 f4 f5 f6 f7 f8 f9 fN 1) (M2:Mk K fC fW fP fC f3 f4 f5 f6 f7 f8 f9 fN 2) (M3:Mk K fN fW fP fC f3 f4 f5 f6 f7 f8 f9 fN 10) (S0:SubX K fW fS) (S1:SubX K fP fS) (S2:SubX K fC fS) (S3:SubX K fN fS) :
  FnOk P w K mg base CX0 14 f fd ["way","web","one","other"] (zjA K):=by
 refine F.ok zjb (fun vs H Q E h=>?_) (fun cdv A outer s H vs Q E hr h=>?_)
 ·obtain⟨cx,l,d,e,st,rfl,_⟩:=h; rfl
 ·obtain⟨cx,l,d,e,st,rfl,hne,hc,k⟩:=h
  have hr1:Room 1 _:=hr.mono (by decide);refine⟨_,za (zo (i:=4) zjb.nd rfl (Or.inl rfl) pe_str)
   (za (zm1 (ie:=5) (S:=fS) rfl zjb.nd rfl rfl rfl rfl rfl mS
    (fun aa EB=>zd (zD (zp zgd (pv 0) ze (nomark _)) (zd (zv (zE Ca hr rfl (ziX rfl) (pa_cons (pv 0) (pa_cons (pv 1) (pa_cons (pv 2) (pa_cons (pv 3) pa_nil)))))))
     (zd (zD (zp zaK (pv 0) ze (nomark _)) (zd (zv (zE Ci hr rfl (ziX rfl) (pa_cons (pv 1) (pa_cons (pv 2) pa_nil)))))
     (zd (zD (zp zaK (pv 0) ze (nomark _)) (zd (zv (zE Cr hr rfl (ziX rfl) (pa_cons (pv 1) (pa_cons (zU (pa_cons (zlc zif ze) (pa_cons ze pa_nil))) pa_nil)))))
     (zd (zv (zE Cd hr rfl (ziX rfl) (pa_cons (pv 1) (pa_cons pe_str pa_nil)))))))))))
    (fun aa x=>zd (zo (i:=4) zjb.nd rfl (Or.inl rfl) (ziT (E:=E0) Gw (hr1.mark _) rfl mw Fw.kp bw .nil (pa_cons (pv 5) pa_nil)))))
   (zd (zl (pv 4)))),?_⟩
  have HB:∀(C:Addr) (i:Nat) (D:Ends) (H1:Hp) (x:Addr),Mk K C fW fP fC f3 f4 f5 f6 f7 f8 f9 fN i->(i=0 \/ i=1 \/ i=2 \/ i=10)->SubX K C fS->H1 x=none->(∀a b c d H2,Same H1 H2->D.nx [a,b,c,d,some (.str (wd i)),none] H2)->EBof K 6 5 fS (tAsg (zg6 (zer K fW fP fC f3 f4 f5 f6 f7 f8 f9 fN) [] E0 (zy (tVar 5) tNil)) (zZ 4)) D (.ref x) (some C) H1:=by
   intro C i D H1 x M hi S hx kk;refine⟨x,C,rfl,rfl,S,fun ao hl=>?_⟩
   match ao,hl with
   | [a,b,c,d,e,f],_=>exact⟨_,rfl,x,C,i,rfl,M,hi,upd_same,fun H2 dI=>kk a b c d H2 ((Same.new hx).trans dI)⟩
  have up:∀{H1 H2:Hp},Same H H1->Same H1 H2->Same2 d e H H2:=fun s1 s2 b o _ _ q=>s2 _ _ (s1 _ _ q);refine⟨_,rfl,_,_,rfl,rfl,_,rfl,?_⟩;rcases hc with ⟨⟨as,ae,hl,ht,h64,hw⟩,rfl⟩ | ⟨hlt,⟨ae,cs,as,ds,ac,vG,jY⟩,rfl⟩ | ⟨hlt,⟨as,ae,cs,wc,jY,oc⟩,rfl⟩ | ⟨rfl,⟨ae,cs,as,hl,ht,hw,h1,hd,h2,h3⟩,rfl⟩ | ⟨rfl,⟨ae,⟨as,hl,ht,hw⟩,hno⟩,rfl⟩ | ⟨rfl,⟨ae,as,hl,ht,hw⟩,rfl⟩
  ·have bd:∀{E':XK},(∀H1,Same H H1->∀x,H1 x=none->E' (.ref x) (some fW) H1)->Bad K fW H l E':=fun kk=>⟨as,ae,hl,ht,h64,hw,kk⟩
   refine ite2 (fun _=>?_) fun _=>?_
   ·refine⟨_,rfl,_,rfl,_,rfl,_,rfl,cx,l,d,e,rfl,hne,.inr ⟨.inl (bd fun H1 s1 x hx=>HB fW 0 _ H1 x M0 (.inl rfl) S0 hx fun _ _ _ _ H2 s2=>⟨_,rfl,k H2 (up s1 s2)⟩),.inl (.inl (bd fun H1 s1 x hx=>HB fW 0 _ H1 x M0 (.inl rfl) S0 hx fun _ _ _ _ H2 s2=>⟨_,rfl,k H2 (up s1 s2)⟩))⟩⟩
   refine⟨_,rfl,rfl,_,rfl,ite2 (fun _=>?_) fun _=>?_⟩
   ·exact⟨_,rfl,_,rfl,.inr ⟨l,_,rfl,bd fun H1 s1 x hx=>HB fW 0 _ H1 x M0 (.inl rfl) S0 hx fun _ _ _ _ H2 s2=>⟨_,rfl,k H2 (up s1 s2)⟩⟩⟩
   refine⟨_,rfl,rfl,_,rfl,ite2 (fun _=>?_) fun _=>?_⟩
   ·refine⟨_,rfl,1,rfl,zb (by simp),fun t ht'=>?_⟩
    have st:=Same.new (o:=.tup [.int (-1),.int 500]) ht';exact⟨l,_,rfl,.inl ⟨as,ae,st.seq hl,st.tps ht,h64,hw,fun H1 s1 x hx=>HB fW 0 _ H1 x M0 (.inl rfl) S0 hx fun _ _ _ _ H2 s2=>⟨_,rfl,k H2 (up (st.trans s1) s2)⟩⟩⟩
   ·exact⟨_,rfl,l,rfl,.inl (bd fun H1 s1 x hx=>HB fW 0 _ H1 x M0 (.inl rfl) S0 hx fun _ _ _ _ H2 s2=>⟨_,rfl,k H2 (up s1 s2)⟩)⟩
  ·rw[decide_eq_true hlt]
   have rf:∀{H0:Hp} {E':XK},AnyC K H0 l d ae cs->(∀H1,zr d H0 H1->∀x,H1 x=none->E' (.ref x) (some fC) H1)->Rf K fW fC H0 l d E':=fun ⟨bs,a1,a2,a3,a4,a5,a6,a7⟩ kk=>.inr ⟨bs,ae,cs,a1,a2,a3,a4,a5,a6,a7,vG,fun H1 sb _=>kk H1 sb⟩;refine iteT ⟨_,rfl,_,rfl,_,rfl,_,rfl,cx,l,d,e,rfl,hne,.inr ⟨rf ac fun H1 sb x hx=>HB fC 2 _ H1 x M2 (.inr (.inr (.inl rfl))) S2 hx fun _ _ _ _ H2 s2=>⟨_,rfl,k H2 fun b o n1 _ q=>s2 _ _ (sb _ _ n1 q)⟩,.inr ⟨as,ae,ds,jY,fun H0 qx _=>rf (ac.keep hne jY qx) fun H1 sb x hx=>HB fC 2 _ H1 x M2 (.inr (.inr (.inl rfl))) S2 hx fun _ _ _ _ H2 s2=>⟨_,rfl,k H2 fun b o n1 n2 q=>s2 _ _ (sb _ _ n1 (qx _ _ n2 q))⟩⟩⟩⟩
  ·rw[decide_eq_true hlt]
   exact iteT ⟨_,rfl,_,rfl,_,rfl,_,rfl,cx,l,d,e,rfl,hne,.inl ⟨as,ae,cs,wc,jY,oc,fun v H' s2=>⟨_,rfl,k H' s2⟩⟩⟩
  ·refine iteF ⟨_,rfl,rfl,_,rfl,iteT ⟨_,rfl,_,rfl,.inl ⟨l,d,as,ae,cs,rfl,hl,ht,hw,h1,hd,h2,h3,fun H' sb _=>⟨_,rfl,k H' fun b o n1 _ q=>sb _ _ n1 q⟩⟩⟩⟩
  ·refine iteF ⟨_,rfl,rfl,_,rfl,iteF ⟨_,rfl,rfl,_,rfl,iteT ⟨_,rfl,1,rfl,zb (by simp),fun t ht'=>?_⟩⟩⟩
   have st:=Same.new (o:=.tup [.int (-1),.int 500]) ht';exact⟨l,_,rfl,.inr ⟨t,as,ae,[-1,500],rfl,st.seq hl,st.tps ht,hw,upd_same,hno,fun H1 s1 x hx=>HB fP 1 _ H1 x M1 (.inr (.inl rfl)) S1 hx fun _ _ _ _ H2 s2=>⟨_,rfl,k H2 (up (st.trans s1) s2)⟩⟩⟩
  ·refine iteF ⟨_,rfl,rfl,_,rfl,iteF ⟨_,rfl,rfl,_,rfl,iteF ⟨_,rfl,l,rfl,.inr ⟨as,ae,hl,ht,hw,fun H1 s1 x hx=>HB fN 10 _ H1 x M3 (.inr (.inr (.inr rfl))) S3 hx fun _ _ _ _ H2 s2=>⟨_,rfl,k H2 (up s1 s2)⟩⟩⟩⟩⟩
end
end K19
end
section
namespace K19
open K1
open PySem L2 STb
def hT (ps:List Int):Int:=reduceHash (Builtin.Tuple.tupleHashOf (ps.map hashInt))
def chk (m:Nat):List Int->Nat->Bool
 | [],_=>true
 | h::t,acc=>(Nat.beq (Nat.land 1 (Nat.shiftRight acc (h % (m:Int)).toNat)) 0) && chk m t (Nat.lor acc (Nat.shiftLeft 1 (h % (m:Int)).toNat))
def zd4 (a b:Nat):Nat.beq (Nat.land 1 (Nat.shiftRight a b)) 0=!a.testBit b:=by
 unfold Nat.testBit;show Nat.beq (1 &&& (a >>> b)) 0=!(1 &&& (a >>> b) != 0);cases h:(1 &&& (a >>> b)) with
 | zero=>rfl
 | succ n=>rfl
def zg7 (m:Nat):∀(l:List Int) (acc:Nat),chk m l acc=true->(∀h∈l,acc.testBit (h % (m:Int)).toNat=false)/\l.Nodup
 | [],_,_=>⟨(fun h x=>nomatch x),List.nodup_nil⟩
 | h::t,acc,e=>by
  unfold chk at e;rw[AF,zd4] at e;obtain⟨e1,e2⟩:=e;obtain⟨i1,i2⟩:=zg7 m t _ e2;have cw:acc.testBit (h % (m:Int)).toNat=false:=by simpa using e1
  have key:∀x∈t,acc.testBit (x % (m:Int)).toNat=false/\(x % (m:Int)).toNat≠(h % (m:Int)).toNat:=fun x hx=>by
   have:=i1 x hx;rw[show Nat.lor acc (Nat.shiftLeft 1 (h % (m:Int)).toNat)=acc ||| (1 <<< (h % (m:Int)).toNat) from rfl,Nat.testBit_or,Bool.or_eq_false_iff,Nat.one_shiftLeft,Nat.testBit_two_pow] at this;exact⟨this.1,fun z=>by have:=this.2; simp[z] at this⟩
  refine⟨fun x hx=>?_,List.nodup_cons.mpr ⟨fun hx=>(key h hx).2 rfl,i2⟩⟩;rcases List.mem_cons.mp hx with rfl | hx
  ·exact cw
  ·exact (key x hx).1
def up:Nat->Int->List (List Int)
 | 0,_=>[[]]
 | m+1,k=>up m (k+1)++(up m (k+1)).map (k::·)
def zft:∀(m:Nat) (k:Int) (e:List Int),e.Pairwise (·<·)->(∀x∈e,k<=x/\x<k+m)->e∈up m k
 | 0,k,e,_,h=>by
  cases e with
  | nil=>exact List.mem_singleton.mpr rfl
  | cons x r=>have:=h x Au; omega
 | m+1,k,e,hp,h=>by
  unfold up;rw[List.mem_append];cases e with
  | nil=>exact .inl (zft m (k+1) [] .nil (fun x hx=>nomatch hx))
  | cons x r=>
   obtain⟨h1,h2⟩:=List.pairwise_cons.mp hp
   by_cases hx:x=k
   ·subst hx
    exact .inr (List.mem_map.mpr ⟨r,zft m (x+1) r h2 (fun y hy=>by have:=h1 y hy; have:=h y (Aw _ hy); omega),rfl⟩)
   ·refine .inl (zft m (k+1) _ hp fun y hy=>?_)
    have h0:=h x Au;rcases List.mem_cons.mp hy with rfl | hy'
    ·omega
    ·have:=h1 y hy'; have:=h y (Aw _ hy'); omega
def rows8:List (List Int):=(up 8 0).filter fun e=>Nat.ble e.length 5
def odd4:List (List Int):=[[97,98],[98],[98,97],[97]]
def univ (f g:Int):List (List Int):=rows8.map (ren f g)++((rows8.filter fun e=>Nat.ble 2 e.length).map fun e=>(ren f g e).reverse)++odd4
def divs:List Nat:=[11453,11237,12415,10521,12247,11867,12093,13093,12021,10695,11603,11949,12595,10451,12813,11059,10499,12425,13863,9283,10507,11407,11585,9801,9813,10031,11105,11903,9843,11687,10641,11395,11007,12073,10901,10481]
def znp (i:Nat):Bool:=chk (divs.getD i 1) ((univ ((i / 3:Nat):Int) ((i % 3+1:Nat):Int)).map hT) 0
def zl1:∀i,i<36->znp i=true:=by decide +kernel
def zhu {α β:Type}{f:α->β}:∀{l:List α},(l.map f).Nodup->∀x∈l,∀y∈l,f x=f y->x=y
 | [],_,_,hx,_,_,_=>absurd hx (by simp)
 | a::l,h,x,hx,y,hy,e=>by
  rw[AH,List.nodup_cons] at h;rcases List.mem_cons.mp hx with q | hx'
  ·rcases List.mem_cons.mp hy with r | hy'
   ·rw[q,r]
   ·exact absurd (List.mem_map.mpr ⟨y,hy',by rw[<- e,q]⟩) h.1
  ·rcases List.mem_cons.mp hy with r | hy'
   ·exact absurd (List.mem_map.mpr ⟨x,hx',by rw[e,r]⟩) h.1
   ·exact zhu h.2 x hx' y hy' e
def ziC {P:Program}{w:World} (ps:List Int):An (intKind P w) ps=hT ps:=rfl
def Nm (f g:Int):Prop:=0<=f/\f<12/\1<=g/\g<=3
def zjd {f g:Int} (h:Nm f g) {x y:List Int} (hx:x∈univ f g) (hy:y∈univ f g) (e:hT x=hT y):x=y:=by
 obtain⟨f0,f1,g0,g1⟩:=h;obtain⟨i,rfl⟩:=Int.eq_ofNat_of_zero_le f0;obtain⟨j,hj⟩:=Int.eq_ofNat_of_zero_le (show 0<=g - 1 by omega);obtain rfl:g=((j+1:Nat):Int):=by omega
 have h:=zl1 (3*i+j) (by omega);unfold znp at h;rw[show (3*i+j) / 3=i by omega,show (3*i+j) % 3+1=j+1 by omega] at h;exact zhu (zg7 _ _ _ h).2 x hx y hy e
def Rz (e:List Int):Prop:=e.Pairwise (·<·)/\(∀x∈e,0<=x/\x<=7)/\e.length<=5
def Rz.sub {e d:List Int} (h:Rz e) (s:d.Sublist e):Rz d:=⟨h.1.sublist s,fun x hx=>h.2.1 x (s.subset hx),AA s.length_le h.2.2⟩
def InK (f g:Int) (ps:List Int):Prop:=(∃e,Rz e/\(ps=ren f g e \/ ps=(ren f g e).reverse)) \/ ps∈odd4
def zem {e:List Int} (h:Rz e):e∈rows8:=List.mem_filter.mpr ⟨zft 8 0 e h.1 (fun x hx=>by have:=h.2.1 x hx; omega),by rw[Nat.ble_eq]; exact h.2.2⟩
def zfe {f g:Int}{ps:List Int} (h:InK f g ps):ps∈univ f g:=by
 unfold univ;rw[List.mem_append,List.mem_append];rcases h with ⟨e,he,rfl | rfl⟩ | h
 ·exact .inl (.inl (List.mem_map.mpr ⟨e,zem he,rfl⟩))
 ·by_cases h2:2<=e.length
  ·exact .inl (.inr (List.mem_map.mpr ⟨e,List.mem_filter.mpr ⟨zem he,by rw[Nat.ble_eq]; exact h2⟩,rfl⟩))
  ·refine .inl (.inl (List.mem_map.mpr ⟨e,zem he,?_⟩))
   cases e with
   | nil=>rfl
   | cons x r=>cases r with
    | nil=>rfl
    | cons y t=>simp at h2
 ·exact .inr h
def zeO {P:Program}{w:World}{f g:Int} (h:Nm f g) {ae:List (List Int)} (hn:ae.Nodup) (hk:∀p∈ae,InK f g p):(ae.map (An (intKind P w))).Nodup:=by
 unfold List.Nodup at hn ⊢;rw[List.pairwise_map];refine hn.imp_of_mem fun {a b} ha hb hne e=>hne ?_;rw[ziC,ziC] at e;exact zjd h (zfe (hk a ha)) (zfe (hk b hb)) e
def zcB {q:List (List Int)} (h:Drawn q):∃f g,Nm f g/\∀e∈canon q,∃e0,Rz e0/\e=ren f g e0:=by
 obtain⟨b,first,aB,hb,h0,h1,hg,kj,hp⟩:=h;obtain⟨_,_,n3,_⟩:=zib hb;refine⟨first,aB,⟨h0,h1,hg,kj⟩,fun e he=>?_⟩;obtain⟨q0,vE,hx⟩:=List.mem_flatMap.mp (zaC.mp he);obtain⟨r,hr,rfl⟩:=List.mem_map.mp (hp.mem_iff.mp vE);obtain⟨_,aH⟩:=zT.mp hx;unfold ren at aH;obtain⟨y,hy,rfl⟩:=List.sublist_map_iff.mp aH;obtain⟨_,r5,rr,rb⟩:=n3 r hr;exact⟨y,⟨((zaO r).mp rr).sublist hy,fun x hx=>rb x (hy.subset hx),AA hy.length_le r5⟩,rfl⟩
end K19
end
section
namespace L2
open PySem PySem.Spec PyProof.Rows
def putAll (kvs l:List (List Key×V)):List (List Key×V):=l.foldl (fun acc kv=>putK acc kv.1 kv.2) kvs
def Rows2 (H:Hp) (ps:List (V×V)) (l:List (List Key×V)):Prop:=Paired (fun (q:V×V) (kv:List Key×V)=>∃b,q=(.ref b,kv.2)/\H b=some (.tup (kv.1.map kV))) ps l
section
variable {X:Cx}
def sto {aa:List (Addr×Obj)}{σ:St}{p:Addr}{Q:PUnit->Shared->Prop} (hu:X.A.units<cLine):∀{l:List (List Key×V)}{ps:List (V×V)}{ws:List (Value×Value)}{kvs:List (List Key×V)}{H:Hp}{s:Shared},VV ps ws->Rows2 H ps l->Inv X aa σ H s->H p=some (.dT kvs)->kvs.length+l.length<=100->
  (∀H' s',Inv X aa σ H' s'->H' p=some (.dT (putAll kvs l))->(∀b,b≠p->H' b=H b)->Q ⟨⟩ s')->wpAny (model X.prog X.w) X.A (storeAll p ws) Q X.xe s
 | _,_,_,kvs,H,s,.nil,.nil,I,e,hl,k=>by
  unfold storeAll;rw[List.forIn_nil];exact Ac (k H s I e fun _ _=>rfl)
 | kv::l,_,_,kvs,H,s,.cons (b:=w0) r t,.cons hr rt,I,e,hl,k=>by
  obtain⟨b,rfl,eb⟩:=hr;obtain⟨w1,w2⟩:=w0;obtain⟨r1,r2⟩:=r;cases (show w1=Value.ref b from r1);obtain⟨z,hd,xs,rel,dd⟩:=znv I.hok e;have vO:=AX rel;unfold storeAll;rw[List.forIn_cons];refine Aa (Aa (wpAny_dictSet_heap (hsz:=by rw[<- vO]; exact z) (knd:=tupleKind (zu X.prog X.w)) hu (zcE I.hok eb) dd fun h' dz hs=>Ac ?_));obtain⟨qo,es,ep,hq,h2,h3,h4,_,h5⟩:=dz;have lg:=za7 kvs kv.1 kv.2;rw[Ap] at hl;have I2:Inv X aa σ (upd H p (.dT (putK kvs kv.1 kv.2))) { s with heap:=h',toks:=s.toks+(tupleKind (zu X.prog X.w)).draws kv.1 }:=by
   refine zb4 I (by rw[e]; exact True.intro) hs ⟨qo,hq⟩ ⟨by rw[sizeLine_eq]; omega,hd,_,(KT.put rel kv.1 eb r2).keeps fun c ys ec=>?_,qo,es,ep,hq,h2,h3,h4,h5⟩;rw[zh (zaX ec e (fun z=>nomatch z))];exact ec
  refine sto hu (l:=l) t (Paired.mapP rt fun q xY ⟨c,e1,e2⟩=>⟨c,e1,?_⟩) I2 upd_same (by omega) fun H' s' I' e' ho=>k H' s' I' e' fun c hc=>by rw[ho c hc,zh hc]
  rw[zh (zaX e2 e (fun z=>nomatch z))];exact e2
def zaG (fI:List (TE×TE)):TE:=fun σ H Q=>∀p,H p=none->zil fI σ (upd H p (.dT [])) fun ps H2=>∃l,Rows2 H2 ps l/\H2 p=some (.dT [])/\l.length<=100/\∀H',H' p=some (.dT (putAll [] l))->(∀b,b≠p->H' b=H2 b)->Q (.ref p) H'
def zbO {ks:List (Option Expr)}{vs:List Expr}{pos:Pos}{fI:List (TE×TE)} (hu:X.A.units+1<cLine) (h:PPs X pos ks vs fI) (ha:ks.all (·.isSome)=true:=by rfl) (hl:ks.length=vs.length:=by rfl) (h0:ks≠[]:=by simp) (w_:ks.length<=15:=by simp):PE X (.Dict ks vs pos) (zaG fI):=by
 intro aa s σ H Q I q;have hn:=I.hok.fresh (Af s.heap.objs.size);have I1:=I.laid (a:=s.heap.objs.size) (o:=.dT []) (h':=s.heap.push { cls:=.type "dict",data:=.dict #[] }) (t':=s.toks) (fun _ _ q=>Ae _ q) (Af _) (ze5 s.heap I.big);refine wpAny_Dict_any ha hl h0 w_ (thn (h aa _ σ _ _ I1 (q _ hn)) fun ws s2 ⟨ps,H2,I2,rel,l,hr,e,hz,q2⟩=>?_);exact sto (by omega) rel hr I2 e (by simpa using hz) fun H' s' I' e' ho=>⟨.ref s.heap.objs.size,H',I',rfl,q2 H' e' ho⟩
end
end L2
end
section
namespace K19
open K1 Tx
open PySem L2 STb
abbrev sLaw:Stmt:=top 70
def exs:Nat->List (List Int)
 | 0=>[[97,98],[97,98]]
 | 1=>[[98,97]]
 | 2=>[[]]
 | _=>[[98,100]]
def znh:∀i,i<4->i≠0->(exs i).all zG=false:=by decide +kernel
def zm7 {ae:List (List Int)} (hd:Drawn ae) {i:Nat} (hi:i<4):webM (ae++exs i)=false/\((ae++exs i).all zG=true->(dd ((ae++exs i).flatMap parts)).length<64):=by
 by_cases h0:i=0
 ·subst h0
  constructor
  ·have h:(dd (ae++exs 0)).length<(ae++exs 0).length:=by
    have h1:(dd (ae++exs 0)).length<=(ae++[[97,98]]).length:=(zaU _).length_le_of_subset fun x hx=>by
     rw[za2] at hx;rcases List.mem_append.mp hx with h | h
     ·exact List.mem_append_left _ h
     ·refine AT _ ?_
      simpa[exs] using h
    have h2:(ae++exs 0).length=ae.length+2:=by rw[Aq]; rfl
    rw[Aq] at h1;have h3:([[97,98]]:List (List Int)).length=1:=rfl;omega
   unfold webM;rw[decide_eq_true h];simp
  ·intro _
   have h1:(dd ((ae++exs 0).flatMap parts)).length<=(dd (ae.flatMap parts)++parts [97,98]).length:=(zaU _).length_le_of_subset fun x hx=>by
    rw[za2,List.flatMap_append] at hx;rcases List.mem_append.mp hx with h | h
    ·exact List.mem_append_left _ (by rw[za2]; exact h)
    ·refine AT _ ?_
     obtain⟨q,hq,hx⟩:=List.mem_flatMap.mp h;have:q=[97,98]:=by simpa[exs] using hq
     rw[this] at hx;exact hx
   have h2:(parts [97,98]).length=3:=by decide +kernel
   have h3:=zbc hd;rw[Aq] at h1;omega
 ·have h:(ae++exs i).all zG=false:=by rw[List.all_append,znh i hi h0,Bool.and_false]
  refine⟨?_,fun z=>by rw[h] at z; cases z⟩;unfold webM;rw[h];simp
def zc1 {ae:List (List Int)} (hd:Drawn ae):webS ae:=⟨(zg0 hd).1,by rw[zbg]; exact Nat.lt_of_le_of_lt (zbc hd) (by decide)⟩
def zeB {ae:List (List Int)} (hd:Drawn ae) {e:List Int} (he:e∈canon ae):∀x∈e,0<=x/\x<=32:=by
 obtain⟨f,g,⟨f0,f1,g0,g1⟩,h⟩:=zcB hd;obtain⟨e0,hr,rfl⟩:=h e he;intro x hx;obtain⟨y,hy,rfl⟩:=List.mem_map.mp hx;obtain⟨y0,y7⟩:=hr.2.1 y hy;have:g*y<=3*7:=Int.mul_le_mul g1 y7 y0 (by decide);have:0<=g*y:=Int.mul_nonneg (by omega) y0;omega
def zlv {ae:List (List Int)} (hd:Drawn ae) {e:List Int}{r:List (List Int)} (h:canon ae=e::r):∃q,e=[q]/\0<=q/\q<=32:=by
 have he:e∈canon ae:=by rw[h]; exact Au
 have hl:=zeB hd he;obtain⟨t,ht,hx⟩:=List.mem_flatMap.mp (zaC.mp he);obtain⟨hne,hs⟩:=zT.mp hx;obtain⟨a,s,rfl⟩:=List.exists_cons_of_ne_nil hne;have jE:[a]∈canon ae:=zaC.mpr (List.mem_flatMap.mpr ⟨t,ht,zT.mpr ⟨List.cons_ne_nil _ _,(List.Sublist.cons₂ a (List.nil_sublist s)).trans hs⟩⟩);cases s with
 | nil=>exact⟨a,rfl,hl a Au⟩
 | cons b u=>
  have pd:=zaM ae;rw[h] at jE pd;rcases List.mem_cons.mp jE with z | z
  ·exact absurd z (by simp)
  ·have:=(List.pairwise_cons.mp pd).1 _ z
   rw[za4] at this;exact absurd this (by simp[key,HT.lexLt]; omega)
def nn (q:Int):Nat->Ch
 | 0=>[([98],1)]
 | 1=>[([q],0)]
 | 2=>[([],1)]
 | 3=>[([q],1),([97,98],1)]
 | 4=>[([98,97],2)]
 | _=>[([q],1),([96,97,98],0)]
def zf4 {kn:List (List Int)}{cs:Ch} (h:(∃c∈cs,c.1∉kn) \/ ∃c∈cs,c.2=0):chM kn cs=false:=by
 cases e:chM kn cs with
 | false=>rfl
 | true=>
  unfold chM at e;rw[AF,AF] at e;rcases h with ⟨c,hc,hn⟩ | ⟨c,hc,h0⟩
  ·exact absurd (of_decide_eq_true e.1 c.1 (List.mem_map.mpr ⟨c,hc,rfl⟩)) hn
  ·have:=List.all_eq_true.mp e.2.2 (noZ c) (List.mem_map.mpr ⟨c,hc,rfl⟩)
   have h1:noZ c=true:=this;unfold noZ at h1;rw[h0] at h1;exact absurd h1 (by decide)
def znB {ae:List (List Int)} (hd:Drawn ae) (q:Int) {i:Nat} (hi:i<6):chM (canon ae) (nn q i)=false:=by
 have far:∀e:List Int,(∃x∈e,32<x)->e∉canon ae:=fun e ⟨x,hx,h32⟩ z=>by
  have:=(zeB hd z x hx).2;omega
 have:i=0 \/ i=1 \/ i=2 \/ i=3 \/ i=4 \/ i=5:=by omega
 rcases this with rfl | rfl | rfl | rfl | rfl | rfl
 ·exact zf4 (.inl ⟨([98],1),by simp[nn],far _ ⟨98,by simp,by decide⟩⟩)
 ·exact zf4 (.inr ⟨([q],0),by simp[nn],rfl⟩)
 ·refine zf4 (.inl ⟨([],1),by simp[nn],fun z=>?_⟩)
  obtain⟨t,ht,hx⟩:=List.mem_flatMap.mp (zaC.mp z);exact (zT.mp hx).1 rfl
 ·exact zf4 (.inl ⟨([97,98],1),by simp[nn],far _ ⟨97,by simp,by decide⟩⟩)
 ·exact zf4 (.inl ⟨([98,97],2),by simp[nn],far _ ⟨98,by simp,by decide⟩⟩)
 ·exact zf4 (.inl ⟨([96,97,98],0),by simp[nn],far _ ⟨96,by simp,by decide⟩⟩)
def zk0:∀i,i<6->∀q:Nat,q<33->chk 1000003 ((ksC (nn q i)).map hT) 0=true:=by decide +kernel
def zhN {P:Program}{w:World}{q:Int} (h0:0<=q) (h1:q<=32) {i:Nat} (hi:i<6):((ksC (nn q i)).map (An (intKind P w))).Nodup:=by
 obtain⟨m,rfl⟩:=Int.eq_ofNat_of_zero_le h0;exact (zg7 _ _ _ (zk0 i hi m (by omega))).2
def zm9 (q:Int) {i:Nat} (hi:i<6):(nn q i).length<=2:=by
 have:i=0 \/ i=1 \/ i=2 \/ i=3 \/ i=4 \/ i=5:=by omega
 rcases this with rfl | rfl | rfl | rfl | rfl | rfl <;> simp[nn]
def zlS (ts:Ch):(ksC ts).Nodup->zgi ts=ts:=zde (P:=fun ts=>(ksC ts).Nodup->zgi ts=ts) (fun _=>rfl) (fun l t ih h=>by
 have h':(ksC l++[t.1]).Nodup:=by
  have:ksC (l++[t])=ksC l++[t.1]:=by unfold ksC; rw[Ar]; rfl
  rw[<- this]; exact h
 rw[List.nodup_append] at h';have e1:zgi (l++[t])=putC (zgi l) t.1 t.2:=by unfold zgi; rw[List.foldl_append]; rfl
 rw[e1,ih h'.1,ze9 _ (fun z=>h'.2.2 t.1 z t.1 (by simp) rfl)]) ts
def zkD {cs:Ch} (h:(ksC cs).Nodup):putAll [] (kvC cs)=kvC cs:=by
 rw[show putAll [] (kvC cs)=zmM (kvC cs) from rfl,ziB,zlS _ h]
def KE (tk:TE) (σ:St) (H:Hp) (k:List Int):Prop:=∀H0 R,Same H H0->(∀b H1,Same H0 H1->Tp H1 b k->R (.ref b) H1)->tk σ H0 R
def zhb {σ:St}{i:Nat}{H:Hp}{b:Addr}{k:List Int} (lm:σ[i]?=some (some (.ref b))) (h:Tp H b k):KE (tVar i) σ H k:=fun H0 R s kk=>⟨_,lm,kk b H0 (Same.refl _) (s.tp h)⟩
def za1 {σ:St}{H:Hp}{te:TA}{k:List Int} (hl:k.length<=10) (h:∀H R,R (k.map V.int) H->te σ H R):KE (tTup te) σ H k:=fun H0 R s kk=>h _ _ ⟨zb (by rw[Ab]; omega),fun t ht=>kk t _ (Same.new ht) upd_same⟩
def KE.same {tk:TE}{σ:St}{H H':Hp}{k:List Int} (h:KE tk σ H k) (s:Same H H'):KE tk σ H' k:=fun H0 R s0=>h H0 R (s.trans s0)
def dsp1 {σ:St}{H:Hp}{Q:VK}{tk:TE}{k:List Int}{n:Int} (hk:KE tk σ H k) (kk:∀D H',Same H H'->H' D=some (.dT (kvC [(k,n)]))->Q (.ref D) H'):zaG [(tk,tC (.int n))] σ H Q:=fun p hp=>
 hk _ _ (Same.new hp) fun b H1 s1 hb=>⟨kvC [(k,n)],.cons ⟨b,rfl,zfE hb⟩ .nil,s1 _ _ upd_same,by rw[zQ]; simp,fun H' e ho=>kk p H' (fun c o hc=>by rw[ho c (zg hc hp)]; exact s1 _ _ (Same.new hp _ _ hc)) (by rw[zkD (cs:=[(k,n)]) (by simp[ksC])] at e; exact e)⟩
def dsp2 {σ:St}{H:Hp}{Q:VK}{tk tl:TE}{k l:List Int}{n m:Int} (hk:KE tk σ H k) (hl:KE tl σ H l) (hne:k≠l) (kk:∀D H',Same H H'->H' D=some (.dT (kvC [(k,n),(l,m)]))->Q (.ref D) H'):zaG [(tk,tC (.int n)),(tl,tC (.int m))] σ H Q:=fun p hp=>
 hk _ _ (Same.new hp) fun b H1 s1 hb=>hl _ _ ((Same.new hp).trans s1) fun c H2 s2 hc=>⟨kvC [(k,n),(l,m)],.cons ⟨b,rfl,zfE (s2.tp hb)⟩ (.cons ⟨c,rfl,zfE hc⟩ .nil),s2 _ _ (s1 _ _ upd_same),by rw[zQ]; simp,
  fun H' e ho=>kk p H' (fun c o hc=>by rw[ho c (zg hc hp)]; exact s2 _ _ (s1 _ _ (Same.new hp _ _ hc))) (by rw[zkD (cs:=[(k,n),(l,m)]) (by simpa[ksC] using hne)] at e; exact e)⟩
def zbf (H:Hp) (B:Addr) (l:List (List Int)):Prop:=∃bs,H B=some (.lst (bs.map V.ref))/\Tps H bs l
def zbf.same {H H':Hp}{B:Addr}{l:List (List Int)} (c:zbf H B l) (s:Same H H'):zbf H' B l:=let ⟨bs,a,b⟩:=c; ⟨bs,s _ _ a,s.tps b⟩
def zbf.draw {p:Addr}{H H':Hp}{B:Addr}{l:List (List Int)} (c:zbf H B l) (s:zr p H H') (b:zN H p):zbf H' B l:=let ⟨bs,h,t⟩:=c; ⟨bs,s _ _ (b.ne h) h,s.tps b t⟩
def catE {σ:St}{H:Hp}{W:Addr}{ae es:List (List Int)}{te:TA}{Q:VK} (lm:σ[2]?=some (some (.ref W))) (hW:zbf H W ae) (hz:ae.length<=20) (he:es.length<=5) (mx:∀H0 R,Same H H0->(∀ts H1,Same H0 H1->Tps H1 ts es->R (ts.map V.ref) H1)->te σ H0 R)
  (k:∀B H',Same H H'->zbf H' B (ae++es)->Q (.ref B) H'):tOp rCat (tVar 2) (tLst te) σ H Q:=by
 obtain⟨as,hW,ht⟩:=hW;have aG:=ht.length;refine⟨_,lm,mx _ _ (Same.refl _) fun ts H1 s1 iy=>?_⟩;have hlt:=iy.length;refine⟨zb (by rw[Ab]; omega),fun q hq=>?_⟩;have sq:=Same.new (o:=.lst (ts.map V.ref)) hq;refine⟨W,q,_,_,rfl,rfl,sq _ _ (s1 _ _ hW),upd_same,zb (by rw[Ab,Ab]; omega),fun B hB=>?_⟩;have sB:=Same.new (o:=.lst (as.map V.ref++ts.map V.ref)) hB;exact k B _ ((s1.trans sq).trans sB) ⟨as++ts,by rw[upd_same,Ar],(sB.tps (sq.tps (s1.tps ht))).append (sB.tps (sq.tps iy))⟩
def ce1 {σ:St}{H:Hp}{tk:TE}{e:List Int} (hk:KE tk σ H e):∀H0 R,Same H H0->(∀ts H1,Same H0 H1->Tps H1 ts [e]->R (ts.map V.ref) H1)->zy tk tNil σ H0 R:=fun H0 R s kk=>hk _ _ s fun b H1 s1 hb=>kk [b] H1 s1 (.cons hb .nil)
def ce2 {σ:St}{H:Hp}{tk tl:TE}{e g:List Int} (hk:KE tk σ H e) (hl:KE tl σ H g):∀H0 R,Same H H0->(∀ts H1,Same H0 H1->Tps H1 ts [e,g]->R (ts.map V.ref) H1)->zy tk (zy tl tNil) σ H0 R:=fun H0 R s kk=>hk _ _ s fun b H1 s1 hb=>hl _ _ (s.trans s1) fun c H2 s2 hc=>kk [b,c] H2 (s1.trans s2) (.cons (s2.tp hb) (.cons hc .nil))
structure Zs (P:Program) (w:World) (H:Hp) (W N C ND:Addr) (ae:List (List Int)) (cs:Ch) (q:Int) (i j:Nat):Prop where
 hd:Drawn ae
 hi:i<4
 hj:j<6
 q0:0<=q
 q1:q<=32
 oc:Oc ae cs
 un:((ksC cs).map (An (intKind P w))).Nodup
 cW:zbf H W ae
 cN:zbf H N (ae++exs i)
 hC:H C=some (.dT (kvC cs))
 hD:H ND=some (.dT (kvC (nn q j)))
def Zs.same {P:Program}{w:World}{H H':Hp}{W N C ND:Addr}{ae:List (List Int)}{cs:Ch}{q:Int}{i j:Nat} (h:Zs P w H W N C ND ae cs q i j) (s:Same H H'):Zs P w H' W N C ND ae cs q i j:=⟨h.hd,h.hi,h.hj,h.q0,h.q1,h.oc,h.un,h.cW.same s,h.cN.same s,s _ _ h.hC,s _ _ h.hD⟩
def thr {H H3 H':Hp}{D E:Addr} (s:Same H H3) (hD:H D=none) (hE:H E=none) (s2:Same2 D E H3 H'):Same H H':=fun _ _ q=>s2 _ _ (zg q hD) (zg q hE) (s _ _ q)
section
variable {P:Program}{w:World}{K:Ad}{mg:Str->Option Value}{base:Heap}
abbrev nmL:List Str:=["script","box","web","known","bad","chain","point","some","none","way","ends"]
def zbH:zi nmL ["script"] (zf sLaw):=⟨rfl,rfl,rfl,by decide +kernel,rfl,by decide +kernel,by decide +kernel⟩
def zjl (K:Ad):Sp:=fun vs H Q _=>∃(a:Addr) (ns:List Int),vs=[.ref a]/\SqL K H a (ns.map V.int)/\ns.length<=63/\∀H',Q (.bl true) H'
def zla {H:Hp}{l e:Addr}{as:List Addr}{ae:List (List Int)}{cs:Ch} (hd:Drawn ae) (oc:Oc ae cs) (hl:H l=some (.lst (as.map V.ref))) (ht:Tps H as ae) (he:H e=some (.dT (kvC cs))):WC H l e as ae cs:=
 ⟨hl,ht,zc1 hd,AA oc.h56 (by decide),.inl he,oc.len,oc.hc,oc.nd⟩
def zkr {H:Hp}{l e:Addr}{as:List Addr}{ae:List (List Int)}{cs:Ch} (hd:Drawn ae) (h56:(canon ae).length<=56) (hz:cs.length<=2) (hl:H l=some (.lst (as.map V.ref))) (ht:Tps H as ae) (he:H e=some (.dT (kvC cs))):AnyC K H l e ae cs:=
 ⟨as,SqL.of hl,ht,zc1 hd,by omega,.inl he,by omega,by omega⟩
def zmP {ae:List (List Int)} (hd:Drawn ae):[-1,500]∉canon ae:=fun z=>by
 have:=(zeB hd z (-1) (by simp)).1;omega
abbrev rLst (K:Ad):List V->Hp->VK->Prop:=fun xs H Q=>∃p ys,xs=[.ref p]/\(SqL K H p ys \/ SqT K H p ys)/\∀l,H l=none->Q (.ref l) (L2.upd H l (.lst ys))
abbrev rDct (P:Program) (w:World):List V->Hp->VK->Prop:=fun xs H Q=>∃(a:Addr) (kvs:List (List Key×V)) (ae:List (List Int)),xs=[.ref a]/\Rd H a (.dT kvs)/\kvs.map (·.1)=ae.map (·.map Sum.inl)/\(ae.map (An (intKind P w))).Nodup/\∀D,H D=none->Q (.ref D) (L2.upd H D (.dT kvs))
abbrev tMet (P:Program) (w:World) (K:Ad):TE:=zg6 (zjA K) [] E0 (zy (tVar 0) (zy (tCB (rLst K) (zy (tVar 1) tNil)) (zy (tCB (rDct P w) (zy (tVar 2) tNil)) (zy (tCB (rDct P w) (zy (tVar 3) tNil)) tNil))))
def endM:Nat->Str
 | 0=>"told"
 | 1=>"piece"
 | _=>"note"
def zlb {f:Addr}{cdv:Value}{A:Around}{outer:List Env}{s:Shared}{H:Hp}{Q:VK}{E:XK} (hr:Room 14 (cxOf CX0 P w K mg base nmL "law" (zf sLaw) f cdv A outer s H E).A) (k:∀H',Q (.bl true) H') (B:Bt mg) (Cm:Cl P w K mg base CX0 "_law_met" ["way","web","one","other"] 14 (zjA K)) :
  ∃tr,PSs (cxOf CX0 P w K mg base nmL "law" (zf sLaw) f cdv A outer s H E).nox (List.drop 9 (zH sLaw)) tr/\
   ∀(W N C ND:Addr) (ae:List (List Int)) (cs:Ch) (q:Int) (i j:Nat) (v0 v1 v3 v6 v7:Option V) (H2:Hp),Zs P w H2 W N C ND ae cs q i j->
    tr { nx:=fun _ H'=>Q .non H',rt:=Q } [v0,v1,some (.ref W),v3,some (.ref N),some (.ref C),v6,v7,some (.ref ND),none,none] H2:=by
 have aS:=hr.units;refine⟨_,za (zaa AZ rfl (zaH rfl B.range (pa_cons ze pa_nil)) (zm (i:=9) zbH.nd rfl (Or.inl rfl))
   (zd (zD (zp zdO (zE Cm hr rfl pass0 (pa_cons (pv 9) (pa_cons (zj zak rfl B.list zan (pa_cons (pv 4) pa_nil)) (pa_cons (zj zF rfl B.dict zbx (pa_cons (pv 8) pa_nil)) (pa_cons (zj zF rfl B.dict zbx (pa_cons (pv 8) pa_nil)) pa_nil))))) pe_str (nomark _)) (zd (zl za8)) zn)))
  (za (zaa AZ rfl (zaH rfl B.range (pa_cons ze pa_nil)) (zm (i:=9) zbH.nd rfl (Or.inl rfl))
   (za (zD (zp zdO (zE Cm hr rfl pass0 (pa_cons (pv 9) (pa_cons (zj zak rfl B.list zan (pa_cons (pv 2) pa_nil)) (pa_cons (zj zF rfl B.dict zbx (pa_cons (pv 8) pa_nil)) (pa_cons (zj zF rfl B.dict zbx (pa_cons (pv 5) pa_nil)) pa_nil))))) pe_str (nomark _)) (zd (zl za8)) zn)
   (zd (zD (zp zdO (zE Cm hr rfl pass0 (pa_cons (pv 9) (pa_cons (zj zak rfl B.list zan (pa_cons (pv 2) pa_nil)) (pa_cons (zj zF rfl B.dict zbx (pa_cons (pv 5) pa_nil)) (pa_cons (zj zF rfl B.dict zbx (pa_cons (pv 5) pa_nil)) pa_nil))))) pe_str (nomark _)) (zd (zl za8)) zn))))
  (za (zlk (i:=10) zbH.nd rfl (Or.inl rfl) nmL ["way","web","none","chain"] [none,some 2,some 8,some 5] (zL (zC (pa_cons ze (pa_cons ze (pa_cons ze pa_nil))))) (fun cl C s₀ H₀ ex=>zm (i:=0) (ndN ["way","web","none","chain"]) rfl (Or.inl rfl)) (fun cl C s₀ H₀ ex=>zM)
   (fun cl C s₀ H₀ ex=>zE Cm hr rfl pass0 (pa_cons (pv 0) (pa_cons (zj zak rfl B.list zan (pa_cons (pv 1) pa_nil)) (pa_cons (zj zF rfl B.dict zbx (pa_cons (pv 2) pa_nil)) (pa_cons (zj zF rfl B.dict zbx (pa_cons (pv 3) pa_nil)) pa_nil))))) (hfr:=frOf (zf sLaw) (by decide +kernel)) (te:=tMet P w K))
  (zd (zl (zaL (zmA aS) (pv 10) (zC (pa_cons pe_str (pa_cons pe_str (pa_cons pe_str pa_nil)))) (nomark _)))))),?_⟩
 intro W N C ND ae cs q i j v0 v1 v3 v6 v7 H2 z;have h56:=z.oc.h56;have jV:((ksC (nn q j)).map (An (intKind P w))).Nodup:=zhN z.q0 z.q1 z.hj;have pC:=zm9 q z.hj;obtain⟨rS,my⟩:=zm7 z.hd z.hi;refine⟨_,rfl,by decide,by decide,zbh (lo:=0) (n:=11) (fun m σ H3=>∃v9:Option V,σ=[v0,v1,some (.ref W),v3,some (.ref N),some (.ref C),v6,v7,some (.ref ND),v9,none]/\Same H2 H3) ⟨none,rfl,Same.refl H2⟩ ?_ ?_⟩
 ·rintro m σ H3 hm ⟨v9,rfl,s3⟩
  have z3:=z.same s3;obtain⟨xs,hN,uJ⟩:=z3.cN;refine⟨_,rfl,_,rfl,N,_,rfl,.inl (SqL.of hN),fun L hL=>?_⟩;have sL:=Same.new (o:=.lst (xs.map V.ref)) hL;refine⟨_,rfl,ND,_,_,rfl,.inl (sL _ _ z3.hD),zac _,jV,fun D hD=>?_⟩;have sD:=sL.trans (Same.new (o:=.dT (kvC (nn q j))) hD);refine⟨_,rfl,ND,_,_,rfl,.inl (sD _ _ z3.hD),zac _,jV,fun D' bj=>?_⟩;have sE:=sD.trans (Same.new (o:=.dT (kvC (nn q j))) bj);exact⟨_,L,D,D',"web",rfl,zg upd_same bj,.inl ⟨⟨xs,_,SqL.of (Same.new bj _ _ (Same.new hD _ _ upd_same)),sE.tps uJ,my,rS⟩,rfl⟩,fun H' s2=>⟨rfl,_,rfl,iteF ⟨_,rfl,s3.trans (thr sE (sL.free hD) (sD.free bj) s2)⟩⟩⟩
 rintro σ H3 ⟨v9,rfl,s3⟩;have z3:=z.same s3;refine⟨_,rfl,by decide,by decide,zbh (lo:=0) (n:=8) (fun m σ H4=>∃v9:Option V,σ=[v0,v1,some (.ref W),v3,some (.ref N),some (.ref C),v6,v7,some (.ref ND),v9,none]/\Same H3 H4) ⟨v9,rfl,Same.refl H3⟩ ?_ ?_⟩
 ·rintro m σ H4 hm ⟨v9,rfl,s4⟩
  have z4:=z3.same s4;obtain⟨ws,hW,fG⟩:=z4.cW;have hlt:(0:Int)+(m:Int)<8:=by omega
  refine⟨_,rfl,_,rfl,W,_,rfl,.inl (SqL.of hW),fun L hL=>?_⟩;have sL:=Same.new (o:=.lst (ws.map V.ref)) hL;refine⟨_,rfl,ND,_,_,rfl,.inl (sL _ _ z4.hD),zac _,jV,fun D hD=>?_⟩;have sD:=sL.trans (Same.new (o:=.dT (kvC (nn q j))) hD);refine⟨_,rfl,C,_,_,rfl,.inl (sD _ _ z4.hC),zac _,z.un,fun D' bj=>?_⟩;have s1:=Same.new (o:=.dT (kvC cs)) bj;have sE:=sD.trans s1;have jN:=s1 _ _ (Same.new (o:=.dT (kvC (nn q j))) hD _ _ (upd_same (H:=H4) (a:=L) (o:=.lst (ws.map V.ref))));refine⟨_,L,D,D',"chain",rfl,zg upd_same bj,.inr (.inl ⟨hlt,⟨ae,nn q j,ws,cs,zkr z.hd h56 pC jN (sE.tps fG) (s1 _ _ upd_same),znB z.hd q z.hj,zla z.hd z.oc jN (sE.tps fG) upd_same⟩,rfl⟩),fun H5 s2=>⟨rfl,_,rfl,iteF ?_⟩⟩;have s5:=thr sE (sL.free hD) (sD.free bj) s2;have z5:=z4.same s5;refine⟨_,rfl,_,rfl,W,_,rfl,.inl (SqL.of (s5 _ _ hW)),fun L' k_=>?_⟩;have tL:=Same.new (o:=.lst (ws.map V.ref)) k_;refine⟨_,rfl,C,_,_,rfl,.inl (tL _ _ z5.hC),zac _,z.un,fun F hF=>?_⟩;have tD:=tL.trans (Same.new (o:=.dT (kvC cs)) hF);refine⟨_,rfl,C,_,_,rfl,.inl (tD _ _ z5.hC),zac _,z.un,fun F' nD=>?_⟩;have t1:=Same.new (o:=.dT (kvC cs)) nD;have tE:=tD.trans t1;have pe:=t1 _ _ (Same.new (o:=.dT (kvC cs)) hF _ _ (upd_same (H:=H5) (a:=L') (o:=.lst (ws.map V.ref))));have gi:=tE.tps (s5.tps fG);exact⟨_,L',F,F',"told",rfl,zg upd_same nD,.inr (.inr (.inl ⟨hlt,⟨ws,ae,cs,zla z.hd z.oc pe gi (t1 _ _ upd_same),zla z.hd z.oc pe gi upd_same,z.oc⟩,rfl⟩)),fun H' r2=>⟨rfl,_,rfl,iteF ⟨_,rfl,(s4.trans s5).trans (thr tE (tL.free hF) (tD.free nD) r2)⟩⟩⟩
 rintro σ H4 ⟨xR,rfl,s4⟩;have z4:=z3.same s4;refine⟨zb (by simp),fun T hT=>⟨T,rfl,⟨_,SqL.of upd_same⟩,fun R hR=>?_⟩⟩;have sT:=Same.new (o:=.lst [.int 8,.int 9,.int 10]) hT;refine zI (z0 (K:=K) (a:=T) (xs:=[.int 8,.int 9,.int 10]) (fun m σ ys H5=>∃v:Option V,σ=[v,some (.ref W),some (.ref ND),some (.ref C)]/\Same (L2.upd H4 T (.lst [.int 8,.int 9,.int 10])) H5/\H5 R=some (.lst ys)/\ys=([V.str "told",.str "piece",.str "note"]).take m)
  ⟨none,rfl,Same.new hR,upd_same,rfl⟩ (fun m σ ys H5 ⟨_,_,sm,_⟩=>SqL.of (sm _ _ upd_same)) ?_ ?_)
 ·rintro m σ ys H5 x hx hm hy ⟨v,rfl,sm,jD,rfl⟩
  have z5:=z4.same (sT.trans sm);obtain⟨ws,hW,fG⟩:=z5.cW;have mB:m<3:=hm;have wj:x=.int (8+(m:Int)):=by
   have:m=0 \/ m=1 \/ m=2:=by omega
   rcases this with rfl | rfl | rfl <;> exact (Al hx).symm
  subst wj;have e:([V.str "told",.str "piece",.str "note"])[m]?=some (.str (endM m)):=by
   have:m=0 \/ m=1 \/ m=2:=by omega
   rcases this with rfl | rfl | rfl <;> rfl
  refine gyes ?_;refine⟨_,rfl,_,rfl,W,_,rfl,.inl (SqL.of hW),fun L hL=>?_⟩;have sL:=Same.new (o:=.lst (ws.map V.ref)) hL;refine⟨_,rfl,ND,_,_,rfl,.inl (sL _ _ z5.hD),zac _,jV,fun D hD=>?_⟩;have sD:=sL.trans (Same.new (o:=.dT (kvC (nn q j))) hD);refine⟨_,rfl,C,_,_,rfl,.inl (sD _ _ z5.hC),zac _,z.un,fun D' bj=>?_⟩;have s1:=Same.new (o:=.dT (kvC cs)) bj;have sE:=sD.trans s1;have jN:=s1 _ _ (Same.new (o:=.dT (kvC (nn q j))) hD _ _ (upd_same (H:=H5) (a:=L) (o:=.lst (ws.map V.ref))));refine⟨_,L,D,D',endM m,rfl,zg upd_same bj,?_,fun H6 s2=>?_⟩
  ·have ac:=zkr (K:=K) z.hd h56 pC jN (sE.tps fG) (s1 _ _ upd_same)
   have gl:zlM K _ L ae:=⟨ws,SqL.of jN,sE.tps fG,zc1 z.hd⟩;have:m=0 \/ m=1 \/ m=2:=by omega
   rcases this with rfl | rfl | rfl
   ·exact .inr (.inr (.inr (.inl ⟨rfl,⟨ae,_,ac⟩,rfl⟩)))
   ·exact .inr (.inr (.inr (.inr (.inl ⟨rfl,⟨ae,gl,zmP z.hd⟩,rfl⟩))))
   ·exact .inr (.inr (.inr (.inr (.inr ⟨rfl,⟨ae,gl⟩,rfl⟩))))
  ·have s6:=thr sE (sL.free hD) (sD.free bj) s2
   exact cput (zb (by simp)) hm hy (s6 _ _ jD) ⟨_,rfl,(sm.trans s6).then hR,upd_same,by rw[AY e]⟩
 ·rintro σ ys H5 ⟨v,rfl,sm,jD,rfl⟩
  refine⟨_,rfl,zb (by simp),fun U hU=>?_⟩;have sU:=Same.new (o:=.lst [.str "told",.str "piece",.str "note"]) hU;refine⟨.list [.str "told",.str "piece",.str "note"],.list [.str "told",.str "piece",.str "note"],.lst (SqL.of (sU _ _ jD)) (.cons (.str _) (.cons (.str _) (.cons (.str _) .nil))),.lst (SqL.of upd_same) (.cons (.str _) (.cons (.str _) (.cons (.str _) .nil))),by decide +kernel,by decide +kernel,by decide +kernel,?_⟩;rw[if_neg (by decide),show PySem.Spec.same (.list [.str "told",.str "piece",.str "note"]) (.list [.str "told",.str "piece",.str "note"])=true from by decide +kernel];exact k _
end
structure PAi (X:Cx) (es:List Expr) (t:TA):Prop where
 h:PA X es t
section
variable {X:Cx}{xs es:List Expr}{t u:TA}{a b c:Int}{j j' k:Nat}{p p' q q' pos:Pos} (hu:X.A.units+1<cLine) (hv:∀pos,PE X (.Name "point" pos) (tVar 6))
def pa_n:PAi X [] tNil:=⟨pa_nil⟩
def zgV (h:PAi X es t):PAi X (.Constant (.int a) j p::es) (zy (tC (.int a)) t):=⟨pa_cons ze h.h⟩
include hu
theorem zlY (hx:PAi X xs u) (h:PAi X es t):PAi X (.Dict [some (.Tuple xs k q)] [.Constant (.int a) j p] pos::es) (zy (zaG [(tTup u,tC (.int a))]) t):=⟨pa_cons (zbO hu (zaW (zU hx.h) ze zc5)) h.h⟩
include hv
theorem znE (h:PAi X es t):PAi X (.Dict [some (.Name "point" q)] [.Constant (.int a) j p] pos::es) (zy (zaG [(tVar 6,tC (.int a))]) t):=⟨pa_cons (zbO hu (zaW (hv _) ze zc5)) h.h⟩
theorem zn0 (hx:PAi X xs u) (h:PAi X es t):PAi X (.Dict [some (.Name "point" q),some (.Tuple xs k q')] [.Constant (.int a) j p,.Constant (.int b) j' p'] pos::es) (zy (zaG [(tVar 6,tC (.int a)),(tTup u,tC (.int b))]) t):=⟨pa_cons (zbO hu (zaW (hv _) ze (zaW (zU hx.h) ze zc5))) h.h⟩
end
def w6E:List Expr:=match List.drop 6 (zH sLaw) with
 | .Assign _ (.List E _) _::_=>E
 | _=>[]
def lS (i:Nat):Stmt:=(zH sLaw).getD i (.Pass ⟨0,0,0,0⟩)
abbrev tI1 (a:Int):TE:=tTup (zy (tC (.int a)) tNil)
abbrev tI2 (a b:Int):TE:=tTup (zy (tC (.int a)) (zy (tC (.int b)) tNil))
abbrev T6:TA:=zy (zaG [(tI1 98,tC (.int 1))]) (zy (zaG [(tVar 6,tC (.int 0))]) (zy (zaG [(tTup tNil,tC (.int 1))]) (zy (zaG [(tVar 6,tC (.int 1)),(tI2 97 98,tC (.int 1))]) (zy (zaG [(tI2 98 97,tC (.int 2))]) tNil))))
def w6:∃E:List Expr,List.drop 6 (zH sLaw)=.Assign [.Name "some" ⟨296,4,296,8⟩] (.List E ⟨296,11,296,84⟩) ⟨296,4,296,84⟩::lS 7::lS 8::List.drop 9 (zH sLaw)/\
  ∀X:Cx,X.A.units+1<cLine->(∀pos,PE X (.Name "point" pos) (tVar 6))->PAi X E T6:=
 ⟨w6E,rfl,fun X hu hv=>zlY hu (zgV pa_n) (znE hu hv (zlY hu pa_n (zn0 hu hv (zgV (zgV pa_n)) (zlY hu (zgV (zgV pa_n)) pa_n))))⟩
def zmC {H:Hp}{p d:Addr}{kvs:List (List Key×V)} (b:zN H p) (h:H d=some (.dT kvs)):d≠p:=by
 rintro rfl;obtain⟨x,y,e,_⟩:=b;rw[h] at e;cases e
def DsAt (H:Hp) (ds:List Addr) (q:Int):Prop:=∀j d,ds[j]?=some d->H d=some (.dT (kvC (nn q j)))
def DsAt.same {H H':Hp}{ds:List Addr}{q:Int} (h:DsAt H ds q) (s:Same H H'):DsAt H' ds q:=fun j d e=>s _ _ (h j d e)
def DsAt.snoc {H:Hp}{ds:List Addr}{q:Int}{d:Addr} (h:DsAt H ds q) (e:H d=some (.dT (kvC (nn q ds.length)))):DsAt H (ds++[d]) q:=fun j c hj=>by
 by_cases hl:j<ds.length
 ·rw[List.getElem?_append_left hl] at hj; exact h j c hj
 ·rw[List.getElem?_append_right (by omega)] at hj
  have:j - ds.length=0:=by
   have:=(List.getElem?_eq_some_iff.mp hj).1
   simpa using this
  rw[this] at hj;obtain rfl:=Al hj;rw[show j=ds.length by omega];exact e
section
variable {P:Program}{w:World}{K:Ad}{mg:Str->Option Value}{base:Heap}
def zms {f:Addr}{fd:FuncData} (F:Fun K "law" "law" sLaw f fd) (B:Bt mg)
  (Cc:Cl P w K mg base CX0 "_law_cell_at" ["script","k"] 1 (zkl K)) (Cb:Cl P w K mg base CX0 "_law_box" ["cell"] 1 zng) (Ct:Cl P w K mg base CX0 "_law_take" ["box","most"] 1 zdV) (Cw:Cl P w K mg base CX0 "_law_web" ["box"] 3 znu)
  (qY:Cl P w K mg base CX0 "_law_pieces" ["web"] 2 (zg4 K)) (wL:Cl P w K mg base CX0 "_law_chain" ["box","known","high"] 2 (zfh K)) (Cm:Cl P w K mg base CX0 "_law_met" ["way","web","one","other"] 14 (zjA K)):FnOk P w K mg base CX0 15 f fd ["script"] (zjl K):=by
 refine F.ok zbH (fun vs H Q E h=>?_) (fun cdv A outer s H vs Q E hr h=>?_)
 ·obtain⟨a,ns,rfl,_⟩:=h; rfl
 ·obtain⟨a,ns,rfl,hS,hn,k⟩:=h
  have hu:=zbE hr;obtain⟨t9,h9,e9⟩:=zlb (f:=f) (cdv:=cdv) (A:=A) (outer:=outer) (s:=s) (H:=H) (Q:=Q) (E:=E) hr k B Cm;have uN:∃tr,PSs (cxOf CX0 P w K mg base nmL "law" (zf sLaw) f cdv A outer s H E).nox (List.drop 6 (zH sLaw)) tr/\
    ∀(p W N C PC:Addr) (ae:List (List Int)) (cs:Ch) (q:Int) (i:Nat) (v0 v3:Option V) (H2:Hp),zN H2 p->Drawn ae->i<4->0<=q->q<=32->Oc ae cs->((ksC cs).map (An (intKind P w))).Nodup->zbf H2 W ae->zbf H2 N (ae++exs i)->H2 C=some (.dT (kvC cs))->Tp H2 PC [q]->
     tr { nx:=fun _ H'=>Q .non H',rt:=Q } [v0,some (.ref p),some (.ref W),v3,some (.ref N),some (.ref C),some (.ref PC),none,none,none,none] H2:=by
   obtain⟨E6,ue,ut⟩:=w6;rw[ue];refine⟨_,za (zo (i:=7) zbH.nd rfl (Or.inl rfl) (zC (ut _ hu (fun pos=>pv 6)).h))
    (za (zv (zaF PySem.F.plainAttrs_list PySem.F.slot_list_append PySem.F.type_list_append zai (pv 7) (pa_cons (zbO hu (zaW (pv 6) ze (zaW (zU (pa_cons ze (pa_cons ze (pa_cons ze pa_nil)))) ze zc5))) pa_nil)))
    (za (zo (i:=8) zbH.nd rfl (Or.inr rfl) (zaz zV (pv 7) (zE Ct hr rfl pass0 (pa_cons (pv 1) (pa_cons ze pa_nil))) (fun _ _=>rfl)))
    h9)),?_⟩
   intro p W N C PC ae cs q i v0 v3 H2 hb hd hi q0 q1 oc un cW cN hC hP;unfold tSeq tAsg tLst T6 zy;refine dsp1 (tk:=tI1 98) (k:=[98]) (n:=1) (za1 (by decide) fun H R h=>h) fun D0 Ha sa ea=>?_;refine dsp1 (tk:=tVar 6) (k:=[q]) (n:=0) (zhb rfl (sa.tp hP)) fun D1 Hb sb eb=>?_;have gI:=sa.trans sb;refine dsp1 (tk:=tTup tNil) (k:=[]) (n:=1) (za1 (by decide) fun H R h=>h) fun D2 Hc sc ec=>?_;have pc:=gI.trans sc;refine dsp2 (tk:=tVar 6) (tl:=tI2 97 98) (k:=[q]) (l:=[97,98]) (n:=1) (m:=1) (zhb rfl (pc.tp hP)) (za1 (by decide) fun H R h=>h) (by simp) fun D3 Hd sd ed=>?_;have q_:=pc.trans sd;refine dsp1 (tk:=tI2 98 97) (k:=[98,97]) (n:=2) (za1 (by decide) fun H R h=>h) fun D4 He se ee=>?_;have ql:=q_.trans se;refine⟨zb (by simp),fun L hL=>?_⟩;have sL:=Same.new (o:=.lst [.ref D0,.ref D1,.ref D2,.ref D3,.ref D4]) hL;have s0:=ql.trans sL;have ds:DsAt (L2.upd He L (.lst [.ref D0,.ref D1,.ref D2,.ref D3,.ref D4])) [D0,D1,D2,D3,D4] q:=DsAt.same (fun j d e=>by
    have hj:j<5:=(List.getElem?_eq_some_iff.mp e).1;have:j=0 \/ j=1 \/ j=2 \/ j=3 \/ j=4:=by omega
    rcases this with rfl | rfl | rfl | rfl | rfl <;> obtain rfl:=Al e
    ·exact se _ _ (sd _ _ (sc _ _ (sb _ _ ea)))
    ·exact se _ _ (sd _ _ (sc _ _ eb))
    ·exact se _ _ (sd _ _ ec)
    ·exact se _ _ ed
    ·exact ee) sL
   have hL0:=upd_same (H:=He) (a:=L) (o:=.lst [.ref D0,.ref D1,.ref D2,.ref D3,.ref D4]);generalize L2.upd He L (.lst [.ref D0,.ref D1,.ref D2,.ref D3,.ref D4])=H3 at sL s0 ds hL0 ⊢;refine⟨_,rfl,.inl ⟨rfl,_,SqL.of hL0⟩,?_⟩;refine dsp2 (tk:=tVar 6) (tl:=tTup (zy (tC (.int 96)) (zy (tC (.int 97)) (zy (tC (.int 98)) tNil)))) (k:=[q]) (l:=[96,97,98]) (n:=1) (m:=0) (zhb rfl (s0.tp hP)) (za1 (by decide) fun H R h=>h) (by simp) fun D5 H4 s4 e5=>?_;refine⟨L,_,_,rfl,rfl,s4 _ _ hL0,zR (by simp),?_⟩;have dH:=s4 _ _ hL0;have d6:DsAt H4 [D0,D1,D2,D3,D4,D5] q:=(ds.same s4).snoc e5;have up:∀{b:Addr} {o:HO},b≠L->H4 b=some o->L2.upd H4 L (.lst [.ref D0,.ref D1,.ref D2,.ref D3,.ref D4,.ref D5]) b=some o:=fun {b o} hb e=>by rw[zh hb]; exact e
   have nL:∀{b:Addr} {o:HO},H2 b=some o->b≠L:=fun {b o} e=>zg (ql _ _ e) hL;have s5:Same H2 (L2.upd H4 L (.lst [.ref D0,.ref D1,.ref D2,.ref D3,.ref D4,.ref D5])):=fun b o e=>up (nL e) (s4 _ _ (s0 _ _ e));have d7:DsAt (L2.upd H4 L (.lst [.ref D0,.ref D1,.ref D2,.ref D3,.ref D4,.ref D5])) [D0,D1,D2,D3,D4,D5] q:=fun j d e=>up (zaX (d6 j d e) dH (by intro z; cases z)) (d6 j d e);have sY:=upd_same (H:=H4) (a:=L) (o:=.lst [.ref D0,.ref D1,.ref D2,.ref D3,.ref D4,.ref D5]);have da:=hb.same s5;refine⟨_,rfl,_,rfl,p,6,rfl,da,by decide,by decide,fun u H6 u0 u1 cL ff=>?_⟩;obtain⟨j,rfl⟩:=Int.eq_ofNat_of_zero_le u0;have hj:j<6:=by omega
   obtain⟨D,hD⟩:∃D,[D0,D1,D2,D3,D4,D5][j]?=some D:=⟨_,Ah (by simpa using hj)⟩;have oP:L2.upd H4 L (.lst [.ref D0,.ref D1,.ref D2,.ref D3,.ref D4,.ref D5]) L=some (.lst ([D0,D1,D2,D3,D4,D5].map V.ref)):=sY;have oU:=d7 j D hD;refine⟨L,_,_,_,rfl,rfl,SqL.of (cL _ _ (da.ne oP) oP),zS (j:=j) (v:=V.ref D) (by rw[Am,hD]; rfl),?_⟩;exact e9 W N C D ae cs q i j v0 _ v3 _ _ H6 ⟨hd,hi,hj,q0,q1,oc,un,(cW.same s5).draw cL da,(cN.same s5).draw cL da,cL _ _ (zmC da (s5 _ _ hC)) (s5 _ _ hC),cL _ _ (zmC da oU) oU⟩
  obtain⟨t6,h6,e6⟩:=uN;refine⟨_,za (zo (i:=1) zbH.nd rfl (Or.inl rfl) (zE Cb hr rfl pass0 (pa_cons (zE Cc hr rfl pass0 (pa_cons (pv 0) (pa_cons ze pa_nil))) pa_nil)))
   (za (zo (i:=2) zbH.nd rfl (Or.inr rfl) (zE Cw hr rfl pass0 (pa_cons (pv 1) pa_nil)))
   (za (zo (i:=3) zbH.nd rfl (Or.inl rfl) (zE qY hr rfl pass0 (pa_cons (pv 2) pa_nil)))
   (za (zo (i:=4) zbH.nd rfl (Or.inl rfl) (zaz zV (zC (pa_cons (zw zaj (pv 2) (zC (pa_cons (zU (pa_cons ze (pa_cons ze pa_nil))) (pa_cons (zU (pa_cons ze (pa_cons ze pa_nil))) pa_nil))))
    (pa_cons (zw zaj (pv 2) (zC (pa_cons (zU (pa_cons ze (pa_cons ze pa_nil))) pa_nil)))
    (pa_cons (zw zaj (pv 2) (zC (pa_cons (zU pa_nil) pa_nil)))
    (pa_cons (zw zaj (pv 2) (zC (pa_cons (zU (pa_cons ze (pa_cons ze pa_nil))) pa_nil))) pa_nil))))) (zE Ct hr rfl pass0 (pa_cons (pv 1) (pa_cons ze pa_nil))) (fun _ _=>rfl)))
   (za (zo (i:=5) zbH.nd rfl (Or.inr rfl) (zE wL hr rfl pass0 (pa_cons (pv 1) (pa_cons (pv 3) (pa_cons (zE Ct hr rfl pass0 (pa_cons (pv 1) (pa_cons ze pa_nil))) pa_nil)))))
   (za (zo (i:=6) zbH.nd rfl (Or.inl rfl) (zdh (zp zgW (zq zt rfl B.len zau (pa_cons (pv 3) pa_nil)) ze (nomark _)) (zaz zV (pv 3) ze (fun _ _=>rfl)) (zU (pa_cons ze pa_nil))))
   h6))))),?_⟩
  refine⟨_,rfl,a,ns,rfl,hS,fun n=>⟨n,rfl,fun p x y hp bo=>?_⟩⟩;refine⟨_,rfl,p,rfl,⟨x,y,upd_same,bo⟩,fun W as ae H1 aM fc yi qy fG hd=>?_⟩;obtain⟨cV,h5⟩:=zeK hd;refine⟨_,rfl,W,as,ae,rfl,SqL.of qy,fG,fun q hq=>(h5 q hq).2,cV,Nat.lt_of_le_of_lt (zbc hd) (by decide),fun KN H2 qs tq=>?_⟩;obtain⟨ks,dI,ym,il,si⟩:=zcx tq;have cO:=fc.same dI;have cW:zbf H2 W ae:=⟨as,dI _ _ qy,dI.tps fG⟩;refine catE (es:=[[97,98],[97,98]]) rfl cW cV (by decide) (ce2 (za1 (by decide) fun H R h=>h) (za1 (by decide) fun H R h=>h)) fun B0 H3 s3 c0=>?_;refine catE (es:=[[98,97]]) rfl (cW.same s3) cV (by decide) (ce1 (za1 (by decide) fun H R h=>h)) fun B1 H4 s4 c1=>?_;have pJ:=s3.trans s4;refine catE (es:=[[]]) rfl (cW.same pJ) cV (by decide) (ce1 (za1 (by decide) fun H R h=>h)) fun B2 H5 s5 c2=>?_;have oj:=pJ.trans s5;refine catE (es:=[[98,100]]) rfl (cW.same oj) cV (by decide) (ce1 (za1 (by decide) fun H R h=>h)) fun B3 H6 s6 c3=>?_;have uY:=oj.trans s6;refine⟨zb (by simp),fun L hL=>?_⟩;have s7:=Same.new (o:=.lst ([B0,B1,B2,B3].map V.ref)) hL;have i9:=uY.trans s7;have xF:∀(i:Nat) (b:Addr),i<4->[B0,B1,B2,B3][i]?=some b->zbf (L2.upd H6 L (.lst ([B0,B1,B2,B3].map V.ref))) b (ae++exs i):=by
   intro i b hi hb;have:i=0 \/ i=1 \/ i=2 \/ i=3:=by omega
   rcases this with rfl | rfl | rfl | rfl <;> obtain rfl:=Al hb
   ·exact c0.same (((s4.trans s5).trans s6).trans s7)
   ·exact c1.same ((s5.trans s6).trans s7)
   ·exact c2.same (s6.trans s7)
   ·exact c3.same s7
  have eB:=cO.same i9;have pN:=upd_same (H:=H6) (a:=L) (o:=.lst ([B0,B1,B2,B3].map V.ref));refine⟨_,rfl,p,4,rfl,eB,by decide,by decide,fun u H8 u0 u1 je jM=>?_⟩;obtain⟨i,rfl⟩:=Int.eq_ofNat_of_zero_le u0;have hi:i<4:=by omega
  obtain⟨N,hN⟩:∃b,[B0,B1,B2,B3][i]?=some b:=⟨_,Ah (by simpa using hi)⟩;have qM:=(xF i N hi hN).draw je eB;have uE:=(cW.same i9).draw je eB;have pf:=je _ _ (eB.ne (i9 _ _ il)) (i9 _ _ il);have oV:=je.tps eB (i9.tps si);refine⟨L,_,_,_,rfl,rfl,SqL.of (je _ _ (eB.ne pN) pN),zS (j:=i) (v:=V.ref N) (by rw[Am,hN]; rfl),?_⟩;have n8:=oV.length;have h56:(canon ae).length<=56:=by rw[zbg]; exact zbc hd
  refine⟨_,rfl,_,rfl,_,rfl,p,4,rfl,jM,by decide,by decide,fun pP H9 _ _ kC i7=>?_⟩;have w5:=qM.draw kC jM;have wP:=uE.draw kC jM;have lV:=kC _ _ (jM.ne pf) pf;have oW:=kC.tps jM oV;refine⟨p,KN,ks,canon ae,pP,rfl,i7,lV,oW,by omega,fun C cs HA kx oF yg pD nd sub len wt=>?_⟩;have oz:=w5.draw kx i7;have o_:=wP.draw kx i7;have pZ:=kx _ _ (i7.ne lV) lV;have qG:=kx.tps i7 oW;have inn:∀c∈cs,c.1∈canon ae:=fun c hc=>sub c.1 (List.mem_map.mpr ⟨c,hc,rfl⟩);have oc:Oc ae cs:=⟨zc1 hd,h56,nd,inn,⟨(pP+1).toNat,fun c hc=>by have:=(wt c hc).1; omega⟩,fun c hc=>(wt c hc).2.1,fun c hc=>by have:=(wt c hc).2.2; show c.2.natAbs<10 ^ 16; omega⟩;have un:((ksC cs).map (An (intKind P w))).Nodup:=by
   obtain⟨fi,ga,nm,jJ⟩:=zcB hd;exact zeO nm nd fun q hq=>by obtain⟨e0,r0,e⟩:=jJ q (sub q hq); exact .inl ⟨e0,r0,.inl e⟩
  refine⟨_,rfl,KN,_,rfl,.inl (SqL.of pZ),_,_,rfl,rfl,_,rfl,?_⟩;rw[Ab,n8];cases hc:canon ae with
  | nil=>
   refine iteF ⟨zb (by simp),fun t ht=>?_⟩;have sT:=Same.new (o:=.tup [.int 3]) ht;exact e6 p W N C t ae cs 3 i _ _ _ (oF.same sT) hd hi (by decide) (by decide) oc un (o_.same sT) (oz.same sT) (sT _ _ pD) upd_same
  | cons e r=>
   obtain⟨q,rfl,q0,q1⟩:=zlv hd hc;rw[hc] at qG;cases qG with
   | cons hPC _=>
    rw[decide_eq_true (show (0:Int)<(([q]::r).length:Int) by rw[Ap]; omega)];exact iteT ⟨_,rfl,KN,_,_,_,rfl,rfl,SqL.of pZ,zS (j:=0) rfl,e6 p W N C _ ae cs q i _ _ _ oF hd hi q0 q1 oc un o_ oz pD hPC⟩
end
end K19
end
section
namespace K19
open K1
open PySem L2 STb
def znk {l:PySem.W.OpenLaw}{w:World}{K:Ad}{h:Heap}{mg:Str->Option Value}{fa f1 f2 f3 f4 f5 f6 f7 f8 f9 dS rZ uv uL ud uo qU vk sw va t8 qZ vV uV uU wg rB qS um tK sQ vI vt xr sH vL uD u8 vQ vR uu uZ sZ e0 e1 e2 e3 e4 e5 e6 e7 e8 e9 fY eS:Addr}{tp tq tr ts tt tu:Tok} (X:K.In h) (G:h.Ns mainGlobals mg) (tV:mg "law"=some (.ref fa))
  (d1:Df K "is_piece" zfJ f1)
  (d2:Df K "parts_of" zct f2)
  (d3:Df K "rims_of" zhj f3)
  (d4:Df K "order_key" sKey f4)
  (d5:Df K "in_order" zcG f5)
  (d6:Df K "all_parts" sAll f6)
  (d7:Df K "is_web" zfn f7)
  (d8:Df K "must_be_web" zh0 f8)
  (d9:Df K "pieces" zb6 f9)
  (j_:Df K "pieces_about" zhn dS)
  (xD:Df K "is_chain" ziI rZ)
  (uK:Df K "is_of_one_height" sOne uv)
  (vd:Df K "must_be_chain" zbn uL)
  (vY:Df K "plus" zj5 ud)
  (qO:Df K "times" zdR uo)
  (wX:Df K "seam" zhS qU)
  (wx:Df K "seam_of" zdo vk)
  (wn:Df K "is_closed" zdl sw)
  (vm:Df K "weighed" zbj va)
  (tU:Df K "around" zet t8)
  (vW:Df K "seam_terms" zd6 qZ)
  (vg:Df K "sum_of" sSum vV)
  (xj:Df K "shown_piece" zcQ uV)
  (vJ:Df K "read_number" zhm uU)
  (wU:Df K "shown_chain" zcn wg)
  (vD:Df K "shown_term" zdb rB)
  (uR:Df K "shown_number" zdj qS)
  (vS:Df K "read_chain" ziu um)
  (u6:Df K "read_weight" zha tK)
  (wz:Df K "_law_cell_at" zk7 sQ)
  (sx:Df K "_law_box" sBox vI)
  (ul:Df K "_law_take" zgF vt)
  (t_:Df K "_law_parts" zb7 xr)
  (uQ:Df K "_law_pieces" zdf sH)
  (rE:Df K "_law_known" zfB vL)
  (xa:Df K "_law_named" zdW uD)
  (rH:Df K "_law_web" sWeb u8)
  (vx:Df K "_law_chain" zen vQ)
  (re:Df K "_law_which" zbD vR)
  (rN:Df K "_law_asked" zhc uu)
  (uF:Df K "_law_met" sMet uZ)
  (qb:Df K "law" sLaw sZ)
  (gp:Nn K "MOST_POINTS" (some (.int 5 tp)))
  (gq:Nn K "LAST_POINT" (some (.int 99 tq)))
  (gr:Nn K "MOST_HANDED" (some (.int 20 tr)))
  (gs:Nn K "MOST_PIECES" (some (.int 200 ts)))
  (gt:Nn K "FIGURES" (some (.str "0123456789" tt)))
  (gu:Nn K "MOST_FIGURES_chainnotes" (some (.int 30 tu)))
  (pW:Nn K "NoWeb" (some (.ref e0)))
  (pj:Nn K "NoPiece" (some (.ref e1)))
  (oo:Nn K "NoChain" (some (.ref e2)))
  (rK:Nn K "NotClosed" (some (.ref e3)))
  (wH:Nn K "NoTable" (some (.ref e4)))
  (uG:Nn K "NoGoal" (some (.ref e5)))
  (uA:Nn K "NoPush" (some (.ref e6)))
  (wB:Nn K "NoMap" (some (.ref e7)))
  (rT:Nn K "NoOrder" (some (.ref e8)))
  (sv:Nn K "NoNumber" (some (.ref e9)))
  (jl:Nn K "NoNote" (some (.ref fY)))
  (wG:Nn K "SeamError" (some (.ref eS)))
  (q0:PySem.W.excIn K e0 bmV "ValueError.__new__"=true)
  (q1:PySem.W.excIn K e1 bmV "ValueError.__new__"=true)
  (q2:PySem.W.excIn K e2 bmV "ValueError.__new__"=true)
  (sO:PySem.W.excIn K fY bmV "ValueError.__new__"=true)
  (M0:Mk K e0 e0 e1 e2 e3 e4 e5 e6 e7 e8 e9 fY 0)
  (M1:Mk K e1 e0 e1 e2 e3 e4 e5 e6 e7 e8 e9 fY 1)
  (M2:Mk K e2 e0 e1 e2 e3 e4 e5 e6 e7 e8 e9 fY 2)
  (sP:Mk K fY e0 e1 e2 e3 e4 e5 e6 e7 e8 e9 fY 10)
  (S0:SubX K e0 eS)
  (S1:SubX K e1 eS)
  (S2:SubX K e2 eS)
  (qK:SubX K fY eS)
  (z1:Nn K "len" none)
  (z2:Nn K "all" none)
  (z3:Nn K "zip" none)
  (z4:Nn K "sorted" none)
  (z5:Nn K "set" none)
  (z6:Nn K "list" none)
  (z7:Nn K "tuple" none)
  (z8:Nn K "range" none)
  (z9:Nn K "enumerate" none)
  (xp:Nn K "int" none)
  (vT:Nn K "isinstance" none)
  (uf:Nn K "reversed" none)
  (tI:Nn K "bool" none)
  (xo:Nn K "dict" none)
  (rA:Nn K "ValueError" none)
  (tS:Nn K "sum" none)
  (pL:Nn K "str" none)
  (ve:Nn K "abs" none) :
  ∃fd:FuncData,(∀(s:Shared) (v:Value),BindsTo s fd ⟨[v],[]⟩ [("script",v)])/\∀base:Heap,K.In base->base.Ns mainGlobals mg->FnOk l.prog w K mg base CX0 15 fa fd ["script"] (zjl K):=by
 cases tV.symm.trans (qb.m X G);have B:Bt mg:=⟨z1.n X G,z2.n X G,z3.n X G,z4.n X G,z5.n X G,z6.n X G,z7.n X G,z8.n X G,z9.n X G,xp.n X G,vT.n X G,uf.n X G,tI.n X G,xo.n X G⟩;obtain⟨g1,F1,b1,m1⟩:=d1.g1 X G "numbers";obtain⟨g2,F2,b2,m2⟩:=d2.g1 X G "piece";obtain⟨g3,F3,b3,m3⟩:=d3.g1 X G "piece";obtain⟨g4,F4,b4,m4⟩:=d4.g1 X G "piece";obtain⟨g5,F5,b5,m5⟩:=d5.g1 X G "some";obtain⟨g6,F6,b6,m6⟩:=d6.g1 X G "some";obtain⟨g7,F7,b7,m7⟩:=d7.g1 X G "web";obtain⟨g8,F8,b8,m8⟩:=d8.g1 X G "web";obtain⟨g9,F9,b9,m9⟩:=d9.g1 X G "web";obtain⟨x5,p9,vK,mQ⟩:=j_.g2 X G "web" "piece";obtain⟨yE,j6,qp,oK⟩:=xD.g2 X G "web" "chain";obtain⟨yI,lP,pQ,pR⟩:=uK.g1 X G "some";obtain⟨xM,gm,ix,iM⟩:=vd.g2 X G "web" "chain";obtain⟨xZ,nw,rD,ua⟩:=vY.g3 X G "web" "one" "other";obtain⟨yH,mR,vb,wI⟩:=qO.g3 X G "web" "chain" "often";obtain⟨yl,jW,pU,oQ⟩:=wX.g2 X G "web" "chain";obtain⟨xV,qh,xm,qT⟩:=wx.g1 X G "chain";obtain⟨xU,mL,wA,vN⟩:=wn.g2 X G "web" "chain";obtain⟨xX,mO,vo,wC⟩:=vm.g3 X G "web" "weights" "chain";obtain⟨xO,pH,sF,mJ⟩:=tU.g2 X G "web" "piece";obtain⟨yG,oY,tQ,vp⟩:=vW.g2 X G "piece" "often";obtain⟨yz,kg,l0,mh⟩:=vg.g1 X G "terms";obtain⟨xW,oJ,uP,vc⟩:=xj.g1 X G "piece";obtain⟨yS,qI,uw,uW⟩:=vJ.g2 X G "figures" "most";obtain⟨x8,lc,ug,w4⟩:=wU.g2 X G "web" "chain";obtain⟨yo,qt,xB,rV⟩:=vD.g2 X G "piece" "weight";obtain⟨yT,pX,uX,vM⟩:=uR.g1 X G "number";obtain⟨xJ,pV,wa,tF⟩:=vS.g2 X G "web" "text";obtain⟨yd,pz,sX,ub⟩:=u6.g1 X G "word";obtain⟨yF,p7,wm,tT⟩:=wz.g2 X G "script" "k";obtain⟨x_,oy,u5,q8⟩:=sx.g1 X G "cell";obtain⟨yt,kL,mU,lv⟩:=ul.g2 X G "box" "most";obtain⟨yp,wy,ra,wF⟩:=t_.g1 X G "piece";obtain⟨yj,oH,rP,we⟩:=uQ.g1 X G "web";obtain⟨yO,tO,uT,vX⟩:=rE.g1 X G "number";obtain⟨x9,vP,wO,rF⟩:=xa.g2 X G "box" "web";obtain⟨yn,qF,v_,wR⟩:=rH.g1 X G "box";obtain⟨yM,oN,xh,xH⟩:=vx.g3 X G "box" "known" "high";obtain⟨ye,qc,tj,wD⟩:=re.g1 X G "e";obtain⟨yK,pi,wu,wv⟩:=rN.g4 X G "way" "web" "one" "other";obtain⟨x0,pF,xk,tG⟩:=uF.g4 X G "way" "web" "one" "other";obtain⟨⟨gL,FL⟩,_⟩:=qb;refine⟨gL,?_,fun base _ _=>?_⟩
 ·obtain⟨_,_,_,_,_,_,_,_,_,rfl,_,_⟩:=FL.ex; exact fun s v=>.of_eq rfl
 have m_:=zkG (P:=l.prog) (w:=w) (base:=base) F6 B F2 b2 m2 F5 b5 m5 F4 b4 m4;have jK:=zjH (P:=l.prog) (w:=w) (base:=base) F7 B (gp.m X G) (gq.m X G) (gr.m X G) (gs.m X G) F1 b1 m1 F6 b6 m6 F2 b2 m2 F5 b5 m5 F4 b4 m4;have Gm:=zlA F8 F7 b7 m7 jK;have Gp:=ziz F9 F8 b8 m8 Gm F6 b6 m6 m_;have Go:=zmH (P:=l.prog) (w:=w) (base:=base) lP B;have Gi:=zf8 j6 B F9 b9 m9 Gp lP pQ pR Go;have iC:=zjs gm j6 qp oK Gi;have Gs:=zmv (mg:=mg) (P:=l.prog) (w:=w) (base:=base) kg;have sM:=zh5 qh oY tQ vp (zka (P:=l.prog) (w:=w) (base:=base) oY B F3 b3 m3) kg l0 mh Gs;have o0:=zk4 jW gm ix iM iC qh xm qT sM;have r9:=zhA qt pX uX vM (zgZ (P:=l.prog) (w:=w) (base:=base) pX (pL.n X G) (ve.n X G)) oJ uP vc (zit (P:=l.prog) (w:=w) (base:=base) oJ (pL.n X G));have qg:=zcq F8 b8 m8 Gm (zju F8 (pW.m X G) q0 (zbp F7 b7 m7 jK));have Cp:=zcq F9 b9 m9 Gp (zgs F9 qg);have Ci:=zcq j6 qp oK Gi (zj3 j6 Cp);have Cm:=zcq gm ix iM iC (zjk gm (oo.m X G) q2 Ci);have kG:=zcq nw rD ua (zlT nw B gm ix iM iC lP pQ pR Go kg l0 mh Gs) (zjI Cm nw);have lW:=zcq mR vb wI (zji mR gm ix iM iC kg l0 mh Gs) (zhB Cm mR);have kE:=zcq jW pU oQ o0 (zjh Cm jW);have nA:=zcq mL wA vN (zgK mL B jW pU oQ o0) (zgH mL B kE);have kD:=zcq mO vo wC (zgl mO (tS.n X G) (by decide +kernel) gm ix iM iC) (zeP Cm mO);have nZ:=zcq lc ug w4 (zhe lc B gm ix iM iC F5 b5 m5 F4 b4 m4 qt xB rV r9) (zh6 Cm lc);have wY:=zbp pH sF mJ (zgA pH (zbp p9 vK mQ (zhL p9 (pj.m X G) q1 Cp)));have qQ:=zbp pz sX ub (zg3 pz (gu.m X G) (zbp qI uw uW (zhZ (P:=l.prog) (w:=w) (base:=base) qI B (jl.m X G) sO (gt.m X G))));have uO:=zbp pV wa tF (zhs pV qg qQ);have Ca:=zbp pi wu wv (zjz pi kG lW kE nA kD nZ);have q9:=zjq (P:=l.prog) (w:=w) (base:=base) qc B.isinstance (rA.n X G) (pW.m X G) (pj.m X G) (oo.m X G) (rK.m X G) (wH.m X G) (uG.m X G) (uA.m X G) (wB.m X G) (rT.m X G) (sv.m X G) (jl.m X G);have xu:=zbp pF xk tG (zm8 pF (wG.m X G) Ca Ci wY uO qc tj wD q9 M0 M1 M2 sP S0 S1 S2 qK);exact zms FL B (zbp p7 wm tT (zkO p7 B)) (zbp oy u5 q8 (zmZ oy)) (zbp kL mU lv (zdv kL)) (zbp qF v_ wR (zne qF B kL mU lv vP wO rF tO uT vX)) (zbp oH rP we (zgm (P:=l.prog) (w:=w) (base:=base) oH B wy ra wF)) (zbp oN xh xH (zhM oN B kL mU lv)) xu
def walk {l:PySem.W.OpenLaw}{q:Program}{bR:List Str}{XP:(Str->Option Value)->Heap->Prop}{YP:World->Heap->Prop}{d:DefRec}{K:Params->Ad} (hn:l.most=some 63) (jd:d.params.defaults=[])
  (hY:∀(w:World) (h:Heap),YP w h->(K w.params).In h)
  (F:∀(w:World) (mg:Str->Option Value) (fa:Addr) (h:Heap),(K w.params).In h->h.Ns mainGlobals mg->mg d.name=some (.ref fa)->
   ∃fd:FuncData,(∀(s:Shared) (u:Value),BindsTo s fd ⟨[u],[]⟩ [("script",u)])/\∀base:Heap,(K w.params).In base->base.Ns mainGlobals mg->FnOk l.prog w (K w.params) mg base CX0 15 fa fd ["script"] (zjl (K w.params))) :
  PySem.W.WalkO q bR XP YP l.row.toRowW d [] (fun f vs=>PySem.call f vs):=
 L2.zhg (n:=63) (k:=15) (x:="script") (CX:=fun _=>CX0) (sp:=fun w=>zjl (K w.params)) hn (by decide) jd ⟨rfl,by decide,by decide⟩ hY F (fun _ _ a ns hl _ hS=>⟨a,ns,rfl,hS,hl,fun _=>rfl⟩) fun _ _ _ _ _ z=>z
end K19
open PySem PySem.W PyProof.Rows
structure PySem.W.Fast:Prop where
 (tw10001433594016601865 tw10057406026396504508 tw10081417275551151798 tw10111999596773221066 tw10127696479035968837 tw10135435702984982021 tw10137929783201396153 tw10149408061890550856 tw10170029225389009807 tw10173563173921400132 tw10254665106040653798 tw10345358706762497098 tw10348956575973302976 tw10354067274505033306 tw10409245607499747339 tw10418906066130938518 tw10435519031454908068 tw10515774663794537116 tw10533414281002722588 tw10538952469519164068 tw10542450201094826484 tw10543643201624296308 tw10567766303046188304 tw10570890121595218996 tw10630079611091638013 tw10638141724102251322 tw10680381833540268468 tw10680968682332494761 tw10690142178380162254 tw10730163865097639713 tw10847892253275033159 tw10891483376961267875 tw10908439418439814700 tw10949502272468500564 tw1096534105717863407 tw10994677355773609451 tw11035123822284374219 tw11102583989581417824 tw11165776817950141327 tw11204598953139757561 tw11261806861532141506 tw1130296747960811705 tw11369924551454726772 tw11454057393789564182 tw11461224349266551221 tw11621709286017011765 tw11634791207905789585 tw11681674741661252235 tw11692156353321551805 tw11737975758181545861 tw11742780118792730121 tw11793671682707129595 tw11801805115695960171 tw11835787630370869407 tw11854444453662382918 tw11855849931983069913 tw11870191209295220504 tw11896735602378976240 tw11954474317829872384 tw11977911795595989029 tw11989334157733384845 tw12016447779254978303 tw12044375127715315853 tw1220906156033864561 tw12223848713635228693 tw12226943654809009920 tw12253000615494387973 tw12279955171664191348 tw12346422774892864169 tw12388997094004840931 tw12414394168477030503 tw12417131714622116714 tw12452082039621694629 tw12483009560213297471 tw12526028198770849851 tw12536612537350417130 tw1268853539242716419 tw12688791497782500639 tw12733615209945624000 tw12752982943969048703 tw12777914384052191822 tw12824903743081249903 tw12853717485936953798 tw12893884904476263675 tw12943032449489396471 tw12969000262129941854 tw12970587251193566580 tw13071394310065462580 tw13086467742782686185 tw13187514150855727287 tw13212648708611293501 tw13223573355114813506 tw13347236496389412615 tw1335775277667384330 tw1336253751306351068 tw13365698831106882900 tw13569372393459650773 tw13585142218494535023 tw1363794026848717833 tw13651701889403338443 tw13873694365515637773 tw13949249529298456662 tw13959583375486595865 tw1397330830134892998 tw14021584202897800378 tw14048033860653478148 tw14053279866078670040 tw14062515298220354573 tw14093365005039737491 tw14158588202269833536 tw1418620995563093650 tw14218236701156220167 tw14259721927432730882 tw14263978238794242763 tw14356466464144307102 tw14380284560296567922 tw14444750537724448923 tw1446879422589168926 tw14476572445810955387 tw14503341603135085314 tw14521891045537074444 tw14525166808231920666 tw14570492823836163633 tw14582047923058402441 tw1458698211930920194 tw14589669006471788842 tw14590763671120141300 tw1471036729498584820 tw14725052330141213408 tw14767092796327008758 tw14788083864873860532 tw14840866761928088300 tw14844162488512412867 tw14894040103014492787 tw14919054677537812407 tw15019891875550287182 tw15030390795515113045 tw15046158738935363118 tw15051240606584502777 tw15104117928539594876 tw15147292053960268662 tw15160731344709536734 tw15172092597367485956 tw1520374486188481337 tw15262548101402365010 tw15347242471909971724 tw15394775967303764485 tw15403575858107864932 tw15411165344170354248 tw15434971284331262517 tw15444036679310619552 tw1545878794218175359 tw15491031337144667482 tw15493565280697804933 tw15533545805971759636 tw15544802228876678326 tw15550967493872431561 tw15604675489819238985 tw1562255310120079215 tw15636979424006396974 tw15643043256034793401 tw15866402889064700737 tw15876302594048584953 tw15925069423610456673 tw16062811650207999183 tw16073347185660603453 tw16172384495768539753 tw16172589459466632863 tw16259876773372784419 tw16439237419599951404 tw16451299374057866842 tw16459342358846278031 tw16475921129089358778 tw16548046176761287129 tw1656694602495267440 tw16586000921213577378 tw16608454684676999397 tw16612867915260247623 tw16635925809398967329 tw16680865080116634776 tw16708946921254854854 tw16779842629391754177 tw16796102437520616970 tw16821492063460998698 tw1686582508668751169 tw16883013384566665405 tw16924824756184095127 tw16930040622415393025 tw16934984291958062124 tw17040616744426019572 tw17086068654723830814 tw17156404462115019740 tw17202316459697498182 tw17207782753905410317 tw17219727809328172539 tw1722674107848942879 tw17361918167468031826 tw17386647346065864691 tw17439577138987490784 tw17499217613246043556 tw17510049306173412471 tw17528424314106671753 tw17550970182620729924 tw1755690085139394652 tw17569009086610239070 tw17594352909353199554 tw17668968398247762262 tw17687170371397338126 tw17732338997084130429 tw17801530859029757016 tw17818049420722021906 tw17819734847310652034 tw17853216883649443565 tw17931568615467585278 tw17933713948332896383 tw17974235643270561314 tw18006052832717510165 tw18014218137818297922 tw18049470212485211034 tw18140709689092754656 tw18186675208565371409 tw18221224953858769245 tw18231044900379855212 tw18339712121093130841 tw1836838368107054514 tw1855203573667084981 tw1985528322102060135 tw2022442050759416475 tw2072769096423740555 tw2103630672245692842 tw212132284165039164 tw2196012860327826584 tw2197171379268882256 tw2199286890909509062 tw2252992176671651085 tw2275540147797208026 tw2319605062101540573 tw2325022514526125647 tw2331703954174742479 tw2359244925336636427 tw236439170031319025 tw2395267395085392755 tw2593765280573244707 tw2599782836259716141 tw2637714465423506689 tw2649741675241211571 tw2715217510904448273 tw2746892796995734724 tw2750235176391726647 tw2764436567588627351 tw2772931729533035143 tw2864279475205471446 tw29087505335459226 tw2919090308205119099 tw2963492534612247738 tw2967411356717135532 tw3021803522266964054 tw3041532696029575626 tw3099786701739717178 tw3103194034581253344 tw3170239253623294917 tw3177050838241182822 tw318752681665563360 tw3201010047412955860 tw3255124532395263676 tw3295059439725416799 tw3309832068856871218 tw3364223972487237566 tw3413002882949889874 tw3507225816860913440 tw3513969040874958560 tw352483332199355240 tw3566145541308949059 tw3641431125119737689 tw3653612341932030370 tw3921273517288312555 tw4014228015454410517 tw4062787955188149941 tw4139463079988361353 tw4194980539313383762 tw4201664137691207996 tw4225365285680734292 tw4308081566219862485 tw4380795712489888601 tw4456747245244928904 tw4497937595055367719 tw4545832444235388406 tw4547333015434252813 tw4562326360023486572 tw4567428219837589225 tw4580433937654058337 tw4638003874197443034 tw4776695998869211477 tw4777027073805238883 tw4778136116523284863 tw4820436557672760203 tw4890827402492820010 tw4900913066091095598 tw490118417420074636 tw4969315658072448702 tw4976268662584380820 tw4978383189425276929 tw4984200666183832490 tw5022672734406376265 tw5065071272187374234 tw5077445224267458597 tw5084412519664133540 tw5100601874014079472 tw5118654517017612780 tw5201340720736019241 tw5239979960454859558 tw5265596627135183533 tw5311105895647765042 tw5390297818752655452 tw5394220101683858729 tw5451235816319984738 tw5558109226067974547 tw5560065389847480138 tw5622400004172033426 tw5650764327404358036 tw5665221098784172000 tw5731731676941182675 tw5733639585173930543 tw5760662219947162045 tw5832464454870891677 tw5854303937638878068 tw5874861488662350911 tw5896216906787880649 tw592805065885841577 tw5978171200233200522 tw6020494536434971711 tw6026278570578417258 tw6070896289019703725 tw6109274870486036731 tw6197462168760801279 tw6217210722103542522 tw6237684702690921507 tw6364078600656515279 tw6375806256064646170 tw6381491205586158526 tw641069896115165853 tw6451928135563031391 tw6498793317135257856 tw6550780962543236351 tw6567667588774492814 tw6647464027237377681 tw6668679560783508455 tw672330414743165605 tw6745652596577078104 tw6773170361552255313 tw6793084834545593509 tw6807861444540735731 tw6924442359625063289 tw6951257058461312799 tw6956772084438300456 tw6998888203644357841 tw7000094574915809024 tw7025608169815487462 tw7136571825605109555 tw7145936781346434263 tw7155013707098710310 tw7178394078185315866 tw7212567680011711938 tw7235252840403290041 tw7286657286751695132 tw7390927771021713136 tw7396503727598288902 tw740461114866570615 tw741192686194940961 tw7442117851436942106 tw7469676983871885972 tw7474757594308156723 tw7481379963996795369 tw76094115840063237 tw7648261815680439292 tw7667133146079748077 tw7699286208201550489 tw7720504448788460289 tw7750028839383106636 tw781612206750069795 tw7896527599085181505 tw7927498269486301284 tw7976946218469536660 tw821993482524499009 tw8226714399762123395 tw8229684924323128660 tw8268262850434441712 tw8295549453256666116 tw8298151880201116383 tw8303942156369203623 tw8319110293319350382 tw8324524940803317533 tw8349222458668335909 tw8354464577629277169 tw8376723517662213913 tw8395474738113103002 tw8428962564286510605 tw8551320275448000676 tw8674314407182001842 tw8701924789534663008 tw8729065437304389228 tw8828921195667218668 tw8838623579581385996 tw8878042021775183604 tw8982347727190332872 tw9077824719544015340 tw9165889507022756949 tw9193366533439514189 tw9233072263541625184 tw9236057952037121078 tw9262191097090999528 tw9264241601609139439 tw926847509302824793 tw9351751015889144661 tw9389508631096846633 tw9392088905347823133 tw9480326119896764156 tw9483691674773845462 tw9556922377254524059 tw9615096727846760963 tw9617752178557581277 tw9651031637111141082 tw9653953971539308495 tw9681150162824199737 tw9705422164549184076 tw9720839627298054234 tw9811975240231349879 tw9886771069767996201 tw9939552243444869174 tw9948709606337580492 tw9975956206015440136:True)
set_option maxRecDepth 100000 in
set_option maxHeartbeats 0 in
theorem PySem.Challenge.cw_seamwright_k19_chains_refused_ahead_holds : PySem.Challenge.rw_seamwright_k19_chains_refused_ahead.Holds := by
 w_on; o_law; k_head; (case hw=>w_witness2)
 k_fill
 refine K19.walk (l:=PySem.Challenge.rw_seamwright_k19_chains_refused_ahead) rfl rfl (fun w h Y=>PySem.W.kIn_of Y) ?F
 case F=>
  intro w mg fa h KX G gZ;refine' K19.znk KX G gZ ?_ ?_ ?_ ?_ ?_ ?_ ?_ ?_ ?_ ?_ ?_ ?_ ?_ ?_ ?_ ?_ ?_ ?_ ?_ ?_ ?_ ?_ ?_ ?_ ?_ ?_ ?_ ?_ ?_ ?_ ?_ ?_ ?_ ?_ ?_ ?_ ?_ ?_ ?_ ?_ ?_ ?_ ?_ ?_ ?_ ?_ ?_ ?_ ?_ ?_ ?_ ?_ ?_ ?_ ?_ ?_ ?_ ?_ ?_ ?_ ?_ ?_ ?_ ?_ ?_ ?_ ?_ ?_ ?_ ?_ ?_ ?_ ?_ ?_ ?_ ?_ ?_ ?_ ?_ ?_ ?_ ?_ ?_ ?_ ?_ ?_ ?_ ?_ ?_ ?_
  all_goals try first | refine' L2.df_i ?_ ?_ ?_ ?_ | refine' L2.Nn.mk ?_ | refine' K19.znJ ?_ ?_ ?_ ?_ ?_ ?_ ?_ ?_ ?_ ?_ ?_ ?_ ?_ ?_ ?_ ?_ ?_ ?_ ?_ ?_ | refine' L2.zlz ?_ ?_ ?_
  all_goals try first | k_is | kit_is | k_exc
#print axioms PySem.Challenge.cw_seamwright_k19_chains_refused_ahead_holds
end
