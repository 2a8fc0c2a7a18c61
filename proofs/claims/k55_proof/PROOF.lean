import PyProof.Rows.All
import Wide.All
import OpenK.AllK
import Wide.FinOn
import Lean
import PyProof.EqAt
import PyProof.EqKinds
import PyProof.TupleCall
import PyProof.Rows.SortRuns
import KE.KSortKey
import KE.KListMore
import KE.KIntText
import KE.KEqDat
import PyProof.Rows.CallKwBuiltin
import PySem.SetTable
import PyProof.Rows.SetFrom
import PyProof.TupleKey
import PyProof.IsRules
import KE.KRevIter
import PyProof.ListRange
import PyProof.TupleOfGen
import PyProof.CollectIter
import PySem.Challenge.RW_seamwright_k55_one_map_behind_another
import KE.KDictLaws
import PyProof.DictWalks
import PyProof.SetNew
import PyProof.DictCopy
import PyProof.FactsAll.dict_1
import PyProof.FactsAll.set_2
import PyProof.FactsAll.subtypes_5
import PyProof.DictFindH
import PyProof.MinMaxWalk
import PyProof.SumAny
import PyProof.AttrMissHeap
import KE.KDictList
import KE.KDictSum
import KE.KEqDict
import PyProof.NeKinds
import PyProof.DictTruth
import PyProof.StationsW
import PyProof.ExcClass3
import OpenK.KOwn
import PyProof.ExcArgsOwn
import PyProof.DictItems
import PyProof.MeetsDictList
open PySem renaming wpAny_bind->Aa,wpAny_pure->Ac,tupleKeyHash->At,wpAny_holding->AA,wpAny_newObj_type->AE,wpAny_call_entry->AF,IsTupleKey->AH,wpAny_dictEntries->AO,wpAny_field->AS,wpAny_callSpecial?_slot->AT,bootBuiltins->AU,wpAny_setState_of->AW,codeAny_builtin->A0,sysModules->A2,wpAny_setField->Bf,wpAny_isInstance->Bg
open List renaming length_map->Ab,getElem?_eq_getElem->Af,size_toArray->Ai,getElem?_map->Aj,map_append->Am,mem_of_getElem?->Ap,map_cons->Ar,map_map->As,length_cons->Au,mem_cons_self->Av,length_append->Aw,mem_cons_of_mem->Ax,take_of_length_le->Az,length_take->AJ,getD_eq_getElem?_getD->AL,map_congr_left->AY,getElem_mem->A3,range->Bc,mem_singleton->Bd,lookup_cons->Bh,pairwise_map->Bi
open PySem.W renaming Frag->Ad,kitOne->AI
open PySem.Heap renaming get?_push_of_some->Ae,get?_push_size->Ak,lt_size->Al,SameBut->AN,size_update->A8
open Nat renaming le_refl->Ag,ne_of_lt->Aq,lt_of_lt_of_le->AB,zero_le->AK,le_trans->AQ,lt_succ_of_lt->Ba
open Bool renaming false_eq_true->Ah,false_ne_true->Ao,and_eq_true->AC,not_true->A5
open Option.some renaming inj->An,injEq->A9
open Array renaming length_toList->Ay,getElem?_toList->AD,size_map->AV
open PySem.Obj renaming mapSeq->AG,data_mapFields->AX
open PyProof.Rows renaming take_snoc->AM
open PySem.Heap.SameBut renaming update->AR
open PySem.Around renaming under_plainId->AZ
open Option renaming map_some->A1
open PySem.Paired renaming length->A4
open PySem.PassesOwn renaming never->A7
open Int renaming toNat_natCast->Bb
open PySem.PyData renaming int->Be
set_option linter.all false
set_option Elab.async false
set_option maxRecDepth 100000
set_option maxHeartbeats 4000000
def δ{p:Prop}(h:p:=by decide +kernel):p:=h
def ω{p:Prop}(h:p:=by omega):p:=h
def ξ{p:Prop}(h:p:=by decide):p:=h
abbrev Ω:=PySem.Value->PySem.Shared->Prop
abbrev Ξ:=List (List Int)
abbrev Ψ:=List (PySem.Addr×PySem.Obj)
local macro_rules|`($s⁻¹)=>`(($s).heap.objs.size)
section
namespace L2
open PySem PySem.Spec PyProof.Rows
abbrev Key:=Sum Int Str
def kl:Key->Value->Bool
 |.inl k,v=>Value.isInt k v
 |.inr x,v=>Value.isStrOf x v
def sO(w:World):Key->Int
 |.inl k=>hashInt k
 |.inr x=>hashStr w x
def aA:∀{k:Key}{v:Value},kl k v=true->(∃i t,k=Sum.inl i/\v=Value.int i t)\/(∃x t,k=Sum.inr x/\v=Value.str x t)
 |.inl i,v,h=>by
  obtain⟨t,e⟩:=Value.isInt_shape (k:=i) (v:=v) h;exact .inl ⟨i,t,rfl,e⟩
 |.inr x,v,h=>by
  obtain⟨t,e⟩:=Value.isStrOf_shape (x:=x) (v:=v) h;exact .inr ⟨x,t,rfl,e⟩
def GV(i:Int)(t:Tok):kl (.inl i) (.int i t)=true:=by simp[kl,Value.isInt]
def GW(x:Str)(t:Tok):kl (.inr x) (.str x t)=true:=by simp[kl,Value.isStrOf]
def GX(a b:Int):decide ((Sum.inl a:Key)=Sum.inl b)=(a==b):=by
 by_cases e:a=b
 ·subst e;simp
 ·have h:¬(Sum.inl a:Key)=Sum.inl b:=fun q=>e (Sum.inl.inj q)
  rw[decide_eq_false h];exact(beq_eq_false_iff_ne.mpr e).symm
def GY(a b:Str):decide ((Sum.inr a:Key)=Sum.inr b)=decide (a=b):=by
 by_cases e:a=b
 ·subst e;simp
 ·have h:¬(Sum.inr a:Key)=Sum.inr b:=fun q=>e (Sum.inr.inj q)
  rw[decide_eq_false h,decide_eq_false e]
def GZ(a:Int)(b:Str):decide ((Sum.inl a:Key)=Sum.inr b)=false:=decide_eq_false (fun q=>nomatch q)
def G0(a:Str)(b:Int):decide ((Sum.inr a:Key)=Sum.inl b)=false:=decide_eq_false (fun q=>nomatch q)
def zw(prog:Program)(w:World):PySem.KeyKind prog w Key where
 is:=kl
 hash:=sO w
 inj:=fun v a b d hb=>by
  rcases aA d with ⟨i,t,rfl,rfl⟩|⟨x,t,rfl,rfl⟩
  ·rcases aA hb with ⟨j,u,rfl,e⟩|⟨y,u,rfl,e⟩
   ·injection e with e1 _;rw[e1]
   ·exact nomatch e
  ·rcases aA hb with ⟨j,u,rfl,e⟩|⟨y,u,rfl,e⟩
   ·exact nomatch e
   ·injection e with e1 _;rw[e1]
 byValue:=fun k v h=>by
  rcases aA h with ⟨i,t,rfl,rfl⟩|⟨x,t,rfl,rfl⟩<;>rfl
 pyHash:=fun c h=>by
  rcases aA c with ⟨i,t,rfl,rfl⟩|⟨x,t,rfl,rfl⟩
  ·exact wpAny_pyHash_int h
  ·exact wpAny_pyHash_str h
 eqBool:=fun hu c h=>by
  rcases aA hu with ⟨i,t,rfl,rfl⟩|⟨x,t,rfl,rfl⟩
  ·rcases aA c with ⟨j,u,rfl,rfl⟩|⟨y,u,rfl,rfl⟩
   ·rw[GX] at h;exact wpAny_eqBool_int h
   ·rw[GZ] at h;exact SeqAt.EqAt.int_str i t y u _ _ _ _ h
  ·rcases aA c with ⟨j,u,rfl,rfl⟩|⟨y,u,rfl,rfl⟩
   ·rw[G0] at h;exact SeqAt.EqAt.str_int x t j u _ _ _ _ h
   ·rw[GY] at h;exact wpAny_eqBool_str h
 «strs»:=fun k x t v h=>by
  rcases aA h with ⟨i,u,rfl,e⟩|⟨y,u,rfl,e⟩
  ·exact nomatch e
  ·injection e with e1 _
   subst e1;cases v<;>rfl
def sQ(prog:Program)(w:World)(i:Int)(t:Tok):(zw prog w).is (.inl i) (.int i t)=true:=GV i t
def G1(prog:Program)(w:World)(x:Str)(t:Tok):(zw prog w).is (.inr x) (.str x t)=true:=GW x t
inductive V where
 |non|bl (b:Bool)|int (i:Int)|str (x:Str)|byt (b:Array UInt8)|flt (b:UInt64)|ref (a:Addr)|ty (n:String)
 deriving DecidableEq
def RelV:V->Value->Prop
 |.non,u=>u=Value.none
 |.bl b,u=>u=Value.bool b
 |.int i,u=>∃t,u=Value.int i t
 |.str x,u=>∃t,u=Value.str x t
 |.byt b,u=>∃t,u=Value.bytes b t
 |.flt b,u=>∃t,u=Value.float b t
 |.ref a,u=>u=Value.ref a
 |.ty n,u=>u=Value.type n
abbrev Vals:List V->List Value->Prop:=Paired RelV
def Vals.length{xs:List V}{us:List Value}(r:Vals xs us):xs.length=us.length:=A4 r
def Vals.get:∀{xs:List V}{us:List Value}{i:Nat}{x:V},Vals xs us->xs[i]?=some x->∃u,us[i]?=some u/\RelV x u
 |_,_,_,_,.nil,e=>by simp at e
 |_,_,0,_,.cons r _,e=>by simp at e;subst e;exact⟨_,rfl,r⟩
 |_,_,i+1,x,.cons _ t,e=>by
  obtain⟨u,h1,h2⟩:=Vals.get (i:=i) (x:=x) t (by simpa using e);exact⟨u,by simpa using h1,h2⟩
def Vals.set{x:V}{u:Value}(r:RelV x u):∀{xs:List V}{us:List Value}(i:Nat),Vals xs us->Vals (xs.set i x) (us.set i u)
 |_,_,_,.nil=>.nil
 |_,_,0,.cons _ t=>.cons r t
 |_,_,i+1,.cons q t=>.cons q (Vals.set r i t)
def Vals.append{xs ys:List V}{us a:List Value}(h:Vals xs us)(g:Vals ys a):Vals (xs++ys) (us++a):=by
 induction h with
 |nil=>exact g
 |cons r _ ih=>exact .cons r ih
def Vals.take:∀{xs:List V}{us:List Value}(n:Nat),Vals xs us->Vals (xs.take n) (us.take n)
 |_,_,0,_=>.nil
 |_,_,_+1,.nil=>.nil
 |_,_,n+1,.cons r t=>.cons r (Vals.take n t)
def Vals.drop:∀{xs:List V}{us:List Value}(n:Nat),Vals xs us->Vals (xs.drop n) (us.drop n)
 |_,_,0,r=>r
 |_,_,_+1,.nil=>.nil
 |_,_,n+1,.cons _ t=>Vals.drop n t
def RelO:Option V->Option Value->Prop
 |some v,some u=>RelV v u
 |none,none=>True
 |_,_=>False
def KV{κ:Type}:List (κ×V)->List (κ×Value)->Prop:=Paired fun(p:κ×V)(q:κ×Value)=>p.1=q.1/\RelV p.2 q.2
def kV:Key->V
 |.inl i=>.int i
 |.inr x=>.str x
inductive HO where
 |lst (xs:List V)
 |tup (xs:List V)
 |dK (kvs:List (Key×V))|dT (kvs:List (List Key×V))
 |set (S:Int->Bool) (n:Nat)
 |ins (C dx:Addr) (fs:List (Str×V))
 |own (x:Addr)
 |xd (fs:List (Str×V))
 |met (f x:Addr)
 |rng (lo hi:Int)
 |frz (o:Obj) (u:HO)
 |tbl (ps:Array Value)
 |ext (φ:Heap->Prop)
abbrev Hp:=Addr->Option HO
def upd(H:Hp)(a:Addr)(o:HO):Hp:=fun b=>if b=a then some o else H b
def ak{H:Hp}{a:Addr}{o:HO}:upd H a o a=some o:=by unfold upd;rw[if_pos rfl]
def zj{H:Hp}{a b:Addr}{o:HO}(h:b≠a):upd H a o b=H b:=by unfold upd;rw[if_neg h]
def dj{H:Hp}{a b:Addr}{o u:HO}(h:H a=some o)(h':H b=some u)(d:o≠u):a≠b:=by
 intro e;subst e;rw[h] at h';exact d (An h')
def zh{H:Hp}{a b:Addr}{o:HO}(h:H a=some o)(h':H b=none):a≠b:=by
 intro e;subst e;rw[h] at h';cases h'
section
variable(P:Program)(w:World)
def zC(H:Hp)(h:Heap)(a:Addr):HO->Prop
 |.lst xs=>xs.length<=sizeLine/\∃(b:List Value)(n:Nat),Vals xs b/\h.get? a=some {cls:=.type "list",data:=.seq b.toArray n}
 |.tup xs=>xs.length<=sizeLine/\∃b:List Value,Vals xs b/\IsTup h a b.toArray
 |.dK kvs=>kvs.length<=sizeLine/\(a==A2)=false/\∃vs,KV kvs vs/\h.DictOf (zw P w) a vs
 |.dT kvs=>kvs.length<=sizeLine/\(a==A2)=false/\∃xs:List (List Key×Addr×Value),
   Paired (fun(p:List Key×V)(q:List Key×Addr×Value)=>p.1=q.1/\H q.2.1=some (.tup (p.1.map kV))/\RelV p.2 q.2.2) kvs xs/\
   ∃o es ep,h.get? a=some o/\o.ExactDict/\o.data=.dict es ep/\es.toList=xs.map (entryOfKey (tupleKind (zw P w)))/\(xs.map (·.1)).Nodup
 |.set S n=>h.SetOf (intKind P w) a S n
 |.ins C dx fs=>H dx=some (.own a)/\fs.length<=1000/\dx≠a/\h.get? a=some (PySem.W.instObj C dx)/\
   ∃mA,h.Ns1 dx mA/\(∀f,RelO (fs.lookup f) (mA f))/\PySem.Within mA (fs.map (·.1))
 |.own _=>∃o,h.get? a=some o
 |.xd fs=>∃mA,h.Ns1 a mA/\∀f,RelO (fs.lookup f) (mA f)
 |.rng lo hi=>∃t u v,h.get? a=some {cls:=.type "range",data:=.fields #[.int lo t,.int hi u,.int 1 v]}
 |.frz o u=>h.get? a=some o/\zC H h a u
 |.tbl ps=>h.get? a=some {cls:=.none,data:=.fields ps}
 |.met f x=>h.get? a=some (PySem.W.methodObj (.ref f) (.ref x))
 |.ext φ=>φ h/\(∃o,h.get? a=some o)/\∀h1 h2:Heap,φ h1->(∀o,h1.get? a=some o->h2.get? a=some o)->φ h2
def HOk(H:Hp)(h:Heap):Prop:=∀a o,H a=some o->zC P w H h a o
end
section
variable{P:Program}{w:World}{H H':Hp}{h h':Heap}{a:Addr}{o:HO}
def zC.lt(x:zC P w H h a o):a<h.objs.size:=by
 cases o with
 |lst xs=>obtain⟨_,_,_,_,e⟩:=x;exact Al e
 |tup xs=>obtain⟨_,_,_,p⟩:=x;exact p.lt
 |dK kvs=>obtain⟨_,_,_,_,o,_,_,e,_⟩:=x;exact Al e
 |dT kvs=>obtain⟨_,_,_,_,o,_,_,e,_⟩:=x;exact Al e
 |set S n=>obtain⟨o,_,_,_,e,_⟩:=x;exact Al e
 |ins C dx fs=>obtain⟨_,_,_,e,_⟩:=x;exact Al e
 |own y=>obtain⟨_,e⟩:=x;exact Al e
 |xd fs=>obtain⟨_,⟨_,_,_,e,_⟩,_⟩:=x;exact Al e
 |rng lo hi=>obtain⟨_,_,_,e⟩:=x;exact Al e
 |frz ob u=>obtain⟨e,_⟩:=x;exact Al e
 |tbl ps=>exact Al (show h.get? a=some _ from x)
 |met f y=>exact Al (show h.get? a=some _ from x)
 |ext φ=>obtain⟨_,⟨_,e⟩,_⟩:=x;exact Al e
def Paired.mapP{c d:Type}{F G:c->d->Prop}{l₁:List c}{l₂:List d}(h:Paired F l₁ l₂)(f:∀a b,F a b->G a b):Paired G l₁ l₂:=by
 induction h with
 |nil=>exact .nil
 |cons r _ ih=>exact .cons (f _ _ r) ih
def zC.stay(x:zC P w H h a o)(k:∀b u,(b=a\/H b=some (.own a))->h.get? b=some u->h'.get? b=some u)(j:∀b,H b=some (.own a)->H' b=some (.own a))(l:∀b xs,H b=some (.tup xs)->H' b=some (.tup xs)):zC P w H' h' a o:=by
 induction o with
 |lst xs=>obtain⟨z,g,n,r,e⟩:=x;exact⟨z,g,n,r,k _ _ (.inl rfl) e⟩
 |tup xs=>obtain⟨z,g,r,ob,e,c⟩:=x;exact⟨z,g,r,ob,k _ _ (.inl rfl) e,c⟩
 |dK kvs=>obtain⟨z,y,vs,r,ob,es,ep,e,c⟩:=x;exact⟨z,y,vs,r,ob,es,ep,k _ _ (.inl rfl) e,c⟩
 |dT kvs=>
  obtain⟨z,y,xs,r,ob,es,ep,e,c⟩:=x;exact⟨z,y,xs,Paired.mapP r fun p q z=>⟨z.1,l _ _ z.2.1,z.2.2⟩,ob,es,ep,k _ _ (.inl rfl) e,c⟩
 |set S n=>obtain⟨ob,es,ep,t,e,c⟩:=x;exact⟨ob,es,ep,t,k _ _ (.inl rfl) e,c⟩
 |ins C dx fs=>
  obtain⟨d,z,ne,e,mA,⟨i,es,ep,e2,c⟩,r⟩:=x;exact⟨j _ d,z,ne,k _ _ (.inl rfl) e,mA,⟨i,es,ep,k _ _ (.inr d) e2,c⟩,r⟩
 |own y=>obtain⟨ob,e⟩:=x;exact⟨ob,k _ _ (.inl rfl) e⟩
 |xd fs=>obtain⟨mA,⟨i,es,ep,e,c⟩,r⟩:=x;exact⟨mA,⟨i,es,ep,k _ _ (.inl rfl) e,c⟩,r⟩
 |rng lo hi=>obtain⟨t,u,v,e⟩:=x;exact⟨t,u,v,k _ _ (.inl rfl) e⟩
 |frz ob u ih=>obtain⟨e,q⟩:=x;exact⟨k _ _ (.inl rfl) e,ih q⟩
 |tbl ps=>
  have e:h.get? a=some {cls:=.none,data:=.fields ps}:=x;show h'.get? a=some {cls:=.none,data:=.fields ps};exact k a _ (.inl rfl) e
 |met f y=>
  have e:h.get? a=some (PySem.W.methodObj (.ref f) (.ref y)):=x;show h'.get? a=some (PySem.W.methodObj (.ref f) (.ref y));exact k a _ (.inl rfl) e
 |ext φ=>obtain⟨p,⟨o,e⟩,st⟩:=x;exact⟨st _ _ p fun o q=>k _ _ (.inl rfl) q,⟨o,k _ _ (.inl rfl) e⟩,st⟩
def HOk.lt(x:HOk P w H h)(e:H a=some o):a<h.objs.size:=(x a o e).lt
def HOk.fresh(x:HOk P w H h)(e:h.objs.size<=a):H a=none:=by
 cases q:H a with
 |none=>rfl
 |some u=>exact absurd (AB (x.lt q) e) (Nat.lt_irrefl _)
def HOk.kept(x:HOk P w H h)(k:∀b u,h.get? b=some u->h'.get? b=some u):HOk P w H h':=fun a o e=>
 (x a o e).stay (fun b u _ q=>k b u q) (fun _ q=>q) fun _ _ q=>q
def HOk.laid(x:HOk P w H h)(k:∀b u,h.get? b=some u->h'.get? b=some u)(hp:h.objs.size<=a)(new:zC P w (upd H a o) h' a o):HOk P w (upd H a o) h':=fun b u e=>by
 have d:=x.fresh hp
 by_cases hb:b=a
 ·subst hb;rw[ak] at e;cases e;exact new
 ·rw[zj hb] at e
  exact(x b u e).stay (fun c v _ q=>k c v q) (fun c q=>by rw[zj (zh q d)];exact q) fun c xs q=>by rw[zj (zh q d)];exact q
end
def Rd(H:Hp)(a:Addr)(u:HO):Prop:=H a=some u\/∃o,H a=some (.frz o u)
def Rd.of{H:Hp}{a:Addr}{u:HO}(h:H a=some u):Rd H a u:=.inl h
def Rd.ok{P:Program}{w:World}{H:Hp}{h:Heap}{a:Addr}{u:HO}(r:Rd H a u)(x:HOk P w H h):zC P w H h a u:=by
 rcases r with r|⟨o,r⟩
 ·exact x a u r
 ·obtain⟨_,q⟩:=x a _ r
  exact q
def lD:Option HO->Prop
 |some (.lst _)=>True
 |some (.dK _)=>True
 |some (.dT _)=>True
 |some (.set _ _)=>True
 |some (.ins _ _ _)=>True
 |some (.ext _)=>True
 |_=>False
section
variable{P:Program}{w:World}{H:Hp}{h h':Heap}{x e:Addr}{o':HO}
def HOk.write(ok:HOk P w H h)(g:lD (H x))(he:e=x\/H e=some (.own x))(k:∀b u,b≠e->h.get? b=some u->h'.get? b=some u)(l:∃u,h'.get? e=some u)(new:zC P w (upd H x o') h' x o'):HOk P w (upd H x o') h':=fun b u q=>by
 have d:∀c y,H c=some (.own y)->c≠x:=fun c y r z=>by subst z;rw[r] at g;exact g
 have f:∀c xs,H c=some (.tup xs)->c≠x:=fun c xs r z=>by subst z;rw[r] at g;exact g
 by_cases hb:b=x
 ·subst hb;rw[ak] at q;cases q;exact new
 ·rw[zj hb] at q
  by_cases a:b=e
  ·have i:H b=some (.own x):=by
    rcases he with z|z
    ·exact absurd (a.trans z) hb
    ·rw[a];exact z
   rw[q] at i;cases i;obtain⟨v,j⟩:=l;exact⟨v,by rw[a];exact j⟩
  ·refine(ok b u q).stay (fun c v hc r=>k c v ?_ r) (fun c r=>by rw[zj (d c b r)];exact r) fun c xs r=>by rw[zj (f c xs r)];exact r
   rcases hc with rfl|hc
   ·exact a
   ·rintro rfl
    rcases he with z|z
    ·exact d c b hc z
    ·rw[hc] at z;cases z;exact hb rfl
end
structure Un(fs ex:List Addr)(H H':Hp)(h h':Heap):Prop where
 keep:∀b o,h.get? b=some o->H b=none->b∉fs->b∉ex->h'.get? b=some o
 slot:∀b o,h.get? b=some o->H b=none->b∈fs->b∉ex->∃sl,h'.get? b=some {o with slots:=sl}
 free:∀b o,h.get? b=some o->H b=none->b∉ex->H' b=none
 there:∀b o,h.get? b=some o->b∉ex->∃o',h'.get? b=some o'
 tups:∀b xs,H b=some (.tup xs)->H' b=some (.tup xs)
 frzs:∀b o u,H b=some (.frz o u)->H' b=some (.frz o u)
 tbls:∀b ps,H b=some (.tbl ps)->∃more,H' b=some (.tbl (ps++more))
section
variable{fs su ex yY:List Addr}{H H1 H2:Hp}{h h1 h2 h':Heap}{a x e:Addr}{o:HO}
def Un.any(u:Un fs ex H H1 h h1){b:Addr}{ob:Obj}(q:h.get? b=some ob)(n:H b=none)(hx:b∉ex):∃a,h1.get? b=some {ob with slots:=a}:=by
 by_cases hb:b∈fs
 ·exact u.slot b ob q n hb hx
 ·exact⟨ob.slots,u.keep b ob q n hb hx⟩
def Un.kept(k:∀b u,h.get? b=some u->h'.get? b=some u):Un fs ex H H h h':=
 ⟨fun b ob q _ _ _=>k b ob q,fun b ob q _ _ _=>⟨ob.slots,k b ob q⟩,fun _ _ _ n _=>n,fun b ob q _=>⟨ob,k b ob q⟩,fun _ _ q=>q,fun _ _ _ q=>q,fun _ ps q=>⟨#[],by rw[q];simp⟩⟩
def Un.refl:Un fs ex H H h h:=Un.kept fun _ _ q=>q
def Un.laid(k:∀b u,h.get? b=some u->h'.get? b=some u)(hp:h.objs.size<=a)(c:H a=none):Un fs ex H (upd H a o) h h' where
 keep:=fun b u q _ _ _=>k b u q
 slot:=fun b u q _ _ _=>⟨u.slots,k b u q⟩
 free:=fun b u q n _=>by rw[zj (Aq (AB (Al q) hp))];exact n
 there:=fun b u q _=>⟨u,k b u q⟩
 tups:=fun b xs q=>by rw[zj (zh q c)];exact q
 frzs:=fun b u xs q=>by rw[zj (zh q c)];exact q
 tbls:=fun b ps q=>⟨#[],by rw[zj (zh q c),q];simp⟩
def Un.write(c:lD (H x))(he:e=x\/H e=some (.own x))(k:∀b u,b≠e->h.get? b=some u->h'.get? b=some u)(d:∃u,h'.get? e=some u):Un fs ex H (upd H x o) h h':=by
 have hx:∀b,H b=none->b≠x:=fun b n z=>by subst z;rw[n] at c;exact c
 have hb:∀b,H b=none->b≠e:=fun b n z=>by
  subst z;rcases he with r|r
  ·exact hx b n r
  ·rw[n] at r;cases r
 have hm:∀b u,H b=some u->¬lD (some u)->b≠x:=fun b u q nm z=>by subst z;rw[q] at c;exact nm c
 refine⟨fun b u q n _ _=>k b u (hb b n) q,fun b u q n _ _=>⟨u.slots,k b u (hb b n) q⟩,fun b u q n _=>by rw[zj (hx b n)];exact n,fun b u q _=>?_,
  fun b xs q=>by rw[zj (hm b _ q fun z=>z)];exact q,fun b u xs q=>by rw[zj (hm b _ q fun z=>z)];exact q,fun b ps q=>⟨#[],by rw[zj (hm b _ q fun z=>z),q];simp⟩⟩
 by_cases a:b=e
 ·subst a;exact d
 ·exact⟨u,k b u a q⟩
end
def pC(h:Heap)(H:Hp):List Addr:=(Bc h.objs.size).filter fun a=>(H a).isSome
def dA(h:Heap)(H:Hp):Heap:=PySem.W.hideAll h (pC h H)
def G2(h:Heap)(H:Hp):(dA h H).objs.size=h.objs.size:=PySem.W.hideAll_size _ _
def G3{h:Heap}{H:Hp}{b:Addr}{o:Obj}(e:h.get? b=some o)(n:H b=none):(dA h H).get? b=some o:=
 PySem.W.hideAll_get _ e fun hm=>by
  have q:(H b).isSome=true:=(List.mem_filter.mp hm).2;rw[n] at q;simp at q
def G4{h:Heap}{H:Hp}{b:Addr}{o:Obj}(e:(dA h H).get? b=some o):h.get? b=some o/\H b=none:=by
 have a:h.get? b=some o:=PySem.W.of_hideAll (pC h H) e;refine⟨a,?_⟩;cases q:H b with
 |none=>rfl
 |some x=>
  have hm:b∈pC h H:=List.mem_filter.mpr ⟨List.mem_range.mpr (Al a),by simp[q]⟩;have z:(dA h H).get? b=none:=PySem.W.hideAll_none (pC h H) hm;rw[z] at e;cases e
def G5(g h:Heap)(L:Addr):Ψ:=(Bc h.objs.size).filterMap fun a=>if a=L\/(g.get? a).isSome=true then none else(h.get? a).map fun o=>(a,o)
def rest(g h:Heap)(L d:Addr):Ψ:=(G5 g h L).filter fun p=>decide (p.1≠d)
structure Mod(K:Ad)(mg:Str->Option Value)(base:Heap):Prop where
 kin:K.In base
 glob:base.Ns mainGlobals mg
 blt:∃mb,base.Ns builtinsNs mb/\∀x:Str,x≠"__name__"->mb x=AU x
 nolimit:base.NoLimit
structure Cx where
 prog:Program
 w:World
 K:Ad
 mg:Str->Option Value
 base:Heap
 A:Around
 N:List Str
 s₀:Shared
 H₀:Hp
 env:Env
 outer:List Env
 stack:List Env
 ex:List Addr
 fn:Str->Bool
 calm:Bool
 pn:Ψ
 xe:Ω
def frs(l:List Env):List Addr:=l.filterMap (·.frame)
abbrev Cx.fs(X:Cx):List Addr:=frs X.outer
def lE(a:Scope)(x:Str):Prop:=a.names.lookup x=some .local\/a.names.lookup x=some .cell\/a.names.lookup x=some .free
def Loc(a:Scope)(x:Str):Prop:=a.names.lookup x=some .local\/a.names.lookup x=some .cell
def Look(env:Env)(h:Heap)(m:Str->Option Value)(x:Str)(u:Value):Prop:=
 (env.kindOf x=some .local/\m x=some u)\/((env.kindOf x=some .cell\/env.kindOf x=some .free)/\∃c,env.cells.lookup x=some c/\h.IsCell c (some u))
structure Cx.Ok(X:Cx):Prop where
 mod:Mod X.K X.mg X.base
 kind:X.env.scope.kind=.function
 glob:X.env.globals=mainGlobals
 blt:X.env.builtins=builtinsNs
 above:X.s₀⁻¹<=X.env.locals
 inj:∀x y c,X.env.cells.lookup x=some c->X.env.cells.lookup y=some c->x=y
 has:∀x,(X.env.kindOf x=some .cell\/X.env.kindOf x=some .free)->∃c,X.env.cells.lookup x=some c
 cab:∀x c,X.fn x=true->X.env.cells.lookup x=some c->X.s₀⁻¹<=c
 hd:X.calm=true->X.A.handled=none
 frames:X.A.frames=some X.stack
 stk:X.stack=X.outer\/(X.stack=X.env::X.outer/\X.env.frame=some X.env.locals)
 exf:∀b∈X.ex,b≠X.env.locals/\∀x c,X.env.cells.lookup x=some c->c≠b
 bs:∀b o,X.base.get? b=some o->X.s₀.heap.get? b=some o/\X.H₀ b=none
 bsz:X.base.objs.size<=X.s₀⁻¹
 noex:∀b o,X.base.get? b=some o->b∉X.ex
 exfs:∀b∈X.ex,b∉X.fs
 funs:X.s₀.heap.FunFrames X.base X.outer
 frf:∀b∈X.fs,X.H₀ b=none
structure Inv(X:Cx)(aa:Ψ)(σ:List (Option V))(H:Hp)(s:Shared):Prop where
 ok:X.Ok
 os:s.os=X.s₀.os
 bare:AllBare s.gens
 base:Un X.fs X.ex X.H₀ H X.s₀.heap s.heap
 loc:∃m,s.heap.Ns X.env.locals m/\∀(i:Nat)(x:Str)(v:V),X.N[i]?=some x->σ[i]?=some (some v)->lE X.env.scope x->∃u,RelV v u/\Look X.env s.heap m x u
 cell:∀x c,X.env.cells.lookup x=some c->∃v,s.heap.IsCell c v
 free:H X.env.locals=none
 freeC:∀x c,X.env.cells.lookup x=some c->H c=none
 pin:∀p∈X.pn++aa,s.heap.get? p.1=some p.2/\H p.1=none/\p.1≠X.env.locals/\p.1∉X.fs/\∀v,p.2.data≠.cell v
 hok:HOk X.prog X.w H s.heap
 len:σ.length=X.N.length
section
variable{X:Cx}{aa:Ψ}{σ:List (Option V)}{H H':Hp}{s:Shared}{h':Heap}
def Cx.Ok.nofr(ok:X.Ok){b:Addr}{o:Obj}(e:X.base.get? b=some o):b∉X.fs:=fun hb=>by
 have:=(ok.funs.mem hb).1;rw[e] at this;cases this
def Inv.bs(I:Inv X aa σ H s):∀b o,X.base.get? b=some o->s.heap.get? b=some o/\H b=none:=fun b o e=>
 ⟨I.base.keep b o (I.ok.bs b o e).1 (I.ok.bs b o e).2 (I.ok.nofr e) (I.ok.noex b o e),I.base.free b o (I.ok.bs b o e).1 (I.ok.bs b o e).2 (I.ok.noex b o e)⟩
def Inv.bk(I:Inv X aa σ H s):∀b o,X.base.get? b=some o->s.heap.get? b=some o:=fun b o e=>(I.bs b o e).1
def Inv.mod(I:Inv X aa σ H s):Mod X.K X.mg X.base:=I.ok.mod
def Inv.kIn(I:Inv X aa σ H s):X.K.In s.heap:=I.ok.mod.kin.keeps I.bk
def Inv.nolimit(I:Inv X aa σ H s):s.heap.NoLimit:=I.ok.mod.nolimit.keeps I.bk
def Inv.fr(I:Inv X aa σ H s):∃m,Fr X.base X.env.locals s.heap m:=
 let ⟨m,hn,_⟩:=I.loc
 ⟨m,hn,I.bk,AQ I.ok.bsz I.ok.above⟩
def Inv.lt(I:Inv X aa σ H s):X.env.locals<s⁻¹:=let ⟨_,hn,_⟩:=I.loc;hn.lt
def Inv.sz(I:Inv X aa σ H s):X.s₀⁻¹<=s⁻¹:=AQ I.ok.above (Nat.le_of_lt I.lt)
def Inv.nofs(I:Inv X aa σ H s){a:Addr}(h:s⁻¹<=a):a∉X.fs:=fun hb=>by
 obtain⟨_,o,b,_⟩:=I.ok.funs.mem hb;exact absurd (AB (Al b) (AQ I.sz h)) (Nat.lt_irrefl _)
def Inv.cne(I:Inv X aa σ H s):∀x c,X.env.cells.lookup x=some c->c≠X.env.locals:=fun x c e z=>by
 obtain⟨v,o,d,hd⟩:=I.cell x c e;obtain⟨m,⟨o',es,ep,a,b,_⟩,_⟩:=I.loc;rw[z,a] at d;cases d;rw[b] at hd;cases hd
def Inv.funs(I:Inv X aa σ H s):s.heap.FunFrames X.base X.outer:=by
 have all:∀(l:List Env),(∀b∈frs l,b∈X.fs)->X.s₀.heap.FunFrames X.base l->s.heap.FunFrames X.base l:=by
  intro l
  induction l with
  |nil=>intro _ _;trivial
  |cons env r ih=>
   intro hs c;obtain⟨hk,⟨L,o,hf,d,f,hd⟩,hr⟩:=c;have a:L∈X.fs:=hs L (by unfold frs;rw[List.filterMap_cons,hf];exact Av);obtain⟨g,e⟩:=I.base.slot L o f (I.ok.frf L a) a fun z=>I.ok.exfs L z a;exact⟨hk,⟨L,_,hf,d,e,hd⟩,ih (fun b hb=>hs b (by unfold frs;rw[List.filterMap_cons,hf];exact Ax _ hb)) hr⟩
 exact all X.outer (fun _ hb=>hb) I.ok.funs
def Inv.stack(I:Inv X aa σ H s):s.heap.FunFrames X.base X.stack:=by
 rcases I.ok.stk with e|⟨e,hf⟩
 ·rw[e];exact I.funs
 ·rw[e]
  obtain⟨m,a,_⟩:=I.loc;refine .cons (by rw[I.ok.kind];decide) hf a ?_ I.funs;exact Heap.get?_none_of_le (AQ I.ok.bsz I.ok.above)
def Inv.stkSub(I:Inv X aa σ H s):∀b∈frs X.stack,b∈X.env.locals::X.fs:=fun b hb=>by
 rcases I.ok.stk with e|⟨e,hf⟩
 ·rw[e] at hb;exact Ax _ hb
 ·rw[e] at hb
  unfold frs at hb;rw[List.filterMap_cons,hf] at hb;exact hb
def Inv.stkFree(I:Inv X aa σ H s):∀b∈frs X.stack,H b=none:=fun b hb=>by
 rcases List.mem_cons.mp (I.stkSub b hb) with e|hb
 ·rw[e];exact I.free
 ·obtain⟨_,o,a,_⟩:=I.ok.funs.mem hb
  exact I.base.free b o a (I.ok.frf b hb) fun z=>I.ok.exfs b z hb
def Inv.step{g':Array GenState}{t':Nat}{d':Drawn}{ch:List Addr}(I:Inv X aa σ H s)(h:∀b∈ch,(b∈X.ex\/X.s₀⁻¹<=b)/\b≠X.env.locals/\(∀x c,X.env.cells.lookup x=some c->c≠b)/\∀p∈X.pn++aa,p.1≠b)(keep:∀b o,b≠X.env.locals->b∉X.fs->b∉ch->s.heap.get? b=some o->H b=none->h'.get? b=some o)(slot:∀b o,b≠X.env.locals->b∈X.fs->b∉ch->s.heap.get? b=some o->H b=none->∃A,h'.get? b=some {o with slots:=A})(free:∀b o,b∉ch->s.heap.get? b=some o->H b=none->H' b=none)(there:∀b o,b∉ch->s.heap.get? b=some o->∃o',h'.get? b=some o')(tups:∀b xs,H b=some (.tup xs)->H' b=some (.tup xs))(frzs:∀b o u,H b=some (.frz o u)->H' b=some (.frz o u))(tbls:∀b ps,H b=some (.tbl ps)->∃more,H' b=some (.tbl (ps++more)))(ns:∀m,s.heap.Ns X.env.locals m->h'.Ns X.env.locals m)(C:HOk X.prog X.w H' h')(L:AllBare g'):Inv X aa σ H' {s with heap:=h',gens:=g',drawn:=d',toks:=t'}:=by
 have j:∀b o,X.s₀.heap.get? b=some o->b≠X.env.locals:=fun b o e=>Aq (AB (Al e) I.ok.above);have y:∀b o,X.s₀.heap.get? b=some o->b∉X.ex->b∉ch:=fun b o e hx hb=>by
  rcases(h b hb).1 with z|z
  ·exact hx z
  ·exact absurd (AB (Al e) z) (Nat.lt_irrefl _)
 have a:∀x c,X.env.cells.lookup x=some c->∀v,s.heap.IsCell c v->h'.IsCell c v:=fun x c e v ⟨o,g,hd⟩=>by
  have f:c∉ch:=fun z=>(h c z).2.2.1 x c e rfl
  by_cases hc:c∈X.fs
  ·obtain⟨A,q⟩:=slot c o (I.cne x c e) hc f g (I.freeC x c e)
   exact⟨_,q,hd⟩
  ·exact⟨o,keep c o (I.cne x c e) hc f g (I.freeC x c e),hd⟩
 refine⟨I.ok,I.os,L,⟨fun b o e n hb hx=>?_,fun b o e n hb hx=>?_,fun b o e n hx=>?_,fun b o e hx=>?_,fun b xs e=>tups b xs (I.base.tups b xs e),fun b o xs e=>frzs b o xs (I.base.frzs b o xs e),fun b ps e=>?_⟩,?_,fun x c e=>?_,?_,fun x c e=>?_,fun p hp=>?_,C,I.len⟩
 ·exact keep b o (j b o e) hb (y b o e hx) (I.base.keep b o e n hb hx) (I.base.free b o e n hx)
 ·obtain⟨A,e1⟩:=I.base.slot b o e n hb hx
  obtain⟨E,e2⟩:=slot b _ (j b o e) hb (y b o e hx) e1 (I.base.free b o e n hx);exact⟨E,e2⟩
 ·obtain⟨o',e1⟩:=I.base.there b o e hx
  exact free b o' (y b o e hx) e1 (I.base.free b o e n hx)
 ·obtain⟨o',e1⟩:=I.base.there b o e hx
  exact there b o' (y b o e hx) e1
 ·obtain⟨F,e1⟩:=I.base.tbls b ps e
  obtain⟨m2,e2⟩:=tbls b _ e1;exact⟨F++m2,by rw[e2,Array.append_assoc]⟩
 ·obtain⟨m,G,J⟩:=I.loc
  refine⟨m,ns m G,fun i x v e1 e2 e3=>?_⟩;obtain⟨u,r,l⟩:=J i x v e1 e2 e3;refine⟨u,r,?_⟩;rcases l with l|⟨k,c,e,z⟩
  ·exact .inl l
  ·exact .inr ⟨k,c,e,a x c e _ z⟩
 ·obtain⟨v,z⟩:=I.cell x c e
  exact⟨v,a x c e v z⟩
 ·obtain⟨m,⟨o,_,_,g,_⟩,_⟩:=I.loc
  exact free _ o (fun z=>(h _ z).2.1 rfl) g I.free
 ·obtain⟨v,o,g,hd⟩:=I.cell x c e
  exact free c o (fun z=>(h c z).2.2.1 x c e rfl) g (I.freeC x c e)
 ·obtain⟨e,n,ne,D,d⟩:=I.pin p hp
  have f:p.1∉ch:=fun z=>(h p.1 z).2.2.2 p hp rfl;exact⟨keep p.1 p.2 ne D f e n,free p.1 p.2 f e n,ne,D,d⟩
def Inv.un{t':Nat}(I:Inv X aa σ H s)(u:Un X.fs [] H H' s.heap h')(c:HOk X.prog X.w H' h'):Inv X aa σ H' {s with heap:=h',toks:=t'}:=by
 obtain⟨m,⟨o,es,ep,d,r⟩,_⟩:=id I.loc;obtain⟨j,f⟩:=u.any d I.free (by simp);exact I.step (g':=s.gens) (d':=s.drawn) (ch:=[]) (fun _ z=>nomatch z) (fun b o _ hb _ e n=>u.keep b o e n hb (by simp)) (fun b o _ hb _ e n=>u.slot b o e n hb (by simp)) (fun b o _ e n=>u.free b o e n (by simp)) (fun b o _ e=>u.there b o e (by simp)) u.tups u.frzs u.tbls (fun i hm=>by
  obtain⟨o',es',g,a,h⟩:=hm;rw[d] at a;cases a;exact⟨_,es',g,f,h⟩) c I.bare
def Inv.call{g':Array GenState}{t':Nat}{d':Drawn}{ch:List Addr}(I:Inv X aa σ H s)(u:Un (frs X.stack) ch H H' s.heap h')(f:HOk X.prog X.w H' h')(l:AllBare g')(h:∀b∈ch,(b∈X.ex\/X.s₀⁻¹<=b)/\b≠X.env.locals/\(∀x c,X.env.cells.lookup x=some c->c≠b)/\∀p∈X.pn++aa,p.1≠b):Inv X aa σ H' {s with heap:=h',gens:=g',drawn:=d',toks:=t'}:=by
 obtain⟨m,⟨o,es,ep,g,r⟩,_⟩:=id I.loc;obtain⟨v,d⟩:=u.any g I.free fun z=>(h _ z).2.1 rfl;exact I.step (ch:=ch) h (fun b o d hb hc e n=>u.keep b o e n (fun z=>(List.mem_cons.mp (I.stkSub b z)).elim d hb) hc) (fun b o _ _ hc e n=>u.any e n hc) (fun b o hc e n=>u.free b o e n hc) (fun b o hc e=>u.there b o e hc) u.tups u.frzs u.tbls (fun q hm=>by
  obtain⟨o',es',i,a,j⟩:=hm;rw[g] at a;cases a;exact⟨_,es',i,d,j⟩) f l
def Inv.turned{t':Nat}{it:Addr}(I:Inv X aa σ H s)(k:∀b o,b≠it->s.heap.get? b=some o->h'.get? b=some o)(g:H it=none)(d:it≠X.env.locals)(h1:it∈X.ex\/X.s₀⁻¹<=it)(h2:∀x c,X.env.cells.lookup x=some c->c≠it)(h:∀p∈X.pn++aa,p.1≠it):Inv X aa σ H {s with heap:=h',toks:=t'}:=by
 have a:∀b u,H b=some u->b≠it:=fun b u e z=>by rw[z,g] at e;cases e
 refine I.step (g':=s.gens) (d':=s.drawn) (ch:=[it]) (fun b hb=>?_) (fun b o _ _ hc e _=>k b o (fun z=>hc (by simp[z])) e) (fun b o _ _ hc e _=>⟨o.slots,k b o (fun z=>hc (by simp[z])) e⟩) (fun _ _ _ _ n=>n)
  (fun b o hc e=>⟨o,k b o (fun z=>hc (by simp[z])) e⟩) (fun _ _ e=>e) (fun _ _ _ e=>e) (fun b ps e=>⟨#[],by rw[e];simp⟩) (fun m hm=>?_) (fun b u e=>?_) I.bare
 ·have e:b=it:=by simpa using hb
  subst e;exact⟨h1,d,h2,h⟩
 ·obtain⟨o,es,ep,f,r⟩:=hm
  exact⟨o,es,ep,k _ o (Ne.symm d) f,r⟩
 ·refine(I.hok b u e).stay (fun c v hc q=>k c v ?_ q) (fun _ q=>q) fun _ _ q=>q
  rcases hc with z|z
  ·rw[z];exact a b u e
  ·exact a c _ z
def Inv.tok(I:Inv X aa σ H s)(t:Nat):Inv X aa σ H {s with toks:=t}:=I.un (h':=s.heap) (t':=t) Un.refl I.hok
def Inv.kept{t':Nat}(I:Inv X aa σ H s)(k:∀b u,s.heap.get? b=some u->h'.get? b=some u):Inv X aa σ H {s with heap:=h',toks:=t'}:=I.un (Un.kept k) (I.hok.kept k)
def Inv.laid{a:Addr}{o:HO}{t':Nat}(I:Inv X aa σ H s)(k:∀b u,s.heap.get? b=some u->h'.get? b=some u)(hp:s⁻¹<=a)(new:zC X.prog X.w (upd H a o) h' a o):Inv X aa σ (upd H a o) {s with heap:=h',toks:=t'}:=I.un (Un.laid k hp (I.hok.fresh hp)) (I.hok.laid k hp new)
def Inv.write{x e:Addr}{o:HO}{t':Nat}(I:Inv X aa σ H s)(a:lD (H x))(he:e=x\/H e=some (.own x))(k:∀b u,b≠e->s.heap.get? b=some u->h'.get? b=some u)(c:∃u,h'.get? e=some u)(new:zC X.prog X.w (upd H x o) h' x o):Inv X aa σ (upd H x o) {s with heap:=h',toks:=t'}:=I.un (Un.write a he k c) (I.hok.write a he k c new)
def Inv.pins_of{bT:Ψ}(I:Inv X aa σ H s)(h:∀p∈bT,s.heap.get? p.1=some p.2/\H p.1=none/\p.1≠X.env.locals/\p.1∉X.fs/\∀v,p.2.data≠.cell v):Inv X bT σ H s:=
 ⟨I.ok,I.os,I.bare,I.base,I.loc,I.cell,I.free,I.freeC,fun p hp=>(List.mem_append.mp hp).elim (fun z=>I.pin p (List.mem_append_left _ z)) (h p),I.hok,I.len⟩
def sS{N:List Str}(c:N.Nodup){i j:Nat}{x:Str}(a:N[i]?=some x)(b:N[j]?=some x):i=j:=by
 obtain⟨h1,e1⟩:=List.getElem?_eq_some_iff.mp a;obtain⟨h2,e2⟩:=List.getElem?_eq_some_iff.mp b;exact(List.getElem_inj c).mp (e1.trans e2.symm)
def CB{M:Model}{A:Around}{E:Ω}{i:Nat}{x:Str}{v:V}{u:Value}{Q:Unit->Shared->Prop}(I:Inv X aa σ H s)(hN:X.N.Nodup)(hi:X.N[i]?=some x)(hx:Loc X.env.scope x)(r:RelV v u)(h:∀s',Inv X aa (σ.set i (some v)) H s'->(∃a,AN a s.heap s'.heap/\(a=X.env.locals\/X.env.cells.lookup x=some a))->Q () s')(hf:X.fn x=true\/X.env.scope.names.lookup x=some .local:=by first|exact .inl rfl|exact .inr rfl|assumption):wpAny M A (storeName X.env x u) Q E s:=by
 obtain⟨m,F,T⟩:=id I.loc;have io:(X.env.scope.kind==.class|| (X.env.scope.kind==.module&&X.env.locals != X.env.globals))=false:=by rw[I.ok.kind];rfl
 have f:i<σ.length:=by rw[I.len];exact(List.getElem?_eq_some_iff.mp hi).1
 have cne:=I.cne;have Z:∀{a:Addr}{h':Heap},(∃o,s.heap.get? a=some o/\H a=none)->AN a s.heap h'->HOk X.prog X.w H h':=fun{a h'} ha hs b ob e=>by
  obtain⟨_,_,U⟩:=ha;refine(I.hok b ob e).stay (fun c l hc q=>(hs.2 c ?_).trans q) (fun _ q=>q) fun _ _ q=>q;rintro rfl;rcases hc with rfl|hc
  ·rw[U] at e;cases e
  ·rw[U] at hc;cases hc
 rcases hx with hk|hk
 ·refine wpAny_storeName_local hk F (fun h' hW hs=>?_) io
  obtain⟨oL,_,_,G,_⟩:=id F;refine h _ ⟨I.ok,I.os,I.bare,⟨fun b o e n hb hx=>?_,fun b o e n hb hx=>?_,I.base.free,fun b o e hx=>?_,I.base.tups,I.base.frzs,I.base.tbls⟩,⟨_,hW,fun j y D e1 e2 e3=>?_⟩,fun y c e=>?_,I.free,I.freeC,fun p hp=>?_,Z ⟨oL,G,I.free⟩ hs,by simpa using I.len⟩ ⟨_,hs,.inl rfl⟩
  ·exact(hs.2 b (Aq (AB (Al e) I.ok.above))).trans (I.base.keep b o e n hb hx)
  ·obtain⟨J,e1⟩:=I.base.slot b o e n hb hx
   exact⟨J,(hs.2 b (Aq (AB (Al e) I.ok.above))).trans e1⟩
  ·obtain⟨o',e1⟩:=I.base.there b o e hx
   exact⟨o',(hs.2 b (Aq (AB (Al e) I.ok.above))).trans e1⟩
  ·by_cases g:j=i
   ·subst g
    rw[hi] at e1;cases e1;rw[List.getElem?_set_self f] at e2;cases e2;exact⟨u,r,.inl ⟨hk,by simp⟩⟩
   ·rw[List.getElem?_set_ne (Ne.symm g)] at e2
    obtain⟨L,O,q⟩:=T j y D e1 e2 e3;refine⟨L,O,?_⟩;rcases q with ⟨k,e⟩|⟨k,c,e,z⟩
    ·refine .inl ⟨k,?_⟩
     have:y≠x:=fun e=>g (sS hN e1 (e▸hi));simp[this,e]
    ·exact .inr ⟨k,c,e,z.sameBut hs (cne y c e)⟩
  ·obtain⟨l,z⟩:=I.cell y c e
   exact⟨l,z.sameBut hs (cne y c e)⟩
  ·obtain⟨e,n,ne,P,d⟩:=I.pin p hp
   exact⟨(hs.2 p.1 ne).trans e,n,ne,P,d⟩
 ·have S:X.fn x=true:=by
   rcases hf with z|z
   ·exact z
   ·rw[z] at hk;cases hk
  obtain⟨c,hc⟩:=I.ok.has x (.inl hk);obtain⟨l,z⟩:=I.cell x c hc;refine wpAny_storeName_cell I.ok.kind hk hc z (fun h' hc' hs=>?_);obtain⟨W,Y,mZ⟩:=id z;refine h {s with heap:=h'} ⟨I.ok,I.os,I.bare,⟨fun b o e n hb hx=>?_,fun b o e n hb hx=>?_,I.base.free,fun b o e hx=>?_,I.base.tups,I.base.frzs,I.base.tbls⟩,⟨m,F.sameBut hs (Ne.symm (cne x c hc)),fun j y D e1 e2 e3=>?_⟩,fun y C e=>?_,I.free,I.freeC,fun p hp=>?_,Z ⟨W,Y,I.freeC x c hc⟩ hs,by simpa using I.len⟩ ⟨c,hs,.inr hc⟩
  ·exact(hs.2 b (Aq (AB (Al e) (I.ok.cab x c S hc)))).trans (I.base.keep b o e n hb hx)
  ·obtain⟨J,e1⟩:=I.base.slot b o e n hb hx
   exact⟨J,(hs.2 b (Aq (AB (Al e) (I.ok.cab x c S hc)))).trans e1⟩
  ·obtain⟨o',e1⟩:=I.base.there b o e hx
   exact⟨o',(hs.2 b (Aq (AB (Al e) (I.ok.cab x c S hc)))).trans e1⟩
  ·by_cases g:j=i
   ·subst g
    rw[hi] at e1;cases e1;rw[List.getElem?_set_self f] at e2;cases e2;exact⟨u,r,.inr ⟨.inl hk,c,hc,hc'⟩⟩
   ·rw[List.getElem?_set_ne (Ne.symm g)] at e2
    obtain⟨L,O,q⟩:=T j y D e1 e2 e3;refine⟨L,O,?_⟩;rcases q with q|⟨k,C,e,z'⟩
    ·exact .inl q
    ·refine .inr ⟨k,C,e,z'.sameBut hs ?_⟩
     rintro rfl;exact g (sS hN e1 (I.ok.inj _ _ _ e hc▸hi))
  ·by_cases eD:C=c
   ·subst eD;exact⟨_,hc'⟩
   ·obtain⟨w2,z2⟩:=I.cell y C e
    exact⟨w2,z2.sameBut hs eD⟩
  ·obtain⟨e,n,ne,P,d⟩:=I.pin p hp
   refine⟨(hs.2 p.1 ?_).trans e,n,ne,P,d⟩;intro q;rw[q,Y] at e;have q':W=p.2:=An e;exact d l (by rw[<-q'];exact mZ)
def pD{M:Model}{A:Around}{E:Ω}{i:Nat}{x:Str}{v:V}{u:Value}{Q:Unit->Shared->Prop}(I:Inv X aa σ H s)(a:X.N.Nodup)(hi:X.N[i]?=some x)(hx:Loc X.env.scope x)(r:RelV v u)(h:∀s',Inv X aa (σ.set i (some v)) H s'->Q () s')(hf:X.fn x=true\/X.env.scope.names.lookup x=some .local:=by first|exact .inl rfl|exact .inr rfl|assumption):wpAny M A (storeName X.env x u) Q E s:=
 CB I a hi hx r (fun s' b _=>h s' b) hf
def Inv.call'{s':Shared}{ch:List Addr}(I:Inv X aa σ H s)(d:s'.os=s.os)(u:Un (frs X.stack) ch H H' s.heap s'.heap)(a:HOk X.prog X.w H' s'.heap)(f:AllBare s'.gens)(g:∀b∈ch,(b∈X.ex\/X.s₀⁻¹<=b)/\b≠X.env.locals/\(∀x c,X.env.cells.lookup x=some c->c≠b)/\∀p∈X.pn++aa,p.1≠b):Inv X aa σ H' s':=by
 obtain⟨h',g',d',t',o'⟩:=s';have e:o'=s.os:=d;subst e;exact I.call (g':=g') (t':=t') (d':=d') u a f g
end
abbrev XK:=Value->Option Addr->Hp->Prop
abbrev St:=List (Option V)
abbrev VK:=V->Hp->Prop
abbrev TE:=St->Hp->VK->Prop
abbrev TT:=St->Hp->(Bool->Hp->Prop)->Prop
abbrev TA:=St->Hp->(List V->Hp->Prop)->Prop
structure Ends where
 nx:St->Hp->Prop
 rt:VK
 bk:St->Hp->Prop:=fun _ _=>False
 ct:St->Hp->Prop:=fun _ _=>False
abbrev TS:=Ends->St->Hp->Prop
def EP(X:Cx)(aa:Ψ)(σ:St)(Q:VK)(u:Value)(s':Shared):Prop:=∃v H',Inv X aa σ H' s'/\RelV v u/\Q v H'
def TP(X:Cx)(aa:Ψ)(σ:St)(Q:Bool->Hp->Prop)(b:Bool)(s':Shared):Prop:=∃H',Inv X aa σ H' s'/\Q b H'
def AP(X:Cx)(aa:Ψ)(σ:St)(Q:List V->Hp->Prop)(us:List Value)(s':Shared):Prop:=∃vs H',Inv X aa σ H' s'/\Vals vs us/\Q vs H'
def SP(X:Cx)(aa:Ψ)(D:Ends)(f:Flow)(s':Shared):Prop:=
 match f with
 |.next=>∃a H',Inv X aa a H' s'/\D.nx a H'
 |.brk=>∃a H',Inv X aa a H' s'/\D.bk a H'
 |.cont=>∃a H',Inv X aa a H' s'/\D.ct a H'
 |.ret u=>∃v a H',Inv X aa a H' s'/\RelV v u/\D.rt v H'
def PE(X:Cx)(e:Expr)(t:TE):Prop:=
 ∀(aa:Ψ)(s:Shared)(σ:St)(H:Hp)(Q:VK),Inv X aa σ H s->t σ H Q->wpAny (model X.prog X.w) X.A (eval e X.env) (EP X aa σ Q) X.xe s
def PT(X:Cx)(e:Expr)(t:TT):Prop:=
 ∀(aa:Ψ)(s:Shared)(σ:St)(H:Hp)(Q:Bool->Hp->Prop),Inv X aa σ H s->t σ H Q->wpAny (model X.prog X.w) X.A (isTrue e X.env (eval e X.env)) (TP X aa σ Q) X.xe s
def PW(X:Cx)(e:Expr)(t:TT):Prop:=
 ∀(a:Sem Value)(aa:Ψ)(s:Shared)(σ:St)(H:Hp)(Q:Bool->Hp->Prop),Inv X aa σ H s->t σ H Q->wpAny (model X.prog X.w) X.A (isTrue e X.env a) (TP X aa σ Q) X.xe s
def PW.pt{X:Cx}{e:Expr}{t:TT}(h:PW X e t):PT X e t:=h _
def PA(X:Cx)(es:List Expr)(t:TA):Prop:=
 ∀(pos:Pos)(aa:Ψ)(s:Shared)(σ:St)(H:Hp)(Q:List V->Hp->Prop),Inv X aa σ H s->t σ H Q->wpAny (model X.prog X.w) X.A (spliced (backTo pos (starEach es X.env))) (AP X aa σ Q) X.xe s
def PS(X:Cx)(st:Stmt)(t:TS):Prop:=
 ∀(aa:Ψ)(s:Shared)(σ:St)(H:Hp)(D:Ends),Inv X aa σ H s->t D σ H->wpAny (model X.prog X.w) X.A (exec st X.env) (SP X aa D) X.xe s
def PSs(X:Cx)(st:List Stmt)(t:TS):Prop:=
 ∀(aa:Ψ)(s:Shared)(σ:St)(H:Hp)(D:Ends),Inv X aa σ H s->t D σ H->wpAny (model X.prog X.w) X.A (execs st X.env) (SP X aa D) X.xe s
def aD{b:Type}{t:Sem b}{Q c:b->Shared->Prop}{M:Model}{A:Around}{E:Ω}{s:Shared}(h:wpAny M A t Q E s)(d:∀a s,Q a s->c a s):wpAny M A t c E s:=wpAny_mono h d fun _ _ x=>x
section
variable{X:Cx}
def aE(i:Nat):TE:=fun σ H Q=>∃v,σ[i]?=some (some v)/\Q v H
def tC(v:V):TE:=fun _ H Q=>Q v H
def G6{i:Nat}{x:Str}{pos:Pos}(f:X.N[i]?=some x)(g:lE X.env.scope x)(hd:(x==("__debug__":Str))=false:=by decide)(j:(x==("__classdict__":Str))=false:=by decide):PE X (.Name x pos) (aE i):=by
 intro aa s σ H Q I h;obtain⟨v,e,h⟩:=h;obtain⟨m,b,d⟩:=I.loc;obtain⟨u,r,l⟩:=d i x v f e g;have fin:EP X aa σ Q u s:=⟨v,H,I,r,h⟩;rcases l with ⟨hk,hm⟩|⟨hk,c,hc,a⟩
 ·exact wpAny_Name (wpAny_loadName_local I.ok.kind hk b hm fin) hd
 ·rcases hk with hk|hk
  ·exact wpAny_Name (wpAny_loadName_cell I.ok.kind hk hc a fin) hd
  ·exact wpAny_Name (wpAny_loadName_free I.ok.kind hk hc a fin j) hd
def zf{i j pos}:PE X (.Constant (.int i) j pos) (tC (.int i)):=fun _ _ _ H _ I h=>wpAny_Constant_int ⟨.int i,H,I.tok _,⟨_,rfl⟩,h⟩
def dG{b j pos}:PE X (.Constant (.bool b) j pos) (tC (.bl b)):=fun _ _ _ H _ I h=>Constant_bool ⟨.bl b,H,I,rfl,h⟩
def G7{j pos}:PE X (.Constant .none j pos) (tC .non):=fun _ _ _ H _ I h=>Constant_none ⟨.non,H,I,rfl,h⟩
def pe_str{x j pos}:PE X (.Constant (.str x) j pos) (tC (.str x)):=fun _ _ _ H _ I h=>Calls.Constant_str ⟨.str x,H,I.tok _,⟨_,rfl⟩,h⟩
def Gl(X:Cx)(x:Str):Prop:=X.env.kindOf x=some .globalImplicit
def lG{E:Ω}{aa:Ψ}{s:Shared}{σ:St}{H:Hp}{x:Str}{u:Value}{pos:Pos}{Q:Ω}(I:Inv X aa σ H s)(a:Gl X x)(hm:X.mg x=some u)(h:Q u s)(hd:(x==("__debug__":Str))=false:=by decide):wpAny (model X.prog X.w) X.A (eval (.Name x pos) X.env) Q E s:=
 Calls.Name_function_global I.ok.kind a (Calls.loadGlobal_global (by rw[I.ok.glob];exact I.mod.glob.keeps I.bk) hm h) hd
def iM{E:Ω}{aa:Ψ}{s:Shared}{σ:St}{H:Hp}{x:Str}{u:Value}{pos:Pos}{Q:Ω}(I:Inv X aa σ H s)(a:Gl X x)(hm:X.mg x=none)(b:AU x=some u)(h:Q u s)(c:x≠"__name__":=by decide)(hd:(x==("__debug__":Str))=false:=by decide):wpAny (model X.prog X.w) X.A (eval (.Name x pos) X.env) Q E s:=by
 obtain⟨d,h1,h2⟩:=I.mod.blt;exact Calls.Name_function_global I.ok.kind a (Calls.loadGlobal_builtin (by rw[I.ok.glob];exact I.mod.glob.keeps I.bk) hm (by rw[I.ok.blt];exact h1.keeps I.bk) ((h2 x c).trans b) h) hd
def km{x:Str}{v:V}{u:Value}{pos:Pos}(a:Gl X x)(hm:X.mg x=some u)(r:RelV v u)(hd:(x==("__debug__":Str))=false:=by decide):PE X (.Name x pos) (tC v):=
 fun _ _ _ H _ I h=>lG I a hm ⟨v,H,I,r,h⟩ hd
def pE{x:Str}{v:V}{u:Value}{pos:Pos}(a:Gl X x)(hm:X.mg x=none)(b:AU x=some u)(r:RelV v u)(c:x≠"__name__":=by decide)(hd:(x==("__debug__":Str))=false:=by decide):PE X (.Name x pos) (tC v):=
 fun _ _ _ H _ I h=>iM I a hm b ⟨v,H,I,r,h⟩ c hd
variable{a b:Expr}{ta tb:TE}{pos:Pos}
def tB(t:TE):TT:=fun σ H Q=>t σ H fun x H1=>∃c,x=.bl c/\Q c H1
def fN{e:Expr}{t:TE}(h:PE X e t)(he:∀a,isTrue e X.env a=(do let v <-a;standAt e.pos;holding [v] (truthy v)):=by intro _;rfl):PT X e (tB t):=by
 intro aa s σ H Q I hw;refine isTrue_plain (aD (h aa s σ H _ I hw) fun v g ⟨x,H1,f,b,c⟩=>?_) (he _);obtain⟨d,rfl,q⟩:=c;cases b;exact wpAny_truthy_bool ⟨H1,f,q⟩
variable{tA kX:TT}{rest:List Expr}
def sW(t u:TT):TT:=fun σ H Q=>t σ H fun c H1=>if c=true then u σ H1 Q else Q false H1
def G8(t u:TT):TT:=fun σ H Q=>t σ H fun c H1=>if c=true then Q true H1 else u σ H1 Q
def s_(t:TT):TT:=fun σ H Q=>t σ H fun c H1=>Q (!c) H1
def ti(b:PT X a tA):PW X (.BoolOp .And [a] pos) tA:=by
 intro d aa s σ H Q I h;refine isTrue_and (aD (b aa s σ H Q I h) fun c f e=>?_);cases c with
 |true=>exact isTrue_and_nil e
 |false=>exact e
def pG(b:PT X a tA):PW X (.BoolOp .Or [a] pos) tA:=by
 intro d aa s σ H Q I h;refine isTrue_or (aD (b aa s σ H Q I h) fun c f e=>?_);cases c with
 |false=>exact isTrue_or_nil e
 |true=>exact e
def tj(i:PT X a tA)(hb:PW X (.BoolOp .And (b::rest) pos) kX):PW X (.BoolOp .And (a::b::rest) pos) (sW tA kX):=by
 intro f aa s σ H Q I h;refine isTrue_and (aD (i aa s σ H _ I h) fun c g ⟨H1,e,d⟩=>?_);cases c with
 |true=>exact hb f aa g σ H1 Q e d
 |false=>exact⟨H1,e,d⟩
def pH(i:PT X a tA)(hb:PW X (.BoolOp .Or (b::rest) pos) kX):PW X (.BoolOp .Or (a::b::rest) pos) (G8 tA kX):=by
 intro f aa s σ H Q I h;refine isTrue_or (aD (i aa s σ H _ I h) fun c g ⟨H1,e,d⟩=>?_);cases c with
 |true=>exact⟨H1,e,d⟩
 |false=>exact hb f aa g σ H1 Q e d
def fL(b:PT X a tA):PT X (.UnaryOp .Not a pos) (s_ tA):=by
 intro aa s σ H Q I h;exact isTrue_not (b aa s σ H (fun c H1=>Q (!c) H1) I h)
def G9(ta tb:TE):TE:=fun σ H Q=>ta σ H fun x H1=>∃c,x=.bl c/\if c=true then tb σ H1 Q else Q (.bl false) H1
def G_(ta:TE):TE:=fun σ H Q=>ta σ H fun x H1=>∃c,x=.bl c/\Q (.bl (!c)) H1
def G'{op}{t:TE}(h:PE X a t):PE X (.BoolOp op [a] pos) t:=fun aa s σ H Q I hw=>BoolOp_one (h aa s σ H Q I hw)
def Ha(i:PE X a ta)(hb:PE X (.BoolOp .And (b::rest) pos) tb):PE X (.BoolOp .And (a::b::rest) pos) (G9 ta tb):=by
 intro aa s σ H Q I h;refine BoolOp_and (aD (i aa s σ H _ I h) fun v f ⟨x,H1,e,g,d⟩=>?_);obtain⟨c,rfl,d⟩:=d;cases g;refine wpAny_truthy_bool ?_;cases c with
 |true=>exact hb aa f σ H1 Q e d
 |false=>exact⟨.bl false,H1,e,rfl,d⟩
def Hb(e:PE X a ta):PE X (.UnaryOp .Not a pos) (G_ ta):=by
 intro aa s σ H Q I h;refine UnaryOp_ (aD (e aa s σ H _ I h) fun v g ⟨x,H1,f,d,b⟩=>?_);obtain⟨c,rfl,b⟩:=b;cases d;exact not_of (wpAny_truthy_bool ⟨.bl (!c),H1,f,rfl,b⟩)
def Hc(t:TT)(ta tb:TE):TE:=fun σ H Q=>t σ H fun c H1=>if c=true then ta σ H1 Q else tb σ H1 Q
def tu{c:Expr}(hc:PT X c tA)(i:PE X a ta)(hb:PE X b tb):PE X (.IfExp c a b pos) (Hc tA ta tb):=by
 intro aa s σ H Q I h;refine wpAny_IfExp (aD (hc aa s σ H _ I h) fun d e ⟨H1,g,f⟩=>?_);cases d with
 |true=>exact i aa e σ H1 Q g f
 |false=>exact hb aa e σ H1 Q g f
end
def SqL(K:Ad)(H:Hp)(a:Addr)(xs:List V):Prop:=
 Rd H a (.lst xs) \/
  ∃(o:Obj)(b:Array Value)(n:Nat),K.lookup a=some o/\o.cls=.type "list"/\o.dict=none/\o.data=.seq b n/\b.size<=sizeLine/\Vals xs b.toList
def SqT(K:Ad)(H:Hp)(a:Addr)(xs:List V):Prop:=
 Rd H a (.tup xs) \/
  ∃(o:Obj)(b:Array Value)(n:Nat),K.lookup a=some o/\o.cls=.type "tuple"/\o.data=.seq b n/\b.size<=sizeLine/\Vals xs b.toList
def tz:Value->Option V
 |.none=>some .non
 |.bool b=>some (.bl b)
 |.int i _=>some (.int i)
 |.str x _=>some (.str x)
 |.bytes b _=>some (.byt b)
 |.float b _=>some (.flt b)
 |.ref a=>some (.ref a)
 |.type n=>some (.ty n)
 |_=>none
def RelV.abs{x:V}{u:Value}(r:RelV x u):tz u=some x:=by
 cases x with
 |non=>cases r;rfl
 |bl _=>cases r;rfl
 |int _=>obtain⟨t,rfl⟩:=r;rfl
 |str _=>obtain⟨t,rfl⟩:=r;rfl
 |byt _=>obtain⟨t,rfl⟩:=r;rfl
 |flt _=>obtain⟨t,rfl⟩:=r;rfl
 |ref _=>cases r;rfl
 |ty _=>cases r;rfl
def RelV.inj{x y:V}{u:Value}(r:RelV x u)(q:RelV y u):x=y:=An (r.abs.symm.trans q.abs)
def Vals.inj{xs ys:List V}{us:List Value}(h:Vals xs us)(g:Vals ys us):xs=ys:=by
 induction h generalizing ys with
 |nil=>cases g;rfl
 |cons r t ih=>cases g with|cons r' t'=>rw[r.inj r',ih t']
section
variable{X:Cx}{aa:Ψ}{σ:St}{H:Hp}{s:Shared}{a:Addr}{xs ys:List V}
def SqL.of{K:Ad}(h:H a=some (.lst xs)):SqL K H a xs:=.inl (.inl h)
def SqT.of{K:Ad}(h:H a=some (.tup xs)):SqT K H a xs:=.inl (.inl h)
def Inv.list(I:Inv X aa σ H s)(h:SqL X.K H a xs):∃b:List Value,Vals xs b/\PlainL s.heap a b.toArray/\xs.length<=sizeLine:=by
 rcases h with h|⟨o,b,n,hk,hc,hd,hs,c,r⟩
 ·obtain⟨z,b,n,r,e⟩:=h.ok I.hok
  exact⟨b,r,⟨_,n,e,rfl,rfl,rfl⟩,z⟩
 ·refine⟨b.toList,r,⟨o,n,I.kIn a o hk,hc,hd,by simpa using hs⟩,?_⟩
  have e:=r.length;simp only[Ay] at e;omega
def Inv.tuple(I:Inv X aa σ H s)(h:SqT X.K H a xs):∃b:List Value,Vals xs b/\IsTup s.heap a b.toArray/\xs.length<=sizeLine:=by
 rcases h with h|⟨o,b,n,hk,hc,hs,c,r⟩
 ·obtain⟨z,b,r,p⟩:=h.ok I.hok
  exact⟨b,r,p,z⟩
 ·refine⟨b.toList,r,⟨o,I.kIn a o hk,hc,n,by simpa using hs⟩,?_⟩
  have e:=r.length;simp only[Ay] at e;omega
def Inv.list_inj(I:Inv X aa σ H s)(h:SqL X.K H a xs)(h':SqL X.K H a ys):xs=ys:=by
 obtain⟨c,r,⟨o,n,e,_,_,d⟩,_⟩:=I.list h;obtain⟨its',f,⟨o',g,b,_,_,d'⟩,_⟩:=I.list h';rw[e] at b;cases b;rw[d] at d';injection d' with d1 _
 have:c=its':=by simpa using congrArg Array.toList d1
 subst this;exact r.inj f
def Inv.tuple_inj(I:Inv X aa σ H s)(h:SqT X.K H a xs)(h':SqT X.K H a ys):xs=ys:=by
 obtain⟨c,r,⟨o,e,_,n,d⟩,_⟩:=I.tuple h;obtain⟨its',f,⟨o',b,_,g,d'⟩,_⟩:=I.tuple h';rw[e] at b;cases b;rw[d] at d';injection d' with d1 _
 have:c=its':=by simpa using congrArg Array.toList d1
 subst this;exact r.inj f
end
abbrev Cx.wish(X:Cx)(E:Ω):Cx:={X with xe:=E}
abbrev Cx.nox(X:Cx):Cx:=X.wish fun _ _=>False
def Cx.Ok.wish{X:Cx}(ok:X.Ok)(E:Ω):(X.wish E).Ok:=
 ⟨ok.mod,ok.kind,ok.glob,ok.blt,ok.above,ok.inj,ok.has,ok.cab,ok.hd,ok.frames,ok.stk,ok.exf,ok.bs,ok.bsz,ok.noex,ok.exfs,ok.funs,ok.frf⟩
def Cx.Ok.unwish{X:Cx}{E:Ω}(ok:(X.wish E).Ok):X.Ok:=
 ⟨ok.mod,ok.kind,ok.glob,ok.blt,ok.above,ok.inj,ok.has,ok.cab,ok.hd,ok.frames,ok.stk,ok.exf,ok.bs,ok.bsz,ok.noex,ok.exfs,ok.funs,ok.frf⟩
section
variable{X:Cx}{aa:Ψ}{σ:St}{H:Hp}{s:Shared}{E:Ω}
def Inv.wish(I:Inv X aa σ H s)(E:Ω):Inv (X.wish E) aa σ H s:=⟨I.ok.wish E,I.os,I.bare,I.base,I.loc,I.cell,I.free,I.freeC,I.pin,I.hok,I.len⟩
def Inv.unwish(I:Inv (X.wish E) aa σ H s):Inv X aa σ H s:=⟨I.ok.unwish,I.os,I.bare,I.base,I.loc,I.cell,I.free,I.freeC,I.pin,I.hok,I.len⟩
def SP.unwish{D:Ends}{f:Flow}{s':Shared}(h:SP (X.wish E) aa D f s'):SP X aa D f s':=by
 cases f with
 |next=>obtain⟨a,H',I,q⟩:=h;exact⟨a,H',I.unwish,q⟩
 |brk=>obtain⟨a,H',I,q⟩:=h;exact⟨a,H',I.unwish,q⟩
 |cont=>obtain⟨a,H',I,q⟩:=h;exact⟨a,H',I.unwish,q⟩
 |ret u=>obtain⟨v,a,H',I,r,q⟩:=h;exact⟨v,a,H',I.unwish,r,q⟩
def PSs.nox{st:List Stmt}{t:TS}(h:PSs X.nox st t):PSs X st t:=fun aa s σ H D I hw=>
 wpAny_mono (h aa s σ H D (I.wish _) hw) (fun _ _ q=>q.unwish) fun _ _ z=>False.elim z
end
section
variable{X:Cx}{st:Stmt}{rest:List Stmt}{t u:TS}{e:Expr}{te:TE}{pos:Pos}
def Hd:TS:=fun D σ H=>D.nx σ H
def lJ(t u:TS):TS:=fun D σ H=>t {D with nx:=u D} σ H
def zv:PSs X [] Hd:=fun _ _ σ H _ I h=>wpAny_execs_nil ⟨σ,H,I,h⟩
def zd(h1:PS X st t)(h2:PSs X rest u):PSs X (st::rest) (lJ t u):=by
 intro aa s σ H D I h;refine wpAny_execs_cons (aD (h1 aa s σ H {D with nx:=u D} I h) fun f a q=>?_);cases f with
 |next=>
  obtain⟨b,H',c,q⟩:=q;exact h2 aa a b H' D c q
 |ret v=>exact q
 |brk=>exact q
 |cont=>exact q
def zi(h1:PS X st t):PSs X [st] t:=by
 intro aa s σ H D I h;refine wpAny_execs_cons (aD (h1 aa s σ H D I h) fun f a q=>?_);cases f with
 |next=>exact wpAny_execs_nil q
 |ret v=>exact q
 |brk=>exact q
 |cont=>exact q
def Inv.quiet{aa:Ψ}{σ:St}{H:Hp}{s:Shared}(I:Inv X aa σ H s):interactive X.env=false:=by simp[interactive,I.ok.kind]
def He(te:TE):TS:=fun D σ H=>te σ H fun _ H1=>D.nx σ H1
def fO(he:PE X e te)(hs:swapsWith e none pos.line X.env=pure false:=by rfl):PS X (.Expr e pos) (He te):=by
 intro aa s σ H D I h;exact wpAny_Expr_any (aD (he aa s σ H _ I h) fun v c ⟨x,H1,b,d,a⟩=>⟨σ,H1,b,a⟩) I.quiet hs
def tD(te:TE):TS:=fun D σ H=>te σ H D.rt
def zt(he:PE X e te):PS X (.Return (some e) pos) (tD te):=by
 intro aa s σ H D I h;exact wpAny_Return_some (aD (he aa s σ H _ I h) fun v d ⟨x,H1,c,a,b⟩=>⟨x,σ,H1,c,a,b⟩)
def tG(c:TT)(t u:TS):TS:=fun D σ H=>c σ H fun b H1=>if b=true then t D σ H1 else u D σ H1
def zR{c:Expr}{a b:List Stmt}{tc:TT}(hc:PT X c tc)(i:PSs X a t)(hb:PSs X b u):PS X (.If c a b pos) (tG tc t u):=by
 intro aa s σ H D I h;refine wpAny_If (aD (hc aa s σ H _ I h) fun d e ⟨H1,g,f⟩=>?_);cases d with
 |true=>exact i aa e σ H1 D g f
 |false=>exact hb aa e σ H1 D g f
def Hf:TS:=fun _ _ _=>False
def tH{a:List Stmt}:PSs X a Hf:=fun _ _ _ _ _ _ h=>h.elim
end
abbrev TG:=V->St->Hp->(St->Hp->Prop)->Prop
abbrev js:=List V->St->Hp->(St->Hp->Prop)->Prop
def PG(X:Cx)(b:Expr)(t:TG):Prop:=
 ∀(aa:Ψ)(s:Shared)(σ:St)(H:Hp)(v:V)(u:Value)(Q:St->Hp->Prop),Inv X aa σ H s->RelV v u->t v σ H Q->
  wpAny (model X.prog X.w) X.A (assign b X.env u) (fun _ s'=>∃a H',Inv X aa a H' s'/\Q a H') X.xe s
def pK(X:Cx)(ts:List Expr)(t:js):Prop:=
 ∀(aa:Ψ)(s:Shared)(σ:St)(H:Hp)(vs:List V)(us:List Value)(Q:St->Hp->Prop),Inv X aa σ H s->Vals vs us->t vs σ H Q->
  wpAny (model X.prog X.w) X.A (assignInOrder ((assignEach ts X.env).map (·.2)) us) (fun _ s'=>∃a H',Inv X aa a H' s'/\Q a H') X.xe s
abbrev jv:=V->V->V->Hp->(Hp->Prop)->Prop
def lL(X:Cx)(t:jv):Prop:=
 ∀(aa:Ψ)(s:Shared)(σ:St)(H:Hp)(o i v:V)(a iv u:Value)(Q:Hp->Prop),Inv X aa σ H s->RelV o a->RelV i iv->RelV v u->t o i v H Q->
  wpAny (model X.prog X.w) X.A (setItem a iv u) (fun _ s'=>∃H',Inv X aa σ H' s'/\Q H') X.xe s
section
variable{X:Cx}{pos:Pos}
def cQ(i:Nat):TG:=fun v σ H Q=>Q (σ.set i (some v)) H
def zn{i:Nat}{x:Str}(a:X.N.Nodup)(hi:X.N[i]?=some x)(hx:Loc X.env.scope x)(hf:X.fn x=true\/X.env.scope.names.lookup x=some .local:=by first|exact .inl rfl|exact .inr rfl|assumption):PG X (.Name x pos) (cQ i):=by
 intro aa s σ H v u Q I r h;exact wpAny_assign_Name (pD I a hi hx r (fun s' b=>⟨_,H,b,h⟩) hf)
def jx:js:=fun vs σ H Q=>vs=[]/\Q σ H
def lQ(t:TG)(u:js):js:=fun vs σ H Q=>∃v r,vs=v::r/\t v σ H fun a H'=>u r a H' Q
def kq:pK X [] jx:=by
 intro aa s σ H vs us Q I r h;obtain⟨e,h⟩:=h;subst e;cases r;exact assignInOrder_nil ⟨σ,H,I,h⟩
def zT{e:Expr}{es:List Expr}{t:TG}{u:js}(h1:PG X e t)(h2:pK X es u)(hs:(assignEach (e::es) X.env).map (·.2)=assign e X.env::(assignEach es X.env).map (·.2):=by rfl):pK X (e::es) (lQ t u):=by
 intro aa s σ H vs us Q I r h;obtain⟨v,f,e1,h⟩:=h;subst e1;cases r with
 |cons r rr=>
  rw[hs];refine assignInOrder_cons (aD (h1 aa s σ H _ _ _ I r h) fun _ a ⟨b,H1,d,c⟩=>?_);exact h2 aa a b H1 _ _ Q d rr c
def jy(K:Ad)(n:Nat)(t:js):TG:=fun v σ H Q=>∃a xs,v=.ref a/\SqT K H a xs/\xs.length=n/\t xs σ H Q
def kr{es:List Expr}{k:Nat}{t:js}{n:Nat}(hc:X.calm=true)(h:pK X es t)(i:(assignEach es X.env).length=n:=by rfl)(c:(assignEach es X.env).findIdx? (·.1)=none:=by rfl):PG X (.Tuple es k pos) (jy X.K n t):=by
 intro aa s σ H v u Q I r hw;obtain⟨a,xs,e1,hq,f,hw⟩:=hw;subst e1;cases r;obtain⟨l,d,g,p⟩:=I.tuple hq;refine assign_Tuple_tuple (I.ok.hd hc) g (by simp[i,<-f,d.length]) c fun h' hx=>?_;have j:Inv X aa σ H {s with heap:=h'}:=I.kept (t':=s.toks) fun b o e=>hx b o (Aq (Al e)) e;exact h aa _ σ H xs _ Q j (by simpa using d) hw
def tL(to a:TE)(t:jv):TG:=fun v σ H Q=>to σ H fun o H1=>a σ H1 fun i H2=>t o i v H2 fun b=>Q σ b
def CC{o i:Expr}{to b:TE}{t:jv}(p:PE X o to)(hi:PE X i b)(hs:lL X t)(q:∀v,assign (.Subscript o i pos) X.env v=(do
   let a <-holding [v] (eval o X.env)
   let iv <-holding [v,a] (eval i X.env)
   standAt pos
   holding [v,a,iv] (setItem a iv v)
   release [v,a,iv] []):=by intro _;rfl):PG X (.Subscript o i pos) (tL to b t):=by
 intro aa s σ H v u Q I r h;rw[q];refine Aa (AA (aD (p aa s σ H _ I h) fun a c ⟨x,H1,w,d,e⟩=>?_));refine Aa (AA (aD (hi aa c σ H1 _ w e) fun iv f ⟨y,H2,z,g,j⟩=>?_));refine Aa (wpAny_standAt (Aa (AA (aD (hs aa f σ H2 x y v a iv u _ z d g r j) fun _ D ⟨A,C,l⟩=>?_))));exact wpAny_release ⟨σ,A,C,l⟩
def ia(te:TE)(g:TG):TS:=fun D σ H=>te σ H fun x H1=>g x σ H1 D.nx
def lS{tg e:Expr}{te:TE}{g:TG}(he:PE X e te)(d:PG X tg g)(hs:swapsWithSole [tg] e pos.line X.env=pure false:=by rfl)(hw:swappedStores [tg] e X.env=pure none:=by rfl)(h1:(assignEach [tg] X.env).map (·.2)=[assign tg X.env]:=by rfl):PS X (.Assign [tg] e pos) (ia te g):=by
 intro aa s σ H D I h;refine wpAny_Assign_stores (aD (he aa s σ H _ I h) fun v a ⟨x,H1,f,b,c⟩=>?_) hs hw;rw[h1];exact aD (d aa a σ H1 x v _ f b c) fun _ i q=>q
def zr{i:Nat}{x:Str}{e:Expr}{te:TE}{a9:Pos}(c:X.N.Nodup)(hi:X.N[i]?=some x)(hx:Loc X.env.scope x)(he:PE X e te)(hs:swapsWith e (some (.Name x a9)) pos.line X.env=pure false:=by rfl)(hf:X.fn x=true\/X.env.scope.names.lookup x=some .local:=by first|exact .inl rfl|exact .inr rfl|assumption):PS X (.Assign [.Name x a9] e pos) (ia te (cQ i)):=by
 intro aa s σ H D I h;refine wpAny_Assign_Name (aD (he aa s σ H _ I h) fun v g ⟨y,H1,d,a,b⟩=>?_) hs;exact pD d c hi hx a (fun j f=>⟨_,H1,f,b⟩) hf
end
structure It where
 go:Nat->Hp->Prop
 yld:Nat->Hp->V->Hp->Prop
 stop:Nat->Hp->Prop
def bh(X:Cx)(aa:Ψ)(H:Hp)(b:Addr):Prop:=
 H b=none/\b≠X.env.locals/\b∉X.fs/\(b∈X.ex\/X.s₀⁻¹<=b)/\(∀x c,X.env.cells.lookup x=some c->c≠b)/\∀p∈X.pn++aa,p.1≠b
def Inv.fpOk{X:Cx}{aa:Ψ}{σ:St}{H H':Hp}{s:Shared}{b:Addr}(I:Inv X aa σ H s)(hb:s⁻¹<=b)(a:H' b=none):bh X aa H' b:=by
 refine⟨a,Nat.ne_of_gt (AB I.lt hb),I.nofs hb,.inr (AQ I.sz hb),fun x c e z=>?_,fun p hp z=>?_⟩
 ·obtain⟨v,q⟩:=I.cell x c e
  exact absurd (AB q.lt (by rw[z];exact hb)) (Nat.lt_irrefl _)
 ·exact absurd (AB (Al (I.pin p hp).1) (by rw[z];exact hb)) (Nat.lt_irrefl _)
structure Turn(P:Program)(w:World)(K:Ad)(tg:Expr)(J:It)(fp:List Addr)(it:Addr)(tn:Nat->Heap->Prop):Prop where
 mem:it∈fp
 obj:∀i h,tn i h->∀b∈fp,∃o,h.get? b=some o/\∀v,o.data≠.cell v
 keep:∀i h h',tn i h->(∀b∈fp,∀o,h.get? b=some o->h'.get? b=some o)->tn i h'
 item:∀(X:Cx),X.prog=P->X.w=w->X.K=K->X.calm=true->∀(i:Nat)(aa:Ψ)(s:Shared)(σ:St)(H:Hp)(E:Ω),Inv X aa σ H s->(∀b∈fp,bh X aa H b)->tn i s.heap->J.go i H->
  wpAny (model P w) X.A (pyNext (.ref it)) (fun r s1=>∃u,r=some u/\
   wpAny (model P w) X.A (letOwnedTupleGo tg (.ref it) u) (fun _ s2=>∃x H',Inv X aa σ H' s2/\RelV x u/\J.yld i H x H'/\tn (i+1) s2.heap/\∀b∈fp,H' b=none) E s1) E s
 done:∀(X:Cx),X.prog=P->X.w=w->X.K=K->X.calm=true->∀(i:Nat)(aa:Ψ)(s:Shared)(σ:St)(H:Hp)(E:Ω),Inv X aa σ H s->(∀b∈fp,bh X aa H b)->tn i s.heap->J.stop i H->
  wpAny (model P w) X.A (pyNext (.ref it)) (fun r s1=>r=none/\Inv X aa σ H s1) E s
 self:∀(A:Around)(i:Nat)(s:Shared)(Q:Ω)(E:Ω),tn i s.heap->Q (.ref it) s->wpAny (model P w) A (pyIter (.ref it)) Q E s
abbrev TI:=St->Hp->(It->Hp->Prop)->Prop
def pL(X:Cx)(aa:Ψ)(σ:St)(tg:Expr)(R:It->Hp->Prop)(d:Value)(a:Shared):Prop:=
 ∃(it:Addr)(fp:List Addr)(c:Nat->Heap->Prop)(J:It)(H':Hp),d=.ref it/\Inv X aa σ H' a/\Turn X.prog X.w X.K tg J fp it c/\c 0 a.heap/\(∀b∈fp,bh X aa H' b)/\R J H'
def PI(X:Cx)(tg iter:Expr)(wi:TI):Prop:=
 ∀(aa:Ψ)(s:Shared)(σ:St)(H:Hp)(R:It->Hp->Prop),Inv X aa σ H s->wi σ H R->
  wpAny (model X.prog X.w) X.A (eval iter X.env) (fun v a=>wpAny (model X.prog X.w) X.A (pyIter v) (pL X aa σ tg R) X.xe a) X.xe s
def iN{M:Model}{A:Around}{E:Ω}{s:Shared}{tg:Expr}{it:Addr}{u:Value}{o:Obj}{n:String}{vs:Array Value}{Q:Unit->Shared->Prop}(b:s.heap.get? it=some o)(hc:o.cls=.type n)(hd:o.data=.fields vs)(c:["enumerate","zip","dict_itemiterator","dict_reverseitemiterator","odict_iterator","itertools.zip_longest","itertools.pairwise"].contains n=false)(a:Q () s):wpAny M A (letOwnedTupleGo tg (.ref it) u) Q E s:=by
 unfold letOwnedTupleGo;cases tg<;>first
  |exact Ac a
  |(cases u<;>first
    |exact Ac a
    |(refine Aa (wpAny_load b ?_);rw[hc,hd];show wpAny M A (if(["enumerate","zip","dict_itemiterator","dict_reverseitemiterator","odict_iterator","itertools.zip_longest","itertools.pairwise"].contains n&&vs[0]?==some (rawInt _))=true then _ else _) Q E s;rw[if_neg (by intro h;rw[c,Bool.false_and] at h;cases h)];exact Ac a))
def dH(K:Ad)(a:Addr):It:=
 ⟨fun i H=>∃xs x,SqL K H a xs/\xs[i]?=some x,fun i H x H'=>H'=H/\∀xs,SqL K H a xs->xs[i]?=some x,fun i H=>∃xs,SqL K H a xs/\xs.length<=i⟩
def iO(K:Ad)(a:Addr):It:=
 ⟨fun i H=>∃xs x,SqT K H a xs/\xs[i]?=some x,fun i H x H'=>H'=H/\∀xs,SqT K H a xs->xs[i]?=some x,fun i H=>∃xs,SqT K H a xs/\xs.length<=i⟩
def kt(lo:Int)(n:Nat):It:=⟨fun i _=>i<n,fun i H x H'=>H'=H/\x=.int (lo+i),fun i _=>n<=i⟩
def Hg{P:Program}{w:World}{K:Ad}{tg:Expr}(a it:Addr):Turn P w K tg (dH K a) [it] it (fun i h=>h.IsListIter it a i) where
 mem:=by simp
 obj:=fun i h st b hb=>by
  have e:b=it:=by simpa using hb
  subst e;obtain⟨o,e,c,d⟩:=st;exact⟨o,e,fun v z=>by rw[d] at z;cases z⟩
 keep:=fun i h h' st k=>st.at fun o e=>k it (by simp) o e
 item:=by
  intro X f hw g hc i aa s σ H E I hf st j;subst f hw g;obtain⟨xs,x,hq,hx⟩:=j;obtain⟨A,l,p,C⟩:=I.list hq;obtain⟨u,hu,D⟩:=l.get hx;obtain⟨f0,f1,f2,f3,f4,f5⟩:=hf it (by simp);refine wpAny_pyNext_list_item st p.isList (x:=u) (by simpa using hu) fun h' q r=>?_;have F:Inv X aa σ H {s with heap:=h'}:=I.turned (t':=s.toks) (fun b o hb e=>(r.2 b hb).trans e) f0 f1 f3 f4 f5;obtain⟨o,e,c,d⟩:=id q;exact⟨u,rfl,iN (s:={s with heap:=h'}) e c d ξ ⟨x,H,F,D,⟨rfl,fun ys hy=>by rw[I.list_inj hy hq];exact hx⟩,q,fun b hb=>(hf b hb).1⟩⟩
 done:=by
  intro X f hw g hc i aa s σ H E I hf st j;subst f hw g;obtain⟨xs,hq,hx⟩:=j;obtain⟨A,l,p,C⟩:=I.list hq;obtain⟨f0,f1,f2,f3,f4,f5⟩:=hf it (by simp);have G:=l.length;exact wpAny_pyNext_list_end (I.ok.hd hc) st p.isList (by simp;omega) fun h' y=>⟨rfl,I.turned (t':=s.toks) (fun b o hb e=>y b o hb e) f0 f1 f3 f4 f5⟩
 self:=fun _ _ _ _ _ st h=>wpAny_pyIter_listiter st h
def Hh{P:Program}{w:World}{K:Ad}{tg:Expr}(a it:Addr):Turn P w K tg (iO K a) [it] it (fun i h=>h.IsTupleIter it a i) where
 mem:=by simp
 obj:=fun i h st b hb=>by
  have e:b=it:=by simpa using hb
  subst e;obtain⟨o,e,c,d⟩:=st;exact⟨o,e,fun v z=>by rw[d] at z;cases z⟩
 keep:=fun i h h' st k=>st.at fun o e=>k it (by simp) o e
 item:=by
  intro X f hw g hc i aa s σ H E I hf st j;subst f hw g;obtain⟨xs,x,hq,hx⟩:=j;obtain⟨l,q,p,C⟩:=I.tuple hq;obtain⟨u,hu,D⟩:=q.get hx;obtain⟨f0,f1,f2,f3,f4,f5⟩:=hf it (by simp);refine wpAny_pyNext_tuple_item st (show s.heap.IsTuple a l.toArray from p) (x:=u) (by simpa using hu) fun h' r y=>?_;have F:Inv X aa σ H {s with heap:=h'}:=I.turned (t':=s.toks) (fun b o hb e=>(y.2 b hb).trans e) f0 f1 f3 f4 f5;obtain⟨o,e,c,d⟩:=id r;exact⟨u,rfl,iN (s:={s with heap:=h'}) e c d ξ ⟨x,H,F,D,⟨rfl,fun ys hy=>by rw[I.tuple_inj hy hq];exact hx⟩,r,fun b hb=>(hf b hb).1⟩⟩
 done:=by
  intro X f hw g hc i aa s σ H E I hf st j;subst f hw g;obtain⟨xs,hq,hx⟩:=j;obtain⟨l,q,p,C⟩:=I.tuple hq;obtain⟨f0,f1,f2,f3,f4,f5⟩:=hf it (by simp);have G:=q.length;exact wpAny_pyNext_tuple_end (I.ok.hd hc) st (show s.heap.IsTuple a l.toArray from p) (by simp;omega) fun h' A=>⟨rfl,I.turned (t':=s.toks) (fun b o hb e=>A b o hb e) f0 f1 f3 f4 f5⟩
 self:=fun _ _ _ _ _ st h=>wpAny_pyIter_tupleiter st h
def Hi{P:Program}{w:World}{K:Ad}{tg:Expr}(it:Addr)(lo:Int)(n:Nat):Turn P w K tg (kt lo n) [it] it (fun i h=>IsRangeIter h it (lo+(i:Nat)*1) ((n:Int)-(i:Nat)) 1) where
 mem:=by simp
 obj:=fun i h st b hb=>by
  have e:b=it:=by simpa using hb
  subst e;exact⟨_,st,fun v z=>by
   have p:Data.fields _=Data.cell v:=z;cases p⟩
 keep:=fun i h h' st k=>k it (by simp) _ st
 item:=by
  intro X a hw c hc i aa s σ H E I hf st d;subst a hw c;obtain⟨f0,f1,f2,f3,f4,f5⟩:=hf it (by simp);have W:=Walks.range (prog:=X.prog) (w:=X.w) (I.ok.hd hc) it lo 1 n;refine W.item i s _ _ d st fun v h' tk g f j=>?_;obtain⟨t,rfl⟩:=g;have q:Inv X aa σ H {s with heap:=h',toks:=tk}:=I.turned (fun b o hb e=>j b o (by simpa using hb) e) f0 f1 f3 f4 f5;refine⟨_,rfl,iN (s:={s with heap:=h',toks:=tk}) (n:="range_iterator") f rfl rfl ξ ⟨.int (lo+i),H,q,⟨t,?_⟩,⟨rfl,rfl⟩,f,fun b hb=>(hf b hb).1⟩⟩;rw[Int.mul_one]
 done:=by
  intro X a hw c hc i aa s σ H E I hf st d;subst a hw c;obtain⟨f0,f1,f2,f3,f4,f5⟩:=hf it (by simp);exact wpAny_pyNext_range_end (I.ok.hd hc) st (by have:n<=i:=d;omega) fun h' l=>⟨rfl,I.turned (t':=s.toks) (fun b o hb e=>l b o hb e) f0 f1 f3 f4 f5⟩
 self:=fun _ _ _ _ _ st h=>wpAny_pyIter_rangeiter st h
section
variable{X:Cx}{tg:Expr}
def Hj(K:Ad)(tl:TE):TI:=fun σ H R=>tl σ H fun x H1=>∃a,x=.ref a/\(∃xs,SqL K H1 a xs)/\R (dH K a) H1
def t4(K:Ad)(tl:TE):TI:=fun σ H R=>tl σ H fun x H1=>∃a,x=.ref a/\(∃xs,SqT K H1 a xs)/\R (iO K a) H1
def zA{l:Expr}{tl:TE}(g:PE X l tl):PI X tg l (Hj X.K tl):=by
 intro aa s σ H R I h;refine aD (g aa s σ H _ I h) fun v c ⟨x,H1,I1,d,f⟩=>?_;obtain⟨a,e,⟨xs,hq⟩,q⟩:=f;subst e;cases d;obtain⟨i,j,p,r⟩:=I1.list hq;refine wpAny_pyIter_list p.isList ?_;refine⟨c⁻¹,[c⁻¹],_,_,H1,rfl,I1.kept (t':=c.toks) fun b o e=>Ae _ e,Hg a _,⟨_,Ak _ rfl,rfl,rfl⟩,fun b hb=>?_,q⟩;have e:b=c⁻¹:=by simpa using hb
 subst e;exact I1.fpOk (Ag _) (I1.hok.fresh (Ag _))
def lT{l:Expr}{tl:TE}(i:PE X l tl):PI X tg l (t4 X.K tl):=by
 intro aa s σ H R I h;refine aD (i aa s σ H _ I h) fun v c ⟨x,H1,I1,d,f⟩=>?_;obtain⟨a,e,⟨xs,hq⟩,q⟩:=f;subst e;cases d;obtain⟨g,j,p,r⟩:=I1.tuple hq;refine wpAny_pyIter_tuple (show c.heap.IsTuple a g.toArray from p) ?_;refine⟨c⁻¹,[c⁻¹],_,_,H1,rfl,I1.kept (t':=c.toks) fun b o e=>Ae _ e,Hh a _,⟨_,Ak _ rfl,rfl,rfl⟩,fun b hb=>?_,q⟩;have e:b=c⁻¹:=by simpa using hb
 subst e;exact I1.fpOk (Ag _) (I1.hok.fresh (Ag _))
def Hk{aa:Ψ}{σ:St}{H:Hp}{s:Shared}{R:It->Hp->Prop}{E:Ω}{lo hi:Int}{t u v:Tok}{tk:Nat}(I:Inv X aa σ H s)(h1:-(2 ^ 62)<=lo)(h2:lo<2 ^ 62)(a:-(2 ^ 62)<=hi)(c:hi<2 ^ 62)(q:R (kt lo (hi-lo).toNat) H):wpAny (model X.prog X.w) X.A (pyIter (.ref s⁻¹)) (pL X aa σ tg R) E {s with heap:=s.heap.push {cls:=.type "range",data:=.fields #[.int lo t,.int hi u,.int 1 v]},toks:=tk}:=by
 refine wpAny_pyIter_range (IsRange.new ..) (small_one h1 h2 a c) ?_;have I1:Inv X aa σ H {s with heap:=s.heap.push {cls:=.type "range",data:=.fields #[.int lo t,.int hi u,.int 1 v]},toks:=tk}:=I.kept fun b o e=>Ae _ e;refine⟨(s.heap.push {cls:=.type "range",data:=.fields #[.int lo t,.int hi u,.int 1 v]}).objs.size,[(s.heap.push {cls:=.type "range",data:=.fields #[.int lo t,.int hi u,.int 1 v]}).objs.size],_,_,H,rfl,
  I1.kept (t':=tk) fun b o e=>Ae _ e,Hi _ lo (hi-lo).toNat,?_,fun b hb=>?_,q⟩
 ·have e1:lo+((0:Nat):Int)*1=lo:=by simp
  have e2:(((hi-lo).toNat:Nat):Int)-((0:Nat):Int)=Builtin.Range.rangeSize lo hi 1:=by rw[rangeSize_one];split<;>omega
  show IsRangeIter _ _ (lo+((0:Nat):Int)*1) ((((hi-lo).toNat:Nat):Int)-((0:Nat):Int)) 1;rw[e1,e2];exact Ak _ rfl
 ·have e:b=(s.heap.push {cls:=.type "range",data:=.fields #[.int lo t,.int hi u,.int 1 v]}).objs.size:=by simpa using hb
  subst e;exact I1.fpOk (Ag _) (I1.hok.fresh (Ag _))
def Hl(ta:TA):TI:=fun σ H R=>ta σ H fun vs H1=>∃j:Int,vs=[.int j]/\-(2 ^ 62)<=j/\j<2 ^ 62/\R (kt 0 j.toNat) H1
def CD{a:Expr}{ta:TA}{p pos:Pos}(f:Gl X "range")(hm:X.mg "range"=none)(g:PA X [a] ta)(hs:starEach [a] X.env=[(false,eval a X.env)]:=by rfl):PI X tg (.Call (.Name "range" p) [a] [] pos) (Hl ta):=by
 intro aa s σ H R I h;refine Call_ (iM I f hm boot_range (PyProof.Rows.callWith_type1 (aD (g pos aa s σ H _ I h) fun us l ⟨vs,H1,i,c,b⟩=>?_) hs rfl));obtain⟨j,e,b,d,q⟩:=b;subst e;cases c with
 |cons r rr=>
  cases rr;obtain⟨t,rfl⟩:=r;exact call_range_1 (Hk i ω ω b d (by simpa using q))
def up(wi:TI)(g:TG)(tb:TS):TS:=fun D σ H=>wi σ H fun J H1=>∃W:Nat->Nat->St->Hp->Prop,(∃m,W 0 m σ H1)/\∀i m σ H,W i m σ H->
 (J.stop i H/\D.nx σ H)\/(J.go i H/\∃N:St->Hp->Prop,(∀a H',N a H'->∃b,b<m/\W (i+1) b a H')/\∀x H',J.yld i H x H'->g x σ H' fun c H2=>tb {D with nx:=N,ct:=N,bk:=D.nx} c H2)
def lU(fp:List Addr)(h:Heap):Ψ:=fp.filterMap fun b=>(h.get? b).map fun o=>(b,o)
def pS{fp:List Addr}{h:Heap}{b:Addr}{o:Obj}(hb:b∈fp)(e:h.get? b=some o):(b,o)∈lU fp h:=List.mem_filterMap.mpr ⟨b,hb,by rw[e];rfl⟩
def Hm{fp:List Addr}{h:Heap}{p:Addr×Obj}(hp:p∈lU fp h):p.1∈fp/\h.get? p.1=some p.2:=by
 obtain⟨b,hb,e⟩:=List.mem_filterMap.mp hp;cases q:h.get? b with
 |none=>rw[q] at e;cases e
 |some o=>
  rw[q] at e;have a:(b,o)=p:=An e;subst a;exact⟨hb,q⟩
def Inv.pinned{aa:Ψ}{σ:St}{H:Hp}{s:Shared}{fp:List Addr}(I:Inv X aa σ H s)(hf:∀b∈fp,bh X aa H b)(c:∀b∈fp,∃o,s.heap.get? b=some o/\∀v,o.data≠.cell v):Inv X (aa++lU fp s.heap) σ H s:=
 I.pins_of fun p hp=>(List.mem_append.mp hp).elim (fun z=>I.pin p (List.mem_append_right _ z)) fun z=>by
  obtain⟨hb,e⟩:=Hm z;obtain⟨f0,f1,f2,_⟩:=hf p.1 hb;obtain⟨o,a,d⟩:=c p.1 hb;rw[e] at a;cases a;exact⟨e,f0,f1,f2,d⟩
def Inv.unpinned{aa a:Ψ}{σ:St}{H:Hp}{s:Shared}(I:Inv X (aa++a) σ H s):Inv X aa σ H s:=I.pins_of fun p hp=>I.pin p (List.mem_append_right _ (List.mem_append_left _ hp))
def dW{iter:Expr}{body:List Stmt}{wi:TI}{g:TG}{tb:TS}{pos:Pos}(hp:PassesOwn (model X.prog X.w) X.A X.env X.xe)(hc:X.calm=true)(hi:PI X tg iter wi)(hg:PG X tg g)(hb:PSs X body tb)(hs:∀x,foldedSetIterable iter X.env x=pure x:=by intro _;rfl):PS X (.For tg iter body [] pos) (up wi g tb):=by
 intro aa s σ H D I h;refine wpAny_For (aD (hi aa s σ H _ I h) fun v s1 h1=>aD h1 fun oh s2 h2=>?_) hs;obtain⟨it,fp,L,J,H2,e,I2,T,fA,f2,W,⟨m0,w0⟩,turn⟩:=h2;subst e;have c:∀{H':Hp},(∀b∈fp,H' b=none)->∀b∈fp,bh X aa H' b:=fun U b hb=>⟨U b hb,(f2 b hb).2⟩;refine codeAny_forLoop_any (fun n s'=>∃i q H',Inv X aa q H' s'/\L i s'.heap/\(∀b∈fp,H' b=none)/\W i n q H') ?_ m0 ⟨0,σ,H2,I2,fA,fun b hb=>(f2 b hb).1,w0⟩;rintro n M ⟨i,y,z,S,O,P,w3⟩;rcases turn i n y z w3 with ⟨stop,qn⟩|⟨go,N,hN,step⟩
 ·refine wpAny_passesOwn hp (aD (T.done X rfl rfl rfl hc i aa M y z X.xe S (c P) O stop) fun r Y ⟨hr,I4⟩=>?_)
  subst hr;exact wpAny_execs_nil ⟨y,z,I4,qn⟩
 ·refine wpAny_passesOwn hp (aD (T.item X rfl rfl rfl hc i aa M y z X.xe S (c P) O go) fun r Y ⟨u,hr,Z⟩=>?_)
  subst hr;refine wpAny_passesOwn hp (aD Z fun _ G ⟨x,Q,I5,r5,y5,C,E⟩=>?_);have mB:=I5.pinned (c E) (T.obj _ _ C);refine wpAny_passesOwn hp (aD (hg _ G y Q x u _ mB r5 (step x Q y5)) fun _ s6 ⟨jM,H6,I6,q6⟩=>?_);refine wpAny_passesOwn hp (aD (hb _ s6 jM H6 _ I6 q6) fun f F l=>?_);have again:∀{a:St}{j:Hp},Inv X (aa++lU fp G.heap) a j F->N a j->∃m,m<n/\∃i q H',Inv X aa q H' F/\L i F.heap/\(∀b∈fp,H' b=none)/\W i m q H':=fun{a j} I7 p=>by
   obtain⟨m',hm,w7⟩:=hN a j p;refine⟨m',hm,i+1,a,j,I7.unpinned,T.keep _ _ _ C fun b hb o e=>(I7.pin (b,o) (List.mem_append_right _ (List.mem_append_right _ (pS hb e)))).1,fun b hb=>?_,w7⟩;obtain⟨o,e,d⟩:=T.obj _ _ C b hb;exact(I7.pin (b,o) (List.mem_append_right _ (List.mem_append_right _ (pS hb e)))).2.1
  cases f with
  |next=>obtain⟨a,j,I7,p⟩:=l;exact again I7 p
  |cont=>obtain⟨a,j,I7,p⟩:=l;exact again I7 p
  |brk=>obtain⟨a,j,I7,l⟩:=l;exact⟨a,j,I7.unpinned,l⟩
  |ret v=>obtain⟨x7,a,j,I7,r7,l⟩:=l;exact⟨x7,a,j,I7.unpinned,r7,l⟩
end
def gM{K:Ad}{a:Addr}{xs:List V}{g:TG}{tb:TS}{D:Ends}{σ:St}{H:Hp}(b:Nat->St->Hp->Prop)(l:b 0 σ H)(o:∀i σ H,i<=xs.length->b i σ H->SqL K H a xs)(hs:∀i x σ H,xs[i]?=some x->b i σ H->g x σ H fun d H2=>tb {D with nx:=b (i+1),ct:=b (i+1),bk:=D.nx} d H2)(hd:∀σ H,b xs.length σ H->D.nx σ H):∃W:Nat->Nat->St->Hp->Prop,(∃m,W 0 m σ H)/\∀i m σ H,W i m σ H->
   ((dH K a).stop i H/\D.nx σ H)\/((dH K a).go i H/\∃N:St->Hp->Prop,(∀f H',N f H'->∃h,h<m/\W (i+1) h f H')/\∀x H',(dH K a).yld i H x H'->g x σ H' fun d H2=>tb {D with nx:=N,ct:=N,bk:=D.nx} d H2):=by
 refine⟨fun i m σ H=>m=xs.length-i/\i<=xs.length/\b i σ H,⟨xs.length,by simp,AK _,l⟩,?_⟩;rintro i m σ H ⟨rfl,hi,p⟩;have q:=o i σ H hi p
 by_cases c:i<xs.length
 ·refine .inr ⟨⟨xs,xs[i],q,by simp[c]⟩,b (i+1),fun f H' j=>⟨xs.length-(i+1),ω,rfl,c,j⟩,fun x H' y=>?_⟩
  obtain⟨e,y⟩:=y;subst e;exact hs i x σ _ (y xs q) p
 ·have e:i=xs.length:=ω
  subst e;exact .inl ⟨⟨xs,q,Ag _⟩,hd σ H p⟩
def CF{K:Ad}{a:Addr}{xs:List V}{g:TG}{tb:TS}{D:Ends}{σ:St}{H:Hp}(b:Nat->St->Hp->Prop)(l:b 0 σ H)(o:∀i σ H,i<=xs.length->b i σ H->SqT K H a xs)(hs:∀i x σ H,xs[i]?=some x->b i σ H->g x σ H fun d H2=>tb {D with nx:=b (i+1),ct:=b (i+1),bk:=D.nx} d H2)(hd:∀σ H,b xs.length σ H->D.nx σ H):∃W:Nat->Nat->St->Hp->Prop,(∃m,W 0 m σ H)/\∀i m σ H,W i m σ H->
   ((iO K a).stop i H/\D.nx σ H)\/((iO K a).go i H/\∃N:St->Hp->Prop,(∀f H',N f H'->∃h,h<m/\W (i+1) h f H')/\∀x H',(iO K a).yld i H x H'->g x σ H' fun d H2=>tb {D with nx:=N,ct:=N,bk:=D.nx} d H2):=by
 refine⟨fun i m σ H=>m=xs.length-i/\i<=xs.length/\b i σ H,⟨xs.length,by simp,AK _,l⟩,?_⟩;rintro i m σ H ⟨rfl,hi,p⟩;have q:=o i σ H hi p
 by_cases c:i<xs.length
 ·refine .inr ⟨⟨xs,xs[i],q,by simp[c]⟩,b (i+1),fun f H' j=>⟨xs.length-(i+1),ω,rfl,c,j⟩,fun x H' y=>?_⟩
  obtain⟨e,y⟩:=y;subst e;exact hs i x σ _ (y xs q) p
 ·have e:i=xs.length:=ω
  subst e;exact .inl ⟨⟨xs,q,Ag _⟩,hd σ H p⟩
def CG{lo:Int}{n:Nat}{g:TG}{tb:TS}{D:Ends}{σ:St}{H:Hp}(b:Nat->St->Hp->Prop)(j:b 0 σ H)(hs:∀i σ H,i<n->b i σ H->g (.int (lo+i)) σ H fun c H2=>tb {D with nx:=b (i+1),ct:=b (i+1),bk:=D.nx} c H2)(hd:∀σ H,b n σ H->D.nx σ H):∃W:Nat->Nat->St->Hp->Prop,(∃m,W 0 m σ H)/\∀i m σ H,W i m σ H->
   ((kt lo n).stop i H/\D.nx σ H)\/((kt lo n).go i H/\∃N:St->Hp->Prop,(∀d H',N d H'->∃f,f<m/\W (i+1) f d H')/\∀x H',(kt lo n).yld i H x H'->g x σ H' fun c H2=>tb {D with nx:=N,ct:=N,bk:=D.nx} c H2):=by
 refine⟨fun i m σ H=>m=n-i/\i<=n/\b i σ H,⟨n,by simp,AK _,j⟩,?_⟩;rintro i m σ H ⟨rfl,hi,p⟩
 by_cases a:i<n
 ·refine .inr ⟨a,b (i+1),fun d H' h=>⟨n-(i+1),ω,rfl,a,h⟩,fun x H' y=>?_⟩
  obtain⟨e,y⟩:=y;subst e y;exact hs i σ _ a p
 ·have e:i=n:=ω
  subst e;exact .inl ⟨Ag _,hd σ H p⟩
abbrev R2:=V->V->Hp->VK->Prop
def ci(X:Cx)(f:Value->Value->Sem Value)(r:R2):Prop:=
 ∀(aa:Ψ)(s:Shared)(σ:St)(H:Hp)(x y:V)(v u:Value)(Q:VK),Inv X aa σ H s->RelV x v->RelV y u->r x y H Q->
  wpAny (model X.prog X.w) X.A (f v u) (EP X aa σ Q) X.xe s
def ut(X:Cx)(f:Value->Sem Value)(r:V->Hp->VK->Prop):Prop:=
 ∀(aa:Ψ)(s:Shared)(σ:St)(H:Hp)(x:V)(v:Value)(Q:VK),Inv X aa σ H s->RelV x v->r x H Q->
  wpAny (model X.prog X.w) X.A (f v) (EP X aa σ Q) X.xe s
def z0(X:Cx)(f:Value)(r:List V->Hp->VK->Prop):Prop:=
 ∀(aa:Ψ)(s:Shared)(σ:St)(H:Hp)(xs:List V)(us:List Value)(Q:VK),Inv X aa σ H s->Vals xs us->r xs H Q->
  wpAny (model X.prog X.w) X.A (call f us) (EP X aa σ Q) X.xe s
def da(r:R2)(ta tb:TE):TE:=fun σ H Q=>ta σ H fun x H1=>tb σ H1 fun y H2=>r x y H2 Q
def Hn(r:V->Hp->VK->Prop)(ta:TE):TE:=fun σ H Q=>ta σ H fun x H1=>r x H1 Q
def rI(C:Int->Int->Prop)(g:Int->Int->V):R2:=fun x y H Q=>∃i j,x=.int i/\y=.int j/\C i j/\Q (g i j) H
def fP(g:Int->Int->V):R2:=fun x y H Q=>∃i j,x=.int i/\y=.int j/\Q (g i j) H
def rU(g:Int->V):V->Hp->VK->Prop:=fun x H Q=>∃i,x=.int i/\Q (g i) H
section
variable{X:Cx}{a b c:Expr}{ta tb tc:TE}{pos:Pos}
def jC(p:PE X a ta)(hb:PE X b tb){aa:Ψ}{s:Shared}{σ:St}{H:Hp}{R:V->V->Hp->Prop}(I:Inv X aa σ H s)(h:ta σ H fun x H1=>tb σ H1 fun y H2=>R x y H2){Q:Ω}{f:Value->Value->Sem Value}(hf:∀v u c x y H2,Inv X aa σ H2 c->RelV x v->RelV y u->R x y H2->wpAny (model X.prog X.w) X.A (f v u) Q X.xe c):wpAny (model X.prog X.w) X.A (eval a X.env) (fun v d=>wpAny (model X.prog X.w) X.A (eval b X.env) (fun u e=>wpAny (model X.prog X.w) X.A (f v u) Q X.xe e) X.xe d) X.xe s:=by
 refine aD (p aa s σ H _ I h) fun v g ⟨x,H1,q,i,j⟩=>?_;refine aD (hb aa g σ H1 _ q j) fun u c ⟨y,H2,r,l,o⟩=>?_;exact hf v u c x y H2 r i l o
def zE{op:Operator}{r:R2}(f:ci X (binaryOp op) r)(g:PE X a ta)(hb:PE X b tb):PE X (.BinOp a op b pos) (da r ta tb):=by
 intro aa s σ H Q I h;exact wpAny_BinOp (jC g hb I h fun v u c x y H2 i d e q=>f aa c σ H2 x y v u Q i d e q)
def uz{op:UnaryOp}{r:V->Hp->VK->Prop}(e:ut X (unaryOp op) r)(f:PE X a ta):PE X (.UnaryOp op a pos) (Hn r ta):=by
 intro aa s σ H Q I h;exact UnaryOp_ (aD (f aa s σ H _ I h) fun v b ⟨x,H1,g,c,d⟩=>e aa b σ H1 x v Q g c d)
def pV{f:Value->Value->Sem Value}{C:Int->Int->Prop}{g:Int->Int->Int}(rule:∀(i j:Int)(t u:Tok)(s:Shared)(Q:Ω)(E:Ω),C i j->Q (.int (g i j) s.toks) {s with toks:=s.toks+1}->wpAny (model X.prog X.w) X.A (f (.int i t) (.int j u)) Q E s):ci X f (rI C fun i j=>.int (g i j)):=by
 intro aa s σ H x y v u Q I a b h;obtain⟨i,j,rfl,rfl,hc,q⟩:=h;obtain⟨t,rfl⟩:=a;obtain⟨t',rfl⟩:=b;exact rule i j t t' s _ _ hc ⟨.int (g i j),H,I.tok _,⟨_,rfl⟩,q⟩
def lV{f:Value->Value->Sem Value}{g:Int->Int->Int}(rule:∀(i j:Int)(t u:Tok)(s:Shared)(Q:Ω)(E:Ω),Q (.int (g i j) s.toks) {s with toks:=s.toks+1}->wpAny (model X.prog X.w) X.A (f (.int i t) (.int j u)) Q E s):ci X f (fP fun i j=>.int (g i j)):=by
 intro aa s σ H x y v u Q I a b h;obtain⟨i,j,rfl,rfl,q⟩:=h;obtain⟨t,rfl⟩:=a;obtain⟨t',rfl⟩:=b;exact rule i j t t' s _ _ ⟨.int (g i j),H,I.tok _,⟨_,rfl⟩,q⟩
def ic{f:Value->Value->Sem Value}{g:Int->Int->Bool}(rule:∀(i j:Int)(t u:Tok)(s:Shared)(Q:Ω)(E:Ω),Q (.bool (g i j)) s->wpAny (model X.prog X.w) X.A (f (.int i t) (.int j u)) Q E s):ci X f (fP fun i j=>.bl (g i j)):=by
 intro aa s σ H x y v u Q I a b h;obtain⟨i,j,rfl,rfl,q⟩:=h;obtain⟨t,rfl⟩:=a;obtain⟨t',rfl⟩:=b;exact rule i j t t' s _ _ ⟨.bl (g i j),H,I,rfl,q⟩
def lX(i j:Int):Prop:=0<=j/\j<=1000000/\i.natAbs<2 ^ 64
def CMul(i j:Int):Prop:=(-(2 ^ 64)<i/\i<2 ^ 64)\/(-(2 ^ 64)<j/\j<2 ^ 64)
def CMul.ok{i j:Int}(h:CMul i j):IntMulOk i j:=by
 rcases h with ⟨h1,h2⟩|⟨h1,h2⟩
 ·exact .of_left (intBits_le_64 h1 h2)
 ·exact .of_right (intBits_le_64 h1 h2)
def eZ:ci X (binaryOp .Add) (fP fun i j=>.int (i+j)):=lV fun _ _ _ _ _ _ _ q=>add_int q
def ku:ci X (binaryOp .Sub) (fP fun i j=>.int (i-j)):=lV fun _ _ _ _ _ _ _ q=>sub_int q
def jE:ci X (binaryOp .Mult) (rI CMul fun i j=>.int (i*j)):=pV fun _ _ _ _ _ _ _ hc q=>mul_int q hc.ok
def iR:ci X (binaryOp .Mod) (rI (fun _ j=>0<j) fun i j=>.int (i%j)):=pV fun i j _ _ _ _ _ hc q=>by
 have h1:(0:Int)<j:=hc;exact mod_int' ω (by rw[Int.fmod_eq_emod_of_nonneg i ω];exact q)
def pZ:ci X (binaryOp .Pow) (rI lX fun i j=>.int (i ^ j.toNat)):=pV fun _ _ _ _ _ _ _ hc q=>pow_int_small hc.1 hc.2.1 hc.2.2 q
def Ho{f:Value->Sem Value}{g:Int->Int}(rule:∀(i:Int)(t:Tok)(s:Shared)(Q:Ω)(E:Ω),Q (.int (g i) s.toks) {s with toks:=s.toks+1}->wpAny (model X.prog X.w) X.A (f (.int i t)) Q E s):ut X f (rU fun i=>.int (g i)):=by
 intro aa s σ H x v Q I a h;obtain⟨i,rfl,q⟩:=h;obtain⟨t,rfl⟩:=a;exact rule i t s _ _ ⟨.int (g i),H,I.tok _,⟨_,rfl⟩,q⟩
def uB:ut X (unaryOp .USub) (rU fun i=>.int (-i)):=Ho fun _ _ _ _ _ q=>neg_int q
end
def lZ:V->V->Bool
 |.non,.non=>true|.non,.int _=>true|.int _,.non=>true|.non,.bl _=>true|.bl _,.non=>true|.non,.str _=>true|.str _,.non=>true
 |.int _,.int _=>true|.bl _,.bl _=>true|.str _,.str _=>true|.byt _,.byt _=>true
 |.int _,.str _=>true|.str _,.int _=>true|.bl _,.str _=>true|.str _,.bl _=>true
 |_,_=>false
def p0:R2:=fun x y H Q=>lZ x y=true/\Q (.bl (decide (x=y))) H
def uI:R2:=fun x y H Q=>lZ x y=true/\Q (.bl (!decide (x=y))) H
def CI{i j:Int}:decide (V.int i=V.int j)=(i==j):=by
 rw[Bool.eq_iff_iff];simp
def fR{i j:Bool}:decide (V.bl i=V.bl j)=(i==j):=by
 rw[Bool.eq_iff_iff];simp
def CJ{i j:Str}:decide (V.str i=V.str j)=(i==j):=by
 rw[Bool.eq_iff_iff];simp
def CK{i j:Array UInt8}:decide (V.byt i=V.byt j)=(i.toList==j.toList):=by
 rw[Bool.eq_iff_iff];cases i;cases j;simp
section
variable{X:Cx}{a b c:Expr}{ta tb tc:TE}{pos:Pos}
def ax{aa:Ψ}{σ:St}{H:Hp}{s:Shared}{Q:VK}{k a:Bool}(I:Inv X aa σ H s)(q:Q (.bl k) H)(e:k=a):EP X aa σ Q (.bool a) s:=by
 subst e;exact⟨.bl k,H,I,rfl,q⟩
def db:ci X (compareOp .Eq) p0:=by
 intro aa s σ H x y v u Q I b a h;obtain⟨hs,q⟩:=h;cases x with
 |non=>
  cases b;cases y with
  |non=>cases a;exact PySem.EqNone.eq_none_none (ax I q (by simp))
  |bl j=>cases a;exact PySem.EqNone.eq_none_bool (ax I q (by simp))
  |int j=>obtain⟨t',rfl⟩:=a;exact PySem.EqNone.eq_none_int (ax I q (by simp))
  |str j=>obtain⟨t',rfl⟩:=a;exact PySem.EqNone.eq_none_str (ax I q (by simp))
  |_=>exact absurd (show false=true from hs) Ao
 |bl i=>
  cases b;cases y with
  |non=>cases a;exact PySem.EqNone.eq_bool_none (ax I q (by simp))
  |bl j=>cases a;exact eq_bool (ax I q fR)
  |str j=>obtain⟨t',rfl⟩:=a;exact PySem.EqMixed.eq_bool_str (ax I q (by simp))
  |_=>exact absurd (show false=true from hs) Ao
 |int i=>
  obtain⟨t,rfl⟩:=b;cases y with
  |non=>cases a;exact PySem.EqNone.eq_int_none (ax I q (by simp))
  |int j=>obtain⟨t',rfl⟩:=a;exact eq_int (ax I q CI)
  |str j=>obtain⟨t',rfl⟩:=a;exact PySem.EqMixed.eq_int_str (ax I q (by simp))
  |_=>exact absurd (show false=true from hs) Ao
 |str i=>
  obtain⟨t,rfl⟩:=b;cases y with
  |non=>cases a;exact PySem.EqNone.eq_str_none (ax I q (by simp))
  |bl j=>cases a;exact PySem.EqMixed.eq_str_bool (ax I q (by simp))
  |int j=>obtain⟨t',rfl⟩:=a;exact PySem.EqMixed.eq_str_int (ax I q (by simp))
  |str j=>obtain⟨t',rfl⟩:=a;exact eq_str (ax I q CJ)
  |_=>exact absurd (show false=true from hs) Ao
 |byt i=>
  obtain⟨t,rfl⟩:=b;cases y with
  |byt j=>obtain⟨t',rfl⟩:=a;exact PySem.W.eq_bytes (ax I q CK)
  |_=>exact absurd (show false=true from hs) Ao
 |_=>cases y<;>exact absurd (show false=true from hs) Ao
def l0:ci X (compareOp .NotEq) uI:=by
 intro aa s σ H x y v u Q I b a h;obtain⟨hs,q⟩:=h;cases x with
 |non=>
  cases b;cases y with
  |non=>cases a;exact PySem.EqNone.ne_none_none (ax I q (by simp))
  |bl j=>cases a;exact PySem.EqNone.ne_none_bool (ax I q (by simp))
  |int j=>obtain⟨t',rfl⟩:=a;exact PySem.EqNone.ne_none_int (ax I q (by simp))
  |str j=>obtain⟨t',rfl⟩:=a;exact PySem.EqNone.ne_none_str (ax I q (by simp))
  |_=>exact absurd (show false=true from hs) Ao
 |bl i=>
  cases b;cases y with
  |non=>cases a;exact PySem.EqNone.ne_bool_none (ax I q (by simp))
  |bl j=>cases a;exact ne_bool (ax I q (congrArg not fR))
  |str j=>obtain⟨t',rfl⟩:=a;exact PySem.EqMixed.ne_bool_str (ax I q (by simp))
  |_=>exact absurd (show false=true from hs) Ao
 |int i=>
  obtain⟨t,rfl⟩:=b;cases y with
  |non=>cases a;exact PySem.EqNone.ne_int_none (ax I q (by simp))
  |int j=>obtain⟨t',rfl⟩:=a;exact ne_int (ax I q (congrArg not CI))
  |str j=>obtain⟨t',rfl⟩:=a;exact PySem.EqMixed.ne_int_str (ax I q (by simp))
  |_=>exact absurd (show false=true from hs) Ao
 |str i=>
  obtain⟨t,rfl⟩:=b;cases y with
  |non=>cases a;exact PySem.EqNone.ne_str_none (ax I q (by simp))
  |bl j=>cases a;exact PySem.EqMixed.ne_str_bool (ax I q (by simp))
  |int j=>obtain⟨t',rfl⟩:=a;exact PySem.EqMixed.ne_str_int (ax I q (by simp))
  |str j=>obtain⟨t',rfl⟩:=a;exact ne_str (ax I q (congrArg not CJ))
  |_=>exact absurd (show false=true from hs) Ao
 |byt i=>
  obtain⟨t,rfl⟩:=b;cases y with
  |byt j=>obtain⟨t',rfl⟩:=a;exact PySem.W.ne_bytes (ax I q (congrArg not CK))
  |_=>exact absurd (show false=true from hs) Ao
 |_=>cases y<;>exact absurd (show false=true from hs) Ao
def kx:ci X (compareOp .Lt) (fP fun i j=>.bl (decide (i<j))):=ic fun _ _ _ _ _ _ _ q=>lt_int q
def p5:ci X (compareOp .LtE) (fP fun i j=>.bl (decide (i<=j))):=ic fun _ _ _ _ _ _ _ q=>le_int q
def iU:ci X (compareOp .Gt) (fP fun i j=>.bl (decide (j<i))):=ic fun _ _ _ _ _ _ _ q=>gt_int q
def Hq:ci X (compareOp .GtE) (fP fun i j=>.bl (decide (j<=i))):=ic fun _ _ _ _ _ _ _ q=>ge_int q
def ar(b:Expr){op:CmpOp}(h:op≠.In:=by decide)(h2:op≠.NotIn:=by decide):behindInMarks op b=false:=by
 have e1:(op==CmpOp.In)=false:=by cases op<;>first|rfl|exact absurd rfl h
 have e2:(op==CmpOp.NotIn)=false:=by cases op<;>first|rfl|exact absurd rfl h2
 cases b<;>simp[behindInMarks,e1,e2]
def gN{op:CmpOp}{r:R2}(f:ci X (compareOp op) r)(g:PE X a ta)(hb:PE X b tb)(hm:behindInMarks op b=false):PE X (.Compare a [op] [b] pos) (da r ta tb):=by
 intro aa s σ H Q I h;exact wpAny_Compare1 (jC g hb I h fun v u c x y H2 i d e q=>f aa c σ H2 x y v u Q i d e q) hm
def kz(t:TE):TT:=fun σ H Q=>t σ H fun x H'=>∃k,x=.bl k/\Q k H'
def zp{op:CmpOp}{r:R2}(q:ci X (compareOp op) r)(w:PE X a ta)(hb:PE X b tb)(hm:behindInMarks op b=false):PT X (.Compare a [op] [b] pos) (kz (da r ta tb)):=by
 intro aa s σ H Q I h;refine wpAny_isTrue_Compare1 (aD (w aa s σ H _ I h) fun v d ⟨x,H1,A,f,g⟩=>aD (hb aa d σ H1 _ A g) fun u i ⟨y,H2,C,j,l⟩=>
  aD (q aa i σ H2 x y v u _ C f j l) fun c F ⟨z,D,E,o,k,e,p⟩=>?_) hm
 subst e;cases o;exact wpAny_truthy_bool ⟨D,E,p⟩
def Hr(r c:R2)(ta tb tc:TE):TE:=fun σ H Q=>ta σ H fun x H1=>tb σ H1 fun y H2=>r x y H2 fun z a=>∃k,z=.bl k/\
 (if k=true then tc σ a fun b d=>c y b d Q else Q (.bl false) a)
def Hs{op f:CmpOp}{r l:R2}(U:ci X (compareOp op) r)(g:ci X (compareOp f) l)(W:PE X a ta)(hb:PE X b tb)(hc:PE X c tc)(hm:lastMarks [op,f] [b,c]=false:=by with_unfolding_all rfl):PT X (.Compare a [op,f] [b,c] pos) (kz (Hr r l ta tb tc)):=by
 intro aa s σ H Q I h;refine isTrue_chain (aD (W aa s σ H _ I h) fun v q ⟨x,H1,Y,w,A⟩=>test_link (aD (hb aa q σ H1 _ Y A) fun u C ⟨y,H2,Z,i,D⟩=>
  aD (U aa C σ H2 x y v u _ Z w i D) fun d E ⟨z,o,p,F,k,e,j⟩=>?_)) hm
 subst e;cases F;refine wpAny_truthy_bool ?_;cases k with
 |false=>
  obtain⟨k',S,T⟩:=j;cases S;exact ite_ff ⟨o,p,T⟩
 |true=>
  refine ite_tt (test_last (aD (hc aa E σ o _ p j) fun G J ⟨L,H4,I4,M,N⟩=>aD (g aa J σ H4 y L u G _ I4 i M N) fun d' s5 ⟨z2,H5,I5,O,k2,e2,P⟩=>?_));subst e2;cases O;exact wpAny_truthy_bool ⟨H5,I5,P⟩
def dB:(sizeLine:Nat)<2 ^ 63:=by rw[sizeLine_eq];decide
def vals1{x:V}{us:List Value}(r:Vals [x] us):∃u,us=[u]/\RelV x u:=by
 cases r with
 |cons r1 r2=>cases r2;exact⟨_,rfl,r1⟩
def vals2{x y:V}{us:List Value}(r:Vals [x,y] us):∃u a,us=[u,a]/\RelV x u/\RelV y a:=by
 cases r with
 |cons r1 r2=>
  cases r2 with
  |cons r3 r4=>cases r4;exact⟨_,_,rfl,r1,r3⟩
def CL:z0 X (.type "int") (fun xs H Q=>(∃i,xs=[.int i]/\Q (.int i) H)\/∃k,xs=[.bl k]/\Q (.int (if k then 1 else 0)) H):=by
 intro aa s σ H xs us Q I r h;rcases h with ⟨i,rfl,q⟩|⟨k,rfl,q⟩
 ·obtain⟨u,rfl,t,rfl⟩:=vals1 r
  exact call_int_int ⟨.int i,H,I,⟨_,rfl⟩,q⟩
 ·obtain⟨u,rfl,a⟩:=vals1 r
  cases a;exact call_int_bool ⟨.int (if k then 1 else 0),H,I.tok _,⟨_,rfl⟩,q⟩
end
structure ObjM(h:Heap)(x dx C:Addr)(mA:Str->Option Value):Prop where
 obj:h.get? x=some (PySem.W.instObj C dx)
 ns:h.Ns1 dx mA
 ne:dx≠x
def Ht{h:Heap}{dx:Addr}{mA:Str->Option Value}(n:h.Ns1 dx mA):∃b,h.get? dx=some b/\∀name,PySem.W.lookIn name b=some (mA name):=by
 obtain⟨o,es,ep,c,hd,hk,_,hm⟩:=n;refine⟨o,c,fun name=>?_⟩;have e:=hm name;unfold nsFind findBy at e;rw[<-Array.find?_toList] at e;unfold PySem.W.lookIn;rw[hd];dsimp only;split
 ·rename_i y q
  rw[q] at e;exact congrArg some e
 ·rename_i q
  rw[q] at e;have a:es.toList.any (·.refKey)=false:=by
   rw[List.any_eq_false];intro y hy;obtain⟨z,t,d⟩:=hk y (Array.mem_toList_iff.mp hy);simp[DictEntry.refKey,d]
  have f:¬es.toList.any (·.refKey)=true:=by rw[a];exact Ao
  rw[if_neg f];exact congrArg some e
def ObjM.look{h:Heap}{x dx C:Addr}{mA:Str->Option Value}(I:ObjM h x dx C mA):∃a,PySem.W.InstAt h x (PySem.W.instObj C dx) C (some a)/\∀name,PySem.W.lookIn name a=some (mA name):=
 let ⟨a,ho,hl⟩:=Ht I.ns
 ⟨a,⟨I.obj,rfl,rfl,ho⟩,hl⟩
section
variable{prog:Program}{w:World}{A:Around}{E:Ω}{s:Shared}{K:Ad}{x dx C f:Addr}{mA:Str->Option Value}{name:Str}{v:Value}
def uJ{b:Bool}{Q:Ω}(X:K.In s.heap)(I:ObjM s.heap x dx C mA)(c:PySem.W.plainGet K C name=true)(d:PySem.W.hasDictIn K C=true)(e:PySem.W.findIn K (.ref C) name=some none)(f:mA name=some v)(g:PySem.W.handedIn v=true)(h:Q v {s with toks:=s.toks+1}):wpAny (model prog w) A (getAttr (.ref x) name b) Q E s:=by
 obtain⟨i,J,a⟩:=I.look;exact PySem.W.get_value X J (PySem.W.plainGet_of c).1 (PySem.W.findObj_own d e rfl (by rw[a,f])) g h
end
def RelO.some_of{v:V}{o:Option Value}(r:RelO (some v) o):∃u,o=some u/\RelV v u:=by
 cases o with
 |none=>exact(show False from r).elim
 |some u=>exact⟨u,rfl,r⟩
section
variable{P:Program}{w:World}{H H':Hp}{h h':Heap}{a C dx:Addr}{fs su:List (Str×V)}
def e_(b:HOk P w H h)(e:H a=some (.ins C dx fs)):∃mA,ObjM h a dx C mA/\(∀f,RelO (fs.lookup f) (mA f))/\PySem.Within mA (fs.map (·.1))/\fs.length<=1000/\H dx=some (.own a):=by
 obtain⟨d,z,ne,ob,mA,n,r,q⟩:=(show zC P w H h a (.ins C dx fs) from b a _ e);exact⟨mA,⟨ob,n,ne⟩,r,q,z,d⟩
end
structure Cls(K:Ad)(C:Addr):Prop where
 pg:PySem.W.plainGet K C Str.empty=true
 hd:PySem.W.hasDictIn K C=true
 po:PySem.W.plainOver K C=true
 sa:PySem.W.findIn K (.ref C) "__setattr__"=some (some (.builtin "object.__setattr__"))
def Cls.get{K:Ad}{C:Addr}(c:Cls K C)(f:Str):PySem.W.plainGet K C f=true:=c.pg
section
variable{X:Cx}{aa:Ψ}{σ:St}{H:Hp}{s:Shared}{A:Around}{E:Ω}{Q:Ω}{c:Value}{b:Bool}
inductive cW(K:Ad)(H:Hp):V->Value->Prop where
 |non:cW K H .non (.type "NoneType")
 |bl (x:Bool):cW K H (.bl x) (.type "bool")
 |int (i:Int):cW K H (.int i) (.type "int")
 |str (x:Str):cW K H (.str x) (.type "str")
 |flt (x:UInt64):cW K H (.flt x) (.type "float")
 |lst {a:Addr} {xs:List V} (e:H a=some (.lst xs)):cW K H (.ref a) (.type "list")
 |frz {a:Addr} {o:Obj} {xs:List V} (e:H a=some (.frz o (.lst xs))):cW K H (.ref a) (.type "list")
 |tup {a:Addr} {xs:List V} (e:H a=some (.tup xs)):cW K H (.ref a) (.type "tuple")
 |dK {a:Addr} {kvs:List (Key×V)} (e:H a=some (.dK kvs)):cW K H (.ref a) (.type "dict")
 |dT {a:Addr} {kvs:List (List Key×V)} (e:H a=some (.dT kvs)):cW K H (.ref a) (.type "dict")
 |ins {a C dx:Addr} {fs:List (Str×V)} (e:H a=some (.ins C dx fs)) (cl:Cls K C) (ha:PySem.W.findIn K (.ref C) "__class__"=some (some (.builtin "object.__class__")))
   (hn:PySem.W.specialIn K (.builtin "object.__class__") "__get__"=some (some (.builtin "getset_descriptor.__get__"))) (j7:PySem.W.takesIn K (.builtin "object.__class__")=some true)
   (hm:PySem.W.mroIn K C (.type "object")=some true):cW K H (.ref a) (.ref C)
def uT{x:V}{u t:Value}(I:Inv X aa σ H s)(d:RelV x u)(ty:cW X.K H x t)(e:AI X.K t c=some b)(h:∀tk,Q (.bool b) {s with toks:=tk}):wpAny (model X.prog X.w) A (call (.builtin "isinstance") [u,c]) Q E s:=by
 cases ty with
 |non=>cases(show u=Value.none from d);exact PySem.W.kia_one PySem.W.kitx_none I.kIn True.intro e (fun z=>nomatch z) h
 |bl y=>cases(show u=Value.bool y from d);exact PySem.W.kia_one PySem.W.kitx_bool I.kIn True.intro e (fun z=>nomatch z) h
 |int i=>obtain⟨t,q⟩:=(show ∃t,u=Value.int i t from d);cases q;exact PySem.W.kia_one PySem.W.kitx_int I.kIn True.intro e (fun z=>nomatch z) h
 |str y=>obtain⟨t,q⟩:=(show ∃t,u=Value.str y t from d);cases q;exact PySem.W.kia_one PySem.W.kitx_str I.kIn True.intro e (fun z=>nomatch z) h
 |flt y=>obtain⟨t,q⟩:=(show ∃t,u=Value.float y t from d);cases q;exact PySem.W.kia_one PySem.W.kitx_float I.kIn True.intro e (fun z=>nomatch z) h
 |@lst a xs ea=>
  cases(show u=Value.ref a from d);obtain⟨_,_,n,_,h1⟩:=(show zC X.prog X.w H s.heap a (.lst xs) from I.hok a _ ea);exact PySem.W.kia_one PySem.W.kitx_list I.kIn ⟨_,h1,rfl⟩ e (fun z=>nomatch z) h
 |@frz a ob xs ea=>
  cases(show u=Value.ref a from d);obtain⟨_,_,_,n,_,h1⟩:=(show zC X.prog X.w H s.heap a (.frz ob (.lst xs)) from I.hok a _ ea);exact PySem.W.kia_one PySem.W.kitx_list I.kIn ⟨_,h1,rfl⟩ e (fun z=>nomatch z) h
 |@tup a xs ea=>
  cases(show u=Value.ref a from d);obtain⟨_,_,_,p⟩:=(show zC X.prog X.w H s.heap a (.tup xs) from I.hok a _ ea);obtain⟨o,h1,h2,_⟩:=p;exact PySem.W.kia_one PySem.W.kitx_tuple I.kIn ⟨o,h1,h2⟩ e (fun z=>nomatch z) h
 |@dK a kvs ea=>
  cases(show u=Value.ref a from d);obtain⟨_,_,vs,_,p⟩:=(show zC X.prog X.w H s.heap a (.dK kvs) from I.hok a _ ea);obtain⟨o,es,ep,h1,h2,_⟩:=p;exact PySem.W.kia_one PySem.W.kitx_dict I.kIn ⟨o,h1,h2.1⟩ e (fun z=>nomatch z) h
 |@dT a kvs ea=>
  cases(show u=Value.ref a from d);obtain⟨_,_,xs,_,o,es,ep,h1,h2,_⟩:=(show zC X.prog X.w H s.heap a (.dT kvs) from I.hok a _ ea);exact PySem.W.kia_one PySem.W.kitx_dict I.kIn ⟨o,h1,h2.1⟩ e (fun z=>nomatch z) h
 |@ins a C dx fs ea cl ha hn j7 hm=>
  cases(show u=Value.ref a from d);obtain⟨mA,O,_⟩:=e_ I.hok ea;obtain⟨f,J,_⟩:=O.look;exact PySem.W.kia_one (PySem.W.kitx_own (cl.get _) cl.hd ha hn j7 hm) I.kIn J e (fun z=>nomatch z) h
end
structure Room(k:Nat)(A:Around):Prop where
 hd:A.handled=none
 dp:A.depth+3*k+5<recursionLimit
 un:A.units+16*k+200<cLine
def Room.mono{j k:Nat}{A:Around}(r:Room k A)(h:j<=k):Room j A:=⟨r.hd,by have:=r.dp;omega,by have:=r.un;omega⟩
def Room.deeper{k:Nat}{A:Around}(r:Room (k+1) A)(env:Env):Room k (A.deeper env):=
 ⟨r.hd,by have:=r.dp;show A.depth+1+3*k+5<_;omega,by have:=r.un;show A.units+3+16*k+200<_;omega⟩
def Room.in1{k:Nat}{A:Around}(r:Room (k+1) A):Room k A.in1:=
 ⟨r.hd,by have:=r.dp;show A.depth+3*k+5<_;omega,by have:=r.un;show A.units+1+16*k+200<_;omega⟩
def Room.depth{k:Nat}{A:Around}(r:Room k A):A.depth<recursionLimit:=by have:=r.dp;omega
def Room.units{k:Nat}{A:Around}(r:Room k A):A.units+64<cLine:=by have:=r.un;omega
def bq:TA:=fun _ H Q=>Q [] H
def zP(ta:TE)(a:TA):TA:=fun σ H Q=>ta σ H fun x H1=>a σ H1 fun xs H2=>Q (x::xs) H2
section
variable{X:Cx}{e:Expr}{es:List Expr}{te:TE}{t:TA}{pos:Pos}
def al:PA X [] bq:=fun _ _ _ _ H Q I h=>Calls.spliced_nil ⟨[],H,I,.nil,h⟩
def ac(g:PE X e te)(hr:PA X es t)(hs:starEach (e::es) X.env=(false,eval e X.env)::starEach es X.env:=by rfl):PA X (e::es) (zP te t):=by
 intro pos aa s σ H Q I h;rw[hs];show wpAny _ _ (spliced ((false,eval e X.env)::backTo pos (starEach es X.env))) _ _ s;refine Calls.spliced_cons (aD (g aa s σ H _ I h) fun u a ⟨x,H1,i,b,c⟩=>?_);exact aD (hr pos aa a σ H1 _ i c) fun us l ⟨xs,H2,j,d,f⟩=>⟨x::xs,H2,j,.cons b d,f⟩
def dD(t:TA):TE:=fun σ H Q=>t σ H fun xs H1=>xs.length<=sizeLine/\∀p,H1 p=none->Q (.ref p) (upd H1 p (.tup xs))
def l5(t:TA):TE:=fun σ H Q=>t σ H fun xs H1=>xs.length<=sizeLine/\∀p,H1 p=none->Q (.ref p) (upd H1 p (.lst xs))
def dw{x1}(h:PA X es t):PE X (.Tuple es x1 pos) (dD t):=by
 intro aa s σ H Q I hq;refine wpAny_Tuple_spliced (aD (h pos aa s σ H _ I hq) fun us a ⟨xs,H1,I1,r,z,q⟩=>⟨by rw[<-r.length];exact z,?_⟩);have hf:H1 a⁻¹=none:=I1.hok.fresh (Ag _);refine⟨.ref a⁻¹,upd H1 a⁻¹ (.tup xs),I1.laid (t':=a.toks) (fun b u e=>Ae _ e) (Ag _) ?_,rfl,q _ hf⟩;exact⟨z,us,r,⟨_,Ak _ rfl,rfl,_,rfl⟩⟩
def zO(h:PA X es t):PE X (.List es pos) (l5 t):=by
 intro aa s σ H Q I hq;refine wpAny_List_spliced (aD (h pos aa s σ H _ I hq) fun us a ⟨xs,H1,I1,r,z,q⟩=>⟨by rw[<-r.length];exact z,?_⟩);have hf:H1 a⁻¹=none:=I1.hok.fresh (Ag _);refine⟨.ref a⁻¹,upd H1 a⁻¹ (.lst xs),I1.laid (t':=a.toks) (fun b u e=>Ae _ e) (Ag _) ?_,rfl,q _ hf⟩;exact⟨z,us,0,r,Ak _ rfl⟩
end
abbrev Sp:=List V->Hp->VK->XK->Prop
abbrev eL:=List Env->Hp->Shared->XK->Ω
structure Env0(P:Program)(w:World)(K:Ad)(mg:Str->Option Value)(base:Heap)(A:Around)(outer:List Env)(s:Shared)(H:Hp):Prop where
 frames:A.frames=some outer
 mod:Mod K mg base
 bs:∀b o,base.get? b=some o->s.heap.get? b=some o/\H b=none
 bsz:base.objs.size<=s⁻¹
 funs:s.heap.FunFrames base outer
 frf:∀b∈frs outer,H b=none
 hok:HOk P w H s.heap
 bare:AllBare s.gens
def CE(outer:List Env)(P:Program)(w:World)(H:Hp)(s:Shared)(Q:VK)(u:Value)(s':Shared):Prop:=
 ∃v H',s'.os=s.os/\AllBare s'.gens/\Un (frs outer) [] H H' s.heap s'.heap/\HOk P w H' s'.heap/\RelV v u/\Q v H'
def CR(CX:eL)(outer:List Env)(P:Program)(w:World)(H:Hp)(s:Shared)(Q:VK)(E:XK)(r:Result)(s':Shared):Prop:=
 match r with
 |.ok (.ret u)=>CE outer P w H s Q u s'
 |.ok _=>False
 |.error e=>CX outer H s E e s'
structure FnOk(P:Program)(w:World)(K:Ad)(mg:Str->Option Value)(base:Heap)(CX:eL)(k:Nat)(f:Addr)(fd:FuncData)(ps:List Str)(sp:Sp):Prop where
 len:∀vs H Q E,sp vs H Q E->vs.length=ps.length
 run:∀(A:Around)(outer:List Env)(s:Shared)(H:Hp)(args:Args)(us:List Value)(vs:List V)(Q:VK)(E:XK),Room k A->Env0 P w K mg base A outer s H->BindsTo s fd args (ps.zip us)->Vals vs us->sp vs H Q E->
  codeAny (model P w) A (.call (.ref f) args) (CR CX outer P w H s Q E) s
def Env0.in1{P:Program}{w:World}{K:Ad}{mg:Str->Option Value}{base:Heap}{A:Around}{outer:List Env}{s:Shared}{H:Hp}(e:Env0 P w K mg base A outer s H):Env0 P w K mg base A.in1 outer s H:=⟨e.frames,e.mod,e.bs,e.bsz,e.funs,e.frf,e.hok,e.bare⟩
section
variable{X:Cx}{aa:Ψ}{σ:St}{H:Hp}{s s':Shared}
def Inv.env0(I:Inv X aa σ H s):Env0 X.prog X.w X.K X.mg X.base X.A X.stack s H:=
 ⟨I.ok.frames,I.ok.mod,I.bs,AQ I.ok.bsz I.sz,I.stack,I.stkFree,I.hok,I.bare⟩
def Inv.after{Q:VK}{u:Value}(I:Inv X aa σ H s)(h:CE X.stack X.prog X.w H s Q u s'):EP X aa σ Q u s':=by
 obtain⟨v,H',os,a,un,c,r,q⟩:=h;obtain⟨e,g,d,t,f⟩:=s';obtain rfl:f=s.os:=os;exact⟨v,H',I.call (h':=e) (g':=g) (d':=d) (t':=t) (ch:=[]) un c a (fun b z=>absurd z (by simp)),r,q⟩
end
def l7(sp:Sp)(dX:List V)(E:XK)(t:TA):TE:=fun σ H Q=>t σ H fun vs H1=>sp (vs++dX) H1 Q E
def Binds(K:Ad)(fd:FuncData)(ps:List Str)(ds:List Value):Prop:=
 ∀(s:Shared)(us:List Value),K.In s.heap->(us++ds).length=ps.length->BindsTo s fd ⟨us,[]⟩ (ps.zip (us++ds))
def Binds.all{K:Ad}{fd:FuncData}{ps:List Str}(h:∀us:List Value,us.length=ps.length->bindArgs fd ⟨us,[]⟩=pure (ps.zip us)):Binds K fd ps []:=fun s us _ a=>by
 rw[List.append_nil] at a ⊢;exact .of_eq (h us a)
def cL(CX:eL)(X:Cx)(E:XK):Prop:=∀(aa:Ψ)(σ:St)(H:Hp)(s:Shared)(e:Value)(s':Shared),Inv X aa σ H s->CX X.stack H s E e s'->X.xe e s'
section
variable{X:Cx}{CX:eL}{k:Nat}{f C:Addr}{fd:FuncData}{ps:List Str}{sp:Sp}{dX:List V}{ds:List Value}{E:XK}{x m:Str}{p pos bf:Pos}{e o:Expr}{es:List Expr}{ta:TE}{t:TA}
def Hu{aa:Ψ}{σ:St}{H:Hp}{s:Shared}{Q:VK}{us:List Value}{vs:List V}(F:FnOk X.prog X.w X.K X.mg X.base CX k f fd ps sp)(hr:Room k X.A)(hb:Binds X.K fd ps ds)(hd:Vals dX ds)(hx:cL CX X E)(I:Inv X aa σ H s)(r:Vals vs us)(h:sp (vs++dX) H Q E):wpAny (model X.prog X.w) X.A (call (.ref f) us) (EP X aa σ Q) X.xe s:=by
 have a:Vals (vs++dX) (us++ds):=r.append hd;have b:(us++ds).length=ps.length:=by rw[<-a.length];exact F.len _ _ _ _ h
 refine wpAny_call (codeAny_mono (F.run X.A X.stack s H ⟨us,[]⟩ (us++ds) (vs++dX) Q E hr I.env0 (hb s us I.kIn b) a h) fun r s' hq=>?_);cases r with
 |error e=>exact hx aa σ H s e s' I hq
 |ok fl=>
  cases fl with
  |ret u=>exact I.after hq
  |next=>exact False.elim hq
  |brk=>exact False.elim hq
  |cont=>exact False.elim hq
def zo(F:FnOk X.prog X.w X.K X.mg X.base CX k f fd ps sp)(hr:Room k X.A)(b:Gl X x)(hm:X.mg x=some (.ref f))(hk:PySem.W.keepIn X.K (.ref f)=true)(hb:Binds X.K fd ps ds)(hd:Vals dX ds)(hx:cL CX X E)(c:PA X (e::es) t)(d:(x==("__debug__":Str))=false:=by decide)(he:starEach (e::es) X.env=(false,eval e X.env)::starEach es X.env:=by rfl)(a:(backTo pos (starEach es X.env)).any (·.1)=false:=by rfl):PE X (.Call (.Name x p) (e::es) [] pos) (l7 sp dX E t):=by
 intro aa s σ H Q I h;refine wpAny_Call_Name_kw (lG I b hm ?_ d);refine PySem.W.callWith_K (h₀:=X.base) I.ok.mod.kin hk (aD (c pos aa s σ H _ I h) fun us g ⟨vs,H1,I1,r,q⟩=>⟨I1.kIn,?_⟩) he a;exact Hu F hr hb hd hx I1 r q
structure Mk(K:Ad)(C f:Addr):Prop where
 makes:PySem.W.makesIn K C=true
 init:PySem.W.findIn K (.ref C) "__init__"=some (some (.ref f))
 fn:PySem.W.isFn K (.ref f)=true
 kp:PySem.W.keepIn K (.ref C)=true
end
structure zq(N P:List Str)(sc:Scope):Prop where
 kind:sc.kind=.function
 co:sc.isCoroutine=false
 gen:sc.isGenerator=false
 nd:N.Nodup
 pre:N.take P.length=P
 par:∀x∈P,sc.names.lookup x=some .local\/sc.names.lookup x=some .cell
 nofree:∀y∈sc.names,y.2≠.free
def CM{kindOf:Str->Option NameKind}{x:Str}:∀{binds:List (Str×Value)}{m:Str->Option Value},(∀v,(x,v)∉binds)->bindL kindOf binds m x=m x
 |[],_,_=>rfl
 |(n,v)::r,m,h=>by
  unfold bindL;rw[CM fun w hw=>h w (Ax _ hw)];split
  ·have:x≠n:=by rintro rfl;exact h v Av
   simp[this]
  ·rfl
def CN{kindOf:Str->Option NameKind}{x:Str}:∀{binds:List (Str×Value)}{m:Str->Option Value},(∀v,(x,v)∉binds)->bindC kindOf binds m x=m x
 |[],_,_=>rfl
 |(n,v)::r,m,h=>by
  unfold bindC;rw[CN fun w hw=>h w (Ax _ hw)];split
  ·rfl
  ·have:x≠n:=by rintro rfl;exact h v Av
   simp[this]
def CO{kindOf:Str->Option NameKind}{x:Str}{v:Value}:∀{P:List Str}{vs:List Value}{i:Nat}{m:Str->Option Value},P.Nodup->P[i]?=some x->vs[i]?=some v->kindOf x=some .local->
  bindL kindOf (P.zip vs) m x=some v
 |[],_,_,_,_,h,_,_=>by simp at h
 |_::_,[],_,_,_,_,h,_=>by simp at h
 |p::P,w::vs,0,m,nd,h1,h2,hk=>by
  simp at h1 h2;subst h1;subst h2;show bindL kindOf ((p,w)::P.zip vs) m p=_;unfold bindL;rw[CM fun v a=>(List.nodup_cons.mp nd).1 (List.of_mem_zip a).1,if_pos hk];simp
 |p::P,w::vs,i+1,m,nd,h1,h2,hk=>by
  show bindL kindOf ((p,w)::P.zip vs) m x=_;unfold bindL;exact CO (i:=i) (List.nodup_cons.mp nd).2 (by simpa using h1) (by simpa using h2) hk
def CP{kindOf:Str->Option NameKind}{x:Str}{v:Value}:∀{P:List Str}{vs:List Value}{i:Nat}{m:Str->Option Value},P.Nodup->P[i]?=some x->vs[i]?=some v->kindOf x≠some .local->
  bindC kindOf (P.zip vs) m x=some v
 |[],_,_,_,_,h,_,_=>by simp at h
 |_::_,[],_,_,_,_,h,_=>by simp at h
 |p::P,w::vs,0,m,nd,h1,h2,hk=>by
  simp at h1 h2;subst h1;subst h2;show bindC kindOf ((p,w)::P.zip vs) m p=_;unfold bindC;rw[CN fun v a=>(List.nodup_cons.mp nd).1 (List.of_mem_zip a).1,if_neg hk];simp
 |p::P,w::vs,i+1,m,nd,h1,h2,hk=>by
  show bindC kindOf ((p,w)::P.zip vs) m x=_;unfold bindC;exact CP (i:=i) (List.nodup_cons.mp nd).2 (by simpa using h1) (by simpa using h2) hk
def start(N:List Str)(vs:List V):St:=vs.map some++List.replicate (N.length-vs.length) none
def bc(CX:eL)(P:Program)(w:World)(K:Ad)(mg:Str->Option Value)(base:Heap)(N:List Str)(a:Str)(scope:Scope)(f:Addr)(b:Value)(A:Around)(outer:List Env)(s:Shared)(H:Hp)(E:XK):Cx where
 prog:=P
 w:=w
 K:=K
 mg:=mg
 base:=base
 A:=A.deeper (envOfC a scope s⁻¹ f b)
 N:=N
 s₀:=s
 H₀:=H
 env:=envOfC a scope s⁻¹ f b
 outer:=outer
 stack:=envOfC a scope s⁻¹ f b::outer
 ex:=[]
 calm:=true
 fn:=fun _=>true
 pn:=[]
 xe:=fun e s'=>wpAny (model P w) (A.deeper (envOfC a scope s⁻¹ f b)) (leaving (envOfC a scope s⁻¹ f b) e) (fun _ c=>CX outer H s E e c) (fun d c=>CX outer H s E d c) s'
def CQ{a:Scope}{n:Nat}{x:Str}(h:a.names.lookup x=some .cell):∃c,(cellsFrom n a.names []).lookup x=some c:=by
 have q:=PySem.W.cellsFrom_some a.names n [] (.inl h);exact Option.isSome_iff_exists.mp q
def CS{CX:eL}{P:Program}{w:World}{K:Ad}{mg:Str->Option Value}{base:Heap}{N ps:List Str}{j:Str}{scope:Scope}{f:Addr}{l:Value}{A:Around}{outer:List Env}{s C:Shared}{H:Hp}{E:XK}{us:List Value}{vs:List V}(S:zq N ps scope)(hd:A.handled=none)(d:Env0 P w K mg base A outer s H)(J:vs.length=ps.length)(r:Vals vs us)(x:InCallC s s⁻¹ (bindL (envOfC j scope s⁻¹ f l).kindOf (ps.zip us) fun _=>none) (cellsFrom (s⁻¹+1) scope.names []) (bindC (envOfC j scope s⁻¹ f l).kindOf (ps.zip us) fun _=>none) C):Inv (bc CX P w K mg base N j scope f l A outer s H E) [] (start N vs) H C:=by
 have F:ps.length<=N.length:=by have:=congrArg List.length S.pre;rw[AJ] at this;omega
 obtain⟨h1,tk,rfl,hk⟩:=x.done;have o:∀b:Addr,b∉(bc CX P w K mg base N j scope f l A outer s H E).ex:=fun b z=>absurd (show b∈([]:List Addr) from z) (by simp);refine⟨⟨d.mod,S.kind,rfl,rfl,Ag _,fun y z c h1 h2=>?_,fun y hy=>?_,fun y c _ h=>?_,fun _=>hd,Around.frames_deeper d.frames,.inr ⟨rfl,rfl⟩,fun b z=>absurd z (o b),d.bs,d.bsz,fun b _ _=>o b,fun b z=>absurd z (o b),d.funs,d.frf⟩,
  rfl,d.bare,Un.kept hk,⟨_,x.toInCall.ns,fun i y v h1 h2 I=>?_⟩,fun y c h=>⟨_,x.cell y c h⟩,d.hok.fresh (Ag _),fun y c h=>?_,fun p hp=>absurd (show p∈([]:Ψ) from hp) (by simp),d.hok.kept hk,?_⟩
 ·exact name_of_addr x.apart (PySem.mem_of_lookup h1) (PySem.mem_of_lookup h2)
 ·have hy:scope.names.lookup y=some .cell\/scope.names.lookup y=some .free:=hy
  rcases hy with hy|hy
  ·exact CQ hy
  ·exact absurd rfl (S.nofree _ (PySem.mem_of_lookup hy))
 ·exact Nat.le_of_lt (x.above y c (PySem.mem_of_lookup h))
 ·have hi:i<vs.length:=by
   unfold start at h2
   by_cases hi:i<vs.length
   ·exact hi
   ·rw[List.getElem?_append_right (by simpa using hi)] at h2
    rw[List.getElem?_replicate] at h2;split at h2<;>cases h2
  have G:vs[i]?=some v:=by
   unfold start at h2;rw[List.getElem?_append_left (by simpa using hi),Aj] at h2;cases e:vs[i]? with
   |none=>rw[e] at h2;cases h2
   |some a=>rw[e] at h2;cases h2;rfl
  obtain⟨u,hu,D⟩:=r.get G;have hp:ps[i]?=some y:=by
   rw[<-S.pre,List.getElem?_take_of_lt ω];exact h1
  have g:ps.Nodup:=by rw[<-S.pre];exact S.nd.sublist (List.take_sublist _ _)
  refine⟨u,D,?_⟩;rcases S.par y (Ap hp) with k|k
  ·exact .inl ⟨k,CO g hp hu k⟩
  ·obtain⟨c,e⟩:=CQ (n:=s⁻¹+1) k
   refine .inr ⟨.inl k,c,e,?_⟩;have q:=x.cell y c e;rw[CP g hp hu (by show scope.names.lookup y≠_;rw[k];decide)] at q;exact q
 ·exact d.hok.fresh (Nat.le_of_lt (x.above y c (PySem.mem_of_lookup h)))
 ·unfold start
  show _=N.length;rw[Aw,Ab,List.length_replicate];omega
def CT{CX:eL}{P:Program}{w:World}{K:Ad}{mg:Str->Option Value}{base:Heap}{k:Nat}{f:Addr}{name a:Str}{h:Arguments}{body:List Stmt}{scope:Scope}{i kV j l cdv ct X:Value}{p Y:Option Addr}{F:Array (Option Value)}{N ps:List Str}{sp:Sp}(lk:K.lookup f=some ⟨X,Y,.func (PySem.W.fnOf name a h body scope i kV j l p cdv ct),F⟩)(G:PySem.W.codeIn K cdv a=true)(S:zq N ps scope)(len:∀vs H Q E,sp vs H Q E->vs.length=ps.length)(Z:∀(A:Around)(outer:List Env)(s:Shared)(H:Hp)(vs:List V)(Q:VK)(E:XK),Room k (A.deeper (envOfC a scope s⁻¹ f cdv))->sp vs H Q E->
   ∃t,PSs (bc CX P w K mg base N a scope f cdv A outer s H E) body t/\t {nx:=fun _ H'=>Q .non H',rt:=Q} (start N vs) H):
  FnOk P w K mg base CX (k+1) f (PySem.W.fnOf name a h body scope i kV j l p cdv ct) ps sp:=by
 refine⟨len,fun A outer s H args us vs Q E hr c hb r z=>?_⟩;have O:=len _ _ _ _ z;have D:K.In s.heap:=c.mod.kin.keeps fun b o e=>(c.bs b o e).1;have T:s.heap.NoLimit:=c.mod.nolimit.keeps fun b o e=>(c.bs b o e).1;have U:∀y∈ps.zip us,scope.names.lookup y.1=some .local\/(scope.names.lookup y.1=some .cell/\((cellsFrom (s⁻¹+1) scope.names []).lookup y.1).isSome=true):=fun⟨n,v⟩ hy=>by
  rcases S.par n (List.of_mem_zip hy).1 with q|q
  ·exact .inl q
  ·exact .inr ⟨q,PySem.W.cellsFrom_some _ _ _ (.inl q)⟩
 refine codeAny_call_function hr.depth (D _ _ lk) rfl S.co S.gen rfl (PySem.W.codeRec_of D G) (hb _ _ _ _ ?_);refine wpAny_newFunctionEnv_cells S.kind U fun env he C x=>?_;subst he;refine⟨T.keeps x.toInCall.keep,codeAny_func ?_⟩;obtain⟨t,M,hq⟩:=Z A outer s H vs Q E (hr.deeper _) z;have I:Inv (bc CX P w K mg base N a scope f cdv A outer s H E) [] (start N vs) H C:=CS S hr.hd c O r x;refine wpAny_mono (M [] C (start N vs) H _ I hq) (fun L s' hs=>?_) fun e s' hs=>hs;have fin:∀{d:St}{H':Hp}{v:V}{u:Value},Inv (bc CX P w K mg base N a scope f cdv A outer s H E) [] d H' s'->RelV v u->Q v H'->CE outer P w H s Q u s':=
  fun{d H' v u} J g q=>⟨v,H',J.os,J.bare,J.base,J.hok,g,q⟩
 cases L with
 |ret u=>
  obtain⟨v,d,H',J,g,q⟩:=hs;exact fin J g q
 |next=>
  obtain⟨d,H',J,q⟩:=hs;exact fin (v:=V.non) (u:=Value.none) J rfl q
 |brk=>
  obtain⟨_,_,_,q⟩:=hs;exact False.elim q
 |cont=>
  obtain⟨_,_,_,q⟩:=hs;exact False.elim q
section
variable{X:Cx}{x:Str}{p pos:Pos}{e:Expr}{es:List Expr}{t:TA}{id T:String}{r:List V->Hp->VK->Prop}
def gO(r:List V->Hp->VK->Prop)(t:TA):TE:=fun σ H Q=>t σ H fun vs H1=>r vs H1 Q
def zl(hc:z0 X (.builtin id) r)(f:Gl X x)(hm:X.mg x=none)(g:AU x=some (.builtin id))(i:PA X (e::es) t)(j:x≠"__name__":=by decide)(l:(x==("__debug__":Str))=false:=by decide)
  (he:starEach (e::es) X.env=(false,eval e X.env)::starEach es X.env:=by rfl) (a:(backTo pos (starEach es X.env)).any (·.1)=false:=by rfl):PE X (.Call (.Name x p) (e::es) [] pos) (gO r t):=by
 intro aa s σ H Q I h;refine wpAny_Call_Name_kw (iM I f hm g ?_ j l);exact PyProof.Rows.callWith_builtin1 (aD (i pos aa s σ H _ I h) fun us b ⟨vs,H1,o,c,d⟩=>hc aa b σ H1 vs us Q o c d) he a
def zm(hc:z0 X (.type T) r)(f:Gl X x)(hm:X.mg x=none)(g:AU x=some (.type T))(i:PA X (e::es) t)(j:x≠"__name__":=by decide)(l:(x==("__debug__":Str))=false:=by decide)
  (he:starEach (e::es) X.env=(false,eval e X.env)::starEach es X.env:=by rfl) (a:(backTo pos (starEach es X.env)).any (·.1)=false:=by rfl):PE X (.Call (.Name x p) (e::es) [] pos) (gO r t):=by
 intro aa s σ H Q I h;refine wpAny_Call_Name_kw (iM I f hm g ?_ j l);exact PyProof.Rows.callWith_type1 (aD (i pos aa s σ H _ I h) fun us b ⟨vs,H1,o,c,d⟩=>hc aa b σ H1 vs us Q o c d) he a
end
end L2
namespace HT
open PySem PyProof.Rows
def lexLt:List Int->List Int->Bool
 |[],[]=>false
 |[],_::_=>true
 |_::_,[]=>false
 |x::xs,y::ys=>if x=y then lexLt xs ys else decide (x<y)
def zI(x y:Int)(xs ys:List Int):lexLt (x::xs) (y::ys)=if x=y then lexLt xs ys else decide (x<y):=rfl
def CU:lexLt [] []=false:=rfl
def zY(y:Int)(ys:List Int):lexLt [] (y::ys)=true:=rfl
def CV(x:Int)(xs:List Int):lexLt (x::xs) []=false:=rfl
def Hv(A:Around)(s:Shared)(a:Int)(t:Tok)(c:Int)(u:Tok):∃e,SeqAt.EqAt A s (.int a t) (.int c u) e/\(e=true↔a=c):=
 ⟨(a==c),SeqAt.EqAt.int_int a t c u,by simp⟩
def Hw(A:Around)(s:Shared)(a:Int)(t:Tok)(c:Int)(u:Tok)(prog:Program)(w:World)(E:Ω)(Q:Ω)(h:Q (.bool (decide (a<c))) s):wpAny (model prog w) A (richCompare .Lt (.int a t) (.int c u)) Q E s:=
 (PyProof.Rows.lt_int h:wpAny (model prog w) A (compareOp .Lt (.int a t) (.int c u)) Q E s)
section
open PySem.SeqAt
open PySem.AutoSeq1 (wpAny_loadPart')
open PySem.MeetsSeq PySem.MeetsSeq2 PySem.MeetsSeq3
def Hx(l b:Addr)(r v:Array Value)(n n2:Nat)(dd J:Option Addr)(L M:Array (Option Value))(ns ms:List Int)(hi:IntsAre r.toList ns)(G:IntsAre v.toList ms):Meets (Builtin.«tuple.__lt__» ⟨[.ref l,.ref b],[]⟩)
   (fun _ R s=>s.heap.get? l=some {cls:=.type "tuple",dict:=dd,data:=.seq r n,slots:=L}/\s.heap.get? b=some {cls:=.type "tuple",dict:=J,data:=.seq v n2,slots:=M}/\
    R (.ok (.ret (.bool (lexLt ns ms)))) s):=
 .of_wp fun prog w A R s h=>by
  obtain⟨hp,g,d,tk,os⟩:=s;obtain⟨H,hb,h⟩:=h;have f2:=AutoSeq1.sub_tuple_tuple;have P:r.size=ns.length:=by rw[<-hi.length];simp
  have z2:v.size=ms.length:=by rw[<-G.length];simp
  wp_walk using wpAny_loadPart' H,wpAny_loadPart' hb,wpAny_forIn_list _ (fun rest b s'=>b.1=none/\s'=⟨hp,g,d,tk,os⟩/\∃(vs z:List Value)(o p:List Int),rest=vs.zip z/\
   IntsAre vs o/\IntsAre z p/\o.length+v.size=p.length+r.size/\R (.ok (.ret (.bool (lexLt o p)))) ⟨hp,g,d,tk,os⟩) _
  case turn=>
   rintro⟨y,x⟩ rest b s' ⟨j,rfl,vs,z,o,p,i,D,C,f,hR⟩;cases D with
   |nil=>rw[List.zip_nil_left] at i;cases i
   |cons a t hvi'=>
    cases C with
    |nil=>rw[List.zip_nil_right] at i;cases i
    |cons c u hwi'=>
     rw[List.zip_cons_cons] at i;injection i with hyx bP
     injection hyx with hy hx
     subst hy hx;rw[zI] at hR;simp only[Au] at f;obtain⟨e,he,E⟩:=Hv A.in1 ⟨hp,g,d,tk,os⟩ a t c u;refine Aa (he prog w _ _ ?_);cases e with
     |true=>
      rw[if_pos (E.mp rfl)] at hR
      wp_walk
      exact⟨rfl,rfl,_,_,_,_,bP,hvi',hwi',ω,hR⟩
     |false=>
      rw[if_neg (fun q=>absurd (E.mpr q) Ao)] at hR;have I:=Hw A.in1 ⟨hp,g,d,tk,os⟩ a t c u prog w
      wp_walk using I
      exact⟨_,rfl,by simpa using hR⟩
  case fin=>
   rintro⟨N,O⟩ s' ⟨j,rfl,vs,z,o,p,i,D,C,f,hR⟩;simp only at j;subst j;have F:lexLt o p=decide (r.size<v.size):=by
    cases D with
    |nil=>
     cases C with
     |nil=>
      simp only[List.length_nil] at f;rw[CU];exact(decide_eq_false ω).symm
     |cons c u hw=>
      simp only[List.length_nil,Au] at f;rw[zY];exact(decide_eq_true ω).symm
    |cons a t F=>
     cases C with
     |nil=>
      simp only[List.length_nil,Au] at f;rw[CV];exact(decide_eq_false ω).symm
     |cons c u hw=>
      rw[List.zip_cons_cons] at i;cases i
   rw[F] at hR
   wp_walk
   exact⟨_,rfl,by simpa[Builtin.Tuple.tupleCompareSizes] using hR⟩
  case h=>
   exact⟨rfl,rfl,r.toList,v.toList,ns,ms,rfl,hi,G,ω,h⟩
end
section
variable{prog:Program}{w:World}{A:Around}{E:Ω}{s:Shared}
def Hy{l b:Addr}{a c:Array Value}{ns ms:List Int}{Q:Ω}(p:IsTup s.heap l a)(hb:IsTup s.heap b c)(hi:IntsAre a.toList ns)(q:IntsAre c.toList ms)(hu:A.units<cLine)(h:Q (.bool (lexLt ns ms)) s):wpAny (model prog w) A (compareOp .Lt (.ref l) (.ref b)) Q E s:=by
 obtain⟨⟨cls,dd,data,i⟩,d,hc,n,hd⟩:=id p;obtain⟨⟨r,j,data2,o⟩,e,f,n2,g⟩:=id hb;simp only at hc hd f g;subst hc hd f g;exact richCompare_meets_room (op:=.Lt) ⟨_,d,rfl⟩ ⟨_,e,rfl⟩ PySem.F.slot_tuple_lt PySem.F.entry_tuple_lt (PySem.F.args_tuple_lt_2 _ _) (Hx l b a c n n2 dd j i o ns ms hi q)
  ⟨d,e,show Value.bool (lexLt ns ms)≠Value.notImplemented/\Q (.bool (lexLt ns ms)) s from⟨(fun x=>nomatch x),h⟩⟩ hu
def Hz{t b:Addr}{vs a:List Value}{Q:Ω}(o:IsTup s.heap t vs.toArray)(hb:IsTup s.heap b a.toArray)(l:vs≠[])(h1:a=[]->Q (.ref t) s)(h2:a≠[]->Q (.ref s⁻¹) {s with heap:=s.heap.push {cls:=.type "tuple",data:=.seq (vs++a).toArray}})(hsz:vs.length+a.length<=sizeLine):wpAny (model prog w) A (binaryOp .Add (.ref t) (.ref b)) Q E s:=by
 obtain⟨⟨cls,dd,data,f⟩,c,hc,n,hd⟩:=id o;obtain⟨⟨p,g,data2,h⟩,d,i,n2,j⟩:=id hb;simp only at hc hd i j;subst hc hd i j;have e:vs.toArray++a.toArray=(vs++a).toArray:=by simp
 by_cases hw:a=[]
 ·exact concat_meets ⟨_,c,rfl⟩ ⟨_,d,rfl⟩ noFill_tuple_add seq_tuple_add PySem.F.slot_tuple_add PySem.F.entry_tuple_add (PySem.F.args_tuple_add_2 _ _)
   (tuple_addW1 t b vs.toArray a.toArray n n2 dd g f h (by simpa using l) (by simp[hw])) ⟨c,d,h1 hw⟩
 ·refine concat_meets ⟨_,c,rfl⟩ ⟨_,d,rfl⟩ noFill_tuple_add seq_tuple_add PySem.F.slot_tuple_add PySem.F.entry_tuple_add (PySem.F.args_tuple_add_2 _ _)
   (tuple_addW2 t b vs.toArray a.toArray n n2 dd g f h (by simpa using l) (by simpa using hw) (by rw[Ai,Ai];exact hsz)) ⟨c,d,?_⟩
  rw[e];exact h2 hw
def sIx(n d:Nat):Option Int->Nat
 |none=>d
 |some v=>if v<0 then(v+(n:Int)).toNat else min v.toNat n
def uY(n d:Nat):sIx n d none=d:=rfl
def p6(n d k:Nat):sIx n d (some (k:Int))=min k n:=by
 show(if(k:Int)<0 then((k:Int)+(n:Int)).toNat else min (k:Int).toNat n)=min k n;rw[if_neg ω,Bb]
def HF(n d:Nat)(hd:d<=n)(o:Option Int):sIx n d o<=n:=by
 cases o with
 |none=>exact hd
 |some v=>
  show(if v<0 then(v+(n:Int)).toNat else min v.toNat n)<=n
  by_cases a:v<0
  ·rw[if_pos a];omega
  ·rw[if_neg a];exact Nat.min_le_right _ _
def CW(v:Int)(n d:Nat):(if v<0 then max (v+(n:Int)) 0 else min v (n:Int))=((sIx n d (some v):Nat):Int):=by
 show(if v<0 then max (v+(n:Int)) 0 else min v (n:Int))=(((if v<0 then(v+(n:Int)).toNat else min v.toNat n):Nat):Int)
 by_cases a:v<0
 ·simp only[if_pos a];omega
 ·simp only[if_neg a];omega
def HG(lo hi:Option Int)(n:Nat):Builtin.Slice.sliceAdjust lo hi 1 (n:Int)=(((sIx n 0 lo:Nat):Int),((sIx n n hi:Nat):Int)):=by
 have h1:¬((1:Int)<0):=ω
 unfold Builtin.Slice.sliceAdjust;simp only[h1,if_false];refine Prod.ext ?_ ?_
 ·cases lo with
  |none=>rfl
  |some v=>exact CW v n 0
 ·cases hi with
  |none=>rfl
  |some v=>exact CW v n n
def HH(i j:Nat):Builtin.Slice.slicePlaces (i:Int) (j:Int) 1=j-i:=by
 unfold Builtin.Slice.slicePlaces;have h1:(1:Int)>0:=ω
 simp only[h1,if_true,Int.ediv_one];split<;>omega
def CY{v:Value}{o:Option Int}{Q:Option Int->Shared->Prop}(p:IsPart v o)(h:Q o s):wpAny (model prog w) A (Builtin.Slice.slicePartIndex v) Q E s:=by
 cases p with
 |none=>exact slicePart_none h
 |int i t=>exact slicePart_int h
def HI{e:Addr}{c d:Value}{lo hi:Option Int}{n:Nat}{Q:Int×Int×Nat->Shared->Prop}(hs:s.heap.IsSliceOf e c d .none)(f:IsPart c lo)(g:IsPart d hi)(h:Q (((sIx n 0 lo:Nat):Int),1,sIx n n hi-sIx n 0 lo) s):wpAny (model prog w) A (Builtin.Slice.sliceApplied (.ref e) (pure (n:Int))) Q E s:=by
 obtain⟨os,a,i,b⟩:=id hs;unfold Builtin.Slice.sliceApplied Builtin.Slice.sliceFields;refine Aa (Aa (AS a b (x:=c) rfl (Aa (AS a b (x:=d) rfl (Aa (AS a b (x:=.none) rfl (Ac ?_)))))));refine Aa (slicePart_none ?_);show wpAny _ _ (if((1:Int)==0)=true then _ else _) _ _ s;rw[if_neg ξ];refine Aa (CY f (Aa (CY g (Aa (Ac ?_)))));show wpAny _ _ (match Builtin.Slice.sliceAdjust lo hi 1 (n:Int) with|(lo,hi)=>pure (lo,(1:Int),Builtin.Slice.slicePlaces lo hi 1)) _ _ s;rw[HG lo hi n];show wpAny _ _ (pure (((sIx n 0 lo:Nat):Int),(1:Int),Builtin.Slice.slicePlaces ((sIx n 0 lo:Nat):Int) ((sIx n n hi:Nat):Int) 1)) _ _ s;rw[HH];exact Ac h
def HJ(xs:Array Value)(i k:Nat):((Bc k).filterMap fun(m:Nat)=>xs[((i:Int)+(m:Int)*1).toNat]?).toArray=((xs.toList.drop i).take k).toArray:=by
 have e:(fun(m:Nat)=>xs[((i:Int)+(m:Int)*1).toNat]?)=fun m=>xs[i+m]?:=by
  funext m
  have:((i:Int)+(m:Int)*1).toNat=i+m:=ω
  rw[this]
 rw[e];have:=pick_run xs i k;rw[List.filterMap_map] at this;have e2:((fun x=>xs[x]?) ∘ fun x=>i+x)=fun m=>xs[i+m]?:=rfl;rw[e2] at this;rw[this]
def HK{t e:Addr}{a:Array Value}{f g:Value}{lo hi:Option Int}{Q:Ω}(c:IsTup s.heap t a)(hs:s.heap.IsSliceOf e f g .none)(o:IsPart f lo)(p:IsPart g hi)(hw:¬(sIx a.size 0 lo=0/\sIx a.size a.size hi=a.size))(h:Q (.ref s⁻¹) {s with heap:=s.heap.push {cls:=.type "tuple",data:=.seq ((a.toList.drop (sIx a.size 0 lo)).take (sIx a.size a.size hi-sIx a.size 0 lo)).toArray}})(hsz:a.size<=sizeLine):wpAny (model prog w) A (getItem (.ref t) (.ref e)) Q E s:=by
 have b:sizeOk (.seq ((a.toList.drop (sIx a.size 0 lo)).take (sIx a.size a.size hi-sIx a.size 0 lo)).toArray):=by
  show((a.toList.drop (sIx a.size 0 lo)).take (sIx a.size a.size hi-sIx a.size 0 lo)).toArray.size<=sizeLine;rw[Ai,AJ,List.length_drop,Ay];omega
 have u:sIx a.size a.size hi<=a.size:=HF _ _ (Ag _) hi;obtain⟨os,i,j,r⟩:=id hs;have l:s.TypeIs (.ref e) "slice":=⟨os,i,j⟩;unfold getItem
 try with_reducible refine AA ?_
 first|refine Aa (Ac ?_)|skip
 refine Aa (wpAny_sequenceKey c.typeIs ξ ?_);refine Aa (AT (name:=Str.ofString "__getitem__") c.typeIs PyProof.Rows.slot_tuple_getitem
  (AF PyProof.Rows.slot_tuple_getitem c.typeIs entry_tuple_getitem ?_ (args_tuple_getitem _ _)))
 show wpAny _ _ (Builtin.Tuple.tupleItemsOf (.ref t) >>= _) _ _ s;refine Aa (tupleItemsOf_ c ?_);refine Aa (wpAny_typeOf l ?_);rw[if_pos ξ];refine Aa (HI hs o p ?_);have d:¬((((sIx a.size 0 lo:Nat):Int)==0&&(1:Int)==1&&(sIx a.size a.size hi-sIx a.size 0 lo)==a.size)=true):=by
  intro q;rw[AC,AC] at q;have v:((sIx a.size 0 lo:Nat):Int)=0:=eq_of_beq q.1.1;have x:sIx a.size a.size hi-sIx a.size 0 lo=a.size:=eq_of_beq q.2;exact hw ⟨ω,ω⟩
 show wpAny _ _ (if(((sIx a.size 0 lo:Nat):Int)==0&&(1:Int)==1&&(sIx a.size a.size hi-sIx a.size 0 lo)==a.size)=true then _ else _) _ _ s;rw[if_neg d,HJ]
 first
  |exact Aa (m:=Builtin.Tuple.tupleExact _) (AE (Ac ⟨_,rfl,Ac h⟩) b)
  |exact Aa (m:=Builtin.Tuple.tupleExact _) (AE (Aa (Ac (Ac ⟨_,rfl,Ac h⟩))) b)
  |exact Aa (Aa (m:=Builtin.Tuple.tupleExact _) (AE (Ac (Ac ⟨_,rfl,Ac h⟩)) b))
  |exact Aa (Aa (m:=Builtin.Tuple.tupleExact _) (AE (Ac ⟨_,rfl,Ac h⟩) b))
end
end HT
namespace L2
open PySem PySem.Spec PyProof.Rows
abbrev TO:=St->Hp->(Option Int->Hp->Prop)->Prop
def PO(X:Cx)(e:Option Expr)(t:TO):Prop:=
 ∀(aa:Ψ)(s:Shared)(σ:St)(H:Hp)(Q:Option Int->Hp->Prop),Inv X aa σ H s->t σ H Q->
  wpAny (model X.prog X.w) X.A (evalPart e X.env) (fun u s'=>∃o H',Inv X aa σ H' s'/\IsPart u o/\Q o H') X.xe s
def HL:TO:=fun _ H Q=>Q none H
def HM(t:TE):TO:=fun σ H Q=>t σ H fun x H1=>∃i,x=.int i/\Q (some i) H1
def intsAre_of{ns:List Int}:∀{us:List Value},Vals (ns.map V.int) us->IntsAre us ns:=by
 induction ns with
 |nil=>intro us r;rw[List.map_nil] at r;cases r;exact .nil
 |cons n ns ih=>
  intro us r;rw[Ar] at r;cases r with
  |cons r1 r2=>
   obtain⟨t,e⟩:=r1;subst e;exact .cons n t (ih r2)
section
variable{X:Cx}{e:Expr}{te:TE}{lo hi:Option Expr}{tl th:TO}{pos p2:Pos}
def u1:PO X none HL:=by
 intro aa s σ H Q I h;rw[evalPart_none];exact Ac ⟨none,H,I,.none,h⟩
def u4(h:PE X e te):PO X (some e) (HM te):=by
 intro aa s σ H Q I hw;rw[evalPart_some];refine aD (h aa s σ H _ I hw) fun u d ⟨x,H1,c,a,b⟩=>?_;obtain⟨i,rfl,q⟩:=b;obtain⟨t,rfl⟩:=a;exact⟨some i,H1,c,.int i t,q⟩
def va(X:Cx)(r:V->Option Int->Option Int->Hp->VK->Prop):Prop:=
 ∀(aa:Ψ)(s:Shared)(σ:St)(H:Hp)(x:V)(v a b:Value)(lo hi:Option Int)(c:Addr)(Q:VK),Inv X aa σ H s->RelV x v->s.heap.IsSliceOf c a b .none->IsPart a lo->IsPart b hi->r x lo hi H Q->
  ∃T id,typeLookup (.type T) "__getitem__"=pure (some (.builtin id))/\s.TypeIs v T/\wpAny (model X.prog X.w) X.A (getItem v (.ref c)) (EP X aa σ Q) X.xe s
def HN(r:V->Option Int->Option Int->Hp->VK->Prop)(te:TE)(tl th:TO):TE:=fun σ H Q=>te σ H fun x H1=>tl σ H1 fun l H2=>th σ H2 fun u a=>r x l u a Q
def vb{r:V->Option Int->Option Int->Hp->VK->Prop}(hr:va X r)(he:PE X e te)(G:PO X lo tl)(hu:PO X hi th):PE X (.Subscript e (.Slice lo hi none p2) pos) (HN r te tl th):=by
 intro aa s σ H Q I h;refine Subscript_ (aD (he aa s σ H _ I h) fun v g ⟨x,H1,J,i,j⟩=>?_);refine wpAny_Slice (aD (G aa g σ H1 _ J j) fun c o ⟨l,H2,L,p,y⟩=>aD (hu aa o σ H2 _ L y) fun d a ⟨u,f,I3,z,C⟩=>?_);rw[evalPart_none];refine Ac ?_;have M:Inv X aa σ f {a with heap:=a.heap.push {cls:=.type "slice",data:=.fields #[c,d,.none]}}:=I3.kept (t':=a.toks) fun b ob q=>Ae _ q;obtain⟨T,id,D,E,F⟩:=hr aa {a with heap:=a.heap.push {cls:=.type "slice",data:=.fields #[c,d,.none]}} σ f x v c d l u a⁻¹ Q M i (Heap.IsSliceOf.new ..) p z C;show wpAny (model X.prog X.w) X.A (subscriptTail e (.Slice lo hi none p2) v (.ref a⁻¹)) (EP X aa σ Q) X.xe {a with heap:=a.heap.push {cls:=.type "slice",data:=.fields #[c,d,.none]}};exact tail_any (ops:=[.ref a⁻¹,v]) E D F (by with_unfolding_all rfl)
def cM(xs:List V)(lo hi:Option Int):List V:=(xs.drop (HT.sIx xs.length 0 lo)).take (HT.sIx xs.length xs.length hi-HT.sIx xs.length 0 lo)
def CZ(xs:List V)(lo hi:Option Int):(cM xs lo hi).length<=xs.length:=by
 unfold cM;rw[AJ,List.length_drop];omega
def vk(K:Ad):V->Option Int->Option Int->Hp->VK->Prop:=fun x lo hi H Q=>∃a xs,x=.ref a/\SqT K H a xs/\
 ¬(HT.sIx xs.length 0 lo=0/\HT.sIx xs.length xs.length hi=xs.length)/\∀p,H p=none->Q (.ref p) (upd H p (.tup (cM xs lo hi)))
def HP:va X (vk X.K):=by
 intro aa s σ H x v l p lo hi u Q I f hs g i h;obtain⟨a,xs,rfl,hx,hw,q⟩:=h;cases f;obtain⟨j,r,d,e⟩:=I.tuple hx;have c:j.toArray.size=xs.length:=by rw[Ai];exact r.length.symm
 refine⟨"tuple",_,PyProof.Rows.slot_tuple_getitem.lookup,d.typeIs,?_⟩;refine HT.HK d hs g i (by rw[c];exact hw) ?_ (by rw[c];exact e);rw[c];refine⟨.ref s⁻¹,_,I.laid (t':=s.toks) (o:=.tup (cM xs lo hi)) (fun b ob q=>Ae _ q) (Ag _) ?_,rfl,q _ (I.hok.fresh (Ag _))⟩;exact⟨AQ (CZ xs lo hi) e,_,(r.drop (HT.sIx xs.length 0 lo)).take (HT.sIx xs.length xs.length hi-HT.sIx xs.length 0 lo),IsTup.new _ _⟩
def Vals.nil_iff{xs:List V}{us:List Value}(r:Vals xs us):us=[]↔xs=[]:=by
 cases r with
 |nil=>simp
 |cons _ _=>simp
end
def ig(n:Nat)(i:Int):Option Nat:=if 0<=i then(if i<n then some i.toNat else none) else if -(n:Int)<=i then some (i+n).toNat else none
def atI{a:Type}(xs:List a)(i:Int):Option a:=(ig xs.length i).bind fun j=>xs[j]?
def C0{n:Nat}{i:Int}{j:Nat}(h:ig n i=some j):seqIndex? i n=some j/\j<n/\-(n:Int)<=i/\i<n:=by
 unfold ig at h
 by_cases a:0<=i
 ·rw[if_pos a] at h
  by_cases h1:i<n
  ·rw[if_pos h1] at h
   have e:i.toNat=j:=An h;exact⟨by rw[seqIndex_of a h1,e],ω,ω,h1⟩
  ·rw[if_neg h1] at h;cases h
 ·rw[if_neg a] at h
  by_cases h1:-(n:Int)<=i
  ·rw[if_pos h1] at h
   have e:(i+n).toNat=j:=An h;exact⟨by rw[seqIndex_neg ω h1,e],ω,h1,ω⟩
  ·rw[if_neg h1] at h;cases h
def C1{a:Type}{xs:List a}{i:Int}{v:a}(h:atI xs i=some v):∃j,seqIndex? i xs.length=some j/\xs[j]?=some v/\j<xs.length/\-(xs.length:Int)<=i/\i<xs.length:=by
 unfold atI at h;cases e:ig xs.length i with
 |none=>rw[e] at h;cases h
 |some j=>
  rw[e] at h;obtain⟨h1,h2,b,c⟩:=C0 e;exact⟨j,h1,h,h2,b,c⟩
def zx{a:Type}{xs:List a}{j:Nat}{v:a}(h:xs[j]?=some v):atI xs (j:Int)=some v:=by
 have b:j<xs.length:=(List.getElem?_eq_some_iff.mp h).1;have e:ig xs.length (j:Int)=some j:=by
  unfold ig;rw[if_pos ω,if_pos ω];simp
 unfold atI;rw[e];exact h
def C2{a:Type}(xs:List a)(v:a):atI (xs++[v]) (-1)=some v:=by
 have b:(xs++[v]).length=xs.length+1:=by simp
 have e:ig (xs++[v]).length (-1)=some xs.length:=by
  unfold ig;rw[b,if_neg ξ,if_pos ω]
  congr 1
  omega
 unfold atI;rw[e];show(xs++[v])[xs.length]?=some v;simp
def HQ(b:Expr):Prop:=∀o i,subscripted b false o i=operate [o,i] (getItem o i)
def vl(X:Cx)(r:R2):Prop:=
 ∀(aT slice:Expr)(aa:Ψ)(s:Shared)(σ:St)(H:Hp)(x y:V)(v u:Value)(Q:VK),Inv X aa σ H s->RelV x v->RelV y u->r x y H Q->
  subscripted slice false v u=operate [v,u] (getItem v u)->wpAny (model X.prog X.w) X.A (subscriptTail aT slice v u) (EP X aa σ Q) X.xe s
def vr(X:Cx)(id:String)(r:V->List V->Hp->VK->Prop):Prop:=
 ∀(aa:Ψ)(s:Shared)(σ:St)(H:Hp)(x:V)(xs:List V)(v:Value)(us:List Value)(Q:VK),Inv X aa σ H s->RelV x v->Vals xs us->r x xs H Q->
  wpAny (model X.prog X.w) X.A (call (.builtin id) (v::us)) (EP X aa σ Q) X.xe s
section
variable{X:Cx}{a b:Expr}{ta tb:TE}{pos:Pos}
def zN{r:R2}(hr:vl X r)(f:PE X a ta)(hb:PE X b tb)(hs:HQ b):PE X (.Subscript a b pos) (da r ta tb):=by
 intro aa s σ H Q I h;exact Subscript_ (jC f hb I h fun v u c x y H2 g d e q=>hr a b aa c σ H2 x y v u Q g d e q (hs _ _))
def l_(K:Ad):R2:=fun x y H Q=>∃p xs i v,x=.ref p/\y=.int i/\SqL K H p xs/\atI xs i=some v/\Q v H
def dY(K:Ad):R2:=fun x y H Q=>∃p xs i v,x=.ref p/\y=.int i/\SqT K H p xs/\atI xs i=some v/\Q v H
def zD:vl X (l_ X.K):=by
 intro aT slice aa s σ H x y v u Q I e f h hs;obtain⟨p,xs,i,z,rfl,rfl,hq,he,q⟩:=h;cases e;obtain⟨t,rfl⟩:=f;obtain⟨g,r,a,D⟩:=I.list hq;obtain⟨j,h1,h2,E,l,o⟩:=C1 he;obtain⟨w,c,A⟩:=r.get h2;have C:=r.length;have F:=dB;have fin:EP X aa σ Q w s:=⟨z,H,I,A,q⟩
 by_cases d:0<=i
 ·have b:i.toNat=j:=by
   rw[seqIndex_of d o] at h1;exact An h1
  exact item_listR a.isList d ω (by rw[b];simpa using c) fin hs
 ·have b:(i+(g.toArray.size:Int)).toNat=j:=by
   rw[seqIndex_neg ω l] at h1;rw[Ai,<-C];exact An h1
  exact subscriptTail_builtinR (x:=w) a.isList.typeIs slot_list_getitem.lookup
   (wpAny_getItem_list_neg (Q:=fun r s'=>r=w/\EP X aa σ Q r s') a.isList ω (by rw[Ai]<;>omega) ω (by rw[b];simpa using c) ⟨rfl,fin⟩) hs
def fb:vl X (dY X.K):=by
 intro aT slice aa s σ H x y v u Q I b c h hs;obtain⟨p,xs,i,z,rfl,rfl,hq,he,q⟩:=h;cases b;obtain⟨t,rfl⟩:=c;obtain⟨g,r,a,l⟩:=I.tuple hq;obtain⟨j,h1,h2,o,A,C⟩:=C1 he;obtain⟨w,d,e⟩:=r.get h2;have f:=r.length;have D:=dB;have fin:EP X aa σ Q w s:=⟨z,H,I,e,q⟩;exact subscriptTail_builtinR (x:=w) a.typeIs slot_tuple_getitem.lookup
  (getItem_tuple (j:=j) (Q:=fun r s'=>r=w/\EP X aa σ Q r s') a ω ω (by rw[Ai,<-f];exact h1) (by simpa using d) ⟨rfl,fin⟩) hs
def HR(a:List Value)(n j:Nat)(u:Value):AG (·.setIfInBounds j u) {cls:=.type "list",data:=.seq a.toArray n}={cls:=.type "list",data:=.seq (a.set j u).toArray n}:=by
 simp[AG]
def Inv.lst{aa:Ψ}{σ:St}{H:Hp}{s:Shared}{p:Addr}{xs:List V}(I:Inv X aa σ H s)(h:H p=some (.lst xs)):∃(a:List Value)(n:Nat),Vals xs a/\s.heap.get? p=some {cls:=.type "list",data:=.seq a.toArray n}/\xs.length<=sizeLine:=by
 obtain⟨z,a,n,r,e⟩:=I.hok p _ h;exact⟨a,n,r,e,z⟩
def Inv.lstUpd{aa:Ψ}{σ:St}{H:Hp}{s:Shared}{p:Addr}{xs ys:List V}{c its':List Value}{n a:Nat}{f:Obj->Obj}(I:Inv X aa σ H s)(h:H p=some (.lst xs))(d:s.heap.get? p=some {cls:=.type "list",data:=.seq c.toArray n})(hf:f {cls:=.type "list",data:=.seq c.toArray n}={cls:=.type "list",data:=.seq its'.toArray a})(r:Vals ys its')(g:ys.length<=sizeLine)(t:Nat):Inv X aa σ (upd H p (.lst ys)) {s with heap:=s.heap.update p f,toks:=t}:=by
 have e:(s.heap.update p f).get? p=some {cls:=.type "list",data:=.seq its'.toArray a}:=by
  rw[Heap.get?_update_self f d (by rw[hf]<;>rfl),hf]
 refine I.write (x:=p) (e:=p) (by rw[h];trivial) (.inl rfl) (fun b u hb q=>(Heap.get?_update_other _ _ (Ne.symm hb)).trans q) ⟨_,e⟩ ?_;exact⟨g,its',a,r,e⟩
def HS:V->V->V->Hp->(Hp->Prop)->Prop:=fun o i v H Q=>∃p xs k j,o=.ref p/\i=.int k/\H p=some (.lst xs)/\ig xs.length k=some j/\Q (upd H p (.lst (xs.set j v)))
def set_list:lL X HS:=by
 intro aa s σ H o i v A iv u Q I l w x h;obtain⟨p,xs,k,j,rfl,rfl,hp,y,q⟩:=h;cases l;obtain⟨t,rfl⟩:=w;obtain⟨c,n,r,a,z⟩:=I.lst hp;obtain⟨h1,h2,d,e⟩:=C0 y;have b:=r.length;have C:=dB;have g:Inv X aa σ (upd H p (.lst (xs.set j v))) {s with heap:=s.heap.update p (AG (·.setIfInBounds j u))}:=
  I.lstUpd hp a (HR c n j u) (r.set x j) (by rw[List.length_set];exact z) s.toks
 by_cases f:0<=k
 ·have hk:k.toNat=j:=by
   rw[seqIndex_of f e] at h1;exact An h1
  exact PySem.W.ki_setAt a f ω (by rw[Ai,<-b];exact e) (by rw[hk];exact⟨_,g,q⟩)
 ·have hk:(k+(c.toArray.size:Int)).toNat=j:=by
   rw[seqIndex_neg ω d] at h1;rw[Ai,<-b];exact An h1
  exact PySem.W.ki_setBack a ω (by rw[Ai,<-b];exact d) ω (by rw[hk];exact⟨_,g,q⟩)
def HU(lo hi:Option Int)(n:Nat):(sliceBounds lo hi none n).1=((HT.sIx n 0 lo:Nat):Int)/\(sliceBounds lo hi none n).2.1=((HT.sIx n n hi:Nat):Int)/\(sliceBounds lo hi none n).2.2=1:=by
 refine⟨?_,?_,rfl⟩
 ·cases lo with
  |none=>simp[sliceBounds,HT.sIx]
  |some i=>
   simp only[sliceBounds,HT.sIx,Option.getD_none,show(1:Int)>0 from ξ,if_true]
   by_cases h:i<0
   ·simp only[h,if_true]<;>omega
   ·simp only[h,if_false]<;>omega
 ·cases hi with
  |none=>simp[sliceBounds,HT.sIx]
  |some i=>
   simp only[sliceBounds,HT.sIx,Option.getD_none,show(1:Int)>0 from ξ,if_true]
   by_cases h:i<0
   ·simp only[h,if_true]<;>omega
   ·simp only[h,if_false]<;>omega
def HV(a:List Value)(lo hi:Option Int):slicePick a.toArray lo hi none=((a.drop (HT.sIx a.length 0 lo)).take (HT.sIx a.length a.length hi-HT.sIx a.length 0 lo)).toArray:=by
 obtain⟨h1,h2,b⟩:=HU lo hi a.toArray.size;unfold slicePick;rw[h1,h2,b];simp only[sliceRange_one,pick_run,Ai]<;>rfl
def l'(K:Ad):V->Option Int->Option Int->Hp->VK->Prop:=fun x lo hi H Q=>∃a xs,x=.ref a/\SqL K H a xs/\∀p,H p=none->Q (.ref p) (upd H p (.lst (cM xs lo hi)))
def C3:va X (l' X.K):=by
 intro aa s σ H x v j l lo hi p Q I e hs f g h;obtain⟨a,xs,rfl,hx,q⟩:=h;cases e;obtain⟨u,r,d,i⟩:=I.list hx;have c:=r.length;refine⟨"list",_,slot_list_getitem.lookup,d.isList.typeIs,?_⟩;refine wpAny_getItem_list_slice d.isList hs f g .none (by simp) ?_ (by rw[Ai]<;>omega);rw[HV,<-c];refine⟨.ref s⁻¹,_,I.laid (t':=s.toks) (o:=.lst (cM xs lo hi)) (fun b ob q=>Ae _ q) (Ag _) ?_,rfl,q _ (I.hok.fresh (Ag _))⟩;exact⟨AQ (CZ xs lo hi) i,_,0,(r.drop (HT.sIx xs.length 0 lo)).take (HT.sIx xs.length xs.length hi-HT.sIx xs.length 0 lo),Ak _ rfl⟩
def fV:V->Bool
 |.non=>true
 |.bl _=>true
 |.int _=>true
 |.str _=>true
 |_=>false
def fi:V->V->Bool
 |.non,.non=>true
 |.bl a,.bl b=>a==b
 |.bl a,.int b=>(if a then 1 else 0)==b
 |.int a,.bl b=>a==(if b then 1 else 0)
 |.int a,.int b=>a==b
 |.str a,.str b=>a==b
 |_,_=>false
def HW{A:Around}{s:Shared}{y x:V}{u v:Value}(d:RelV y u)(c:RelV x v)(e:fV y=true)(fx:fV x=true):SeqAt.EqAt A s u v (fi y x):=by
 cases y with
 |non=>
  cases d;cases x with
  |non=>cases c;exact SeqAt.EqAt.same _
  |bl b=>cases c;exact SeqAt.EqAt.none_bool b
  |int b=>obtain⟨t,rfl⟩:=c;exact SeqAt.EqAt.none_int b t
  |str b=>obtain⟨t,rfl⟩:=c;exact SeqAt.EqAt.none_str b t
  |_=>exact absurd (show false=true from fx) Ao
 |bl a=>
  cases d;cases x with
  |non=>cases c;exact SeqAt.EqAt.bool_none a
  |bl b=>cases c;exact SeqAt.EqAt.bool_bool a b
  |int b=>obtain⟨t,rfl⟩:=c;exact SeqAt.EqAt.bool_int a b t
  |str b=>obtain⟨t,rfl⟩:=c;exact SeqAt.EqAt.bool_str a b t
  |_=>exact absurd (show false=true from fx) Ao
 |int a=>
  obtain⟨t',rfl⟩:=d;cases x with
  |non=>cases c;exact SeqAt.EqAt.int_none a t'
  |bl b=>cases c;exact SeqAt.EqAt.int_bool a t' b
  |int b=>obtain⟨t,rfl⟩:=c;exact SeqAt.EqAt.int_int a t' b t
  |str b=>obtain⟨t,rfl⟩:=c;exact SeqAt.EqAt.int_str a t' b t
  |_=>exact absurd (show false=true from fx) Ao
 |str a=>
  obtain⟨t',rfl⟩:=d;cases x with
  |non=>cases c;exact SeqAt.EqAt.str_none a t'
  |bl b=>cases c;exact SeqAt.EqAt.str_bool a t' b
  |int b=>obtain⟨t,rfl⟩:=c;exact SeqAt.EqAt.str_int a t' b t
  |str b=>obtain⟨t,rfl⟩:=c;exact SeqAt.EqAt.str_str a t' b t
  |_=>exact absurd (show false=true from fx) Ao
 |_=>exact absurd (show false=true from e) Ao
def ii(x:V)(u:Value):Bool:=match u with
 |.none=>fi .non x
 |.bool b=>fi (.bl b) x
 |.int i _=>fi (.int i) x
 |.str z _=>fi (.str z) x
 |_=>false
def vu{x y:V}{u:Value}(r:RelV y u)(f:fV y=true):ii x u=fi y x:=by
 cases y with
 |non=>cases r;rfl
 |bl b=>cases r;rfl
 |int i=>obtain⟨t,rfl⟩:=r;rfl
 |str z=>obtain⟨t,rfl⟩:=r;rfl
 |_=>exact absurd (show false=true from f) Ao
def vI{A:Around}{s:Shared}{x:V}{v:Value}(a:RelV x v)(fx:fV x=true):∀{xs:List V}{us:List Value},Vals xs us->xs.all fV=true->∀u∈us,SeqAt.EqAt A s u v (ii x u)
 |_,_,.nil,_=>fun u hu=>by cases hu
 |y::xs,u::us,.cons r t,f=>fun b hu=>by
  rw[List.all_cons,AC] at f;rcases List.mem_cons.mp hu with rfl|hu
  ·rw[vu r f.1];exact HW r a f.1 fx
  ·exact vI a fx t f.2 b hu
def zk:z0 X (.builtin "len") (fun xs H Q=>∃p ys,xs=[.ref p]/\(SqL X.K H p ys\/SqT X.K H p ys)/\Q (.int ys.length) H):=by
 intro aa s σ H xs us Q I r h;obtain⟨p,ys,rfl,hq,q⟩:=h;obtain⟨u,rfl,d⟩:=vals1 r;cases d;have g:=dB;rcases hq with hq|hq
 ·obtain⟨e,b,c,f⟩:=I.list hq
  have a:=b.length;exact Calls.call_len_list c.isList (by simp only[Ai]<;>omega) ⟨.int ys.length,H,I.tok _,⟨s.toks+1,by rw[Ai,a]⟩,q⟩
 ·obtain⟨e,b,c,f⟩:=I.tuple hq
  have a:=b.length;exact len_tuple c (by simp only[Ai]<;>omega) ⟨.int ys.length,H,I.tok _,⟨s.toks+1,by rw[Ai,a]⟩,q⟩
def me:z0 X (.type "list") (fun xs H Q=>∃p ys,xs=[.ref p]/\(SqL X.K H p ys\/SqT X.K H p ys)/\∀l,H l=none->Q (.ref l) (upd H l (.lst ys))):=by
 intro aa s σ H xs us Q I r h;obtain⟨p,ys,rfl,hq,q⟩:=h;obtain⟨u,rfl,x⟩:=vals1 r;cases x;have fin:∀(a:List Value),Vals ys a->ys.length<=sizeLine->∀(h':Heap)(d:Nat),(∀b o',s.heap.get? b=some o'->h'.get? b=some o')->
   h'.get? s⁻¹=some {cls:=.type "list",dict:=none,data:=.seq a.toArray d,slots:=#[]}->EP X aa σ Q (.ref s⁻¹) {s with heap:=h'}:=fun a c f h' d g e=>
  ⟨.ref s⁻¹,_,I.laid (t':=s.toks) g (Ag _) (show zC X.prog X.w _ h' _ (.lst ys) from⟨f,a,d,c,e⟩),rfl,q _ (I.hok.fresh (Ag _))⟩
 rcases hq with hq|hq
 ·obtain⟨a,c,j,f⟩:=I.list hq
  have i:=c.length;obtain⟨o,v,hc,n,hd⟩:=j.isList;exact call_list_seq p (.inl rfl) v hc hd (fun h' d g e=>fin a c f h' d g e) (by simp only[Ai]<;>omega)
 ·obtain⟨a,c,j,f⟩:=I.tuple hq
  have i:=c.length;obtain⟨o,v,hc,n,hd⟩:=j;exact call_list_seq p (.inr rfl) v hc hd (fun h' d g e=>fin a c f h' d g e) (by simp only[Ai]<;>omega)
def zL:z0 X (.type "tuple") (fun xs H Q=>∃p ys,xs=[.ref p]/\((SqL X.K H p ys/\∀l,H l=none->Q (.ref l) (upd H l (.tup ys)))\/(SqT X.K H p ys/\Q (.ref p) H))):=by
 intro aa s σ H xs us Q I r h;obtain⟨p,ys,rfl,h⟩:=h;obtain⟨u,rfl,j⟩:=vals1 r;cases j;rcases h with ⟨hq,q⟩|⟨hq,q⟩
 ·obtain⟨a,c,d,f⟩:=I.list hq
  have g:=c.length;refine call_tuple_list d.isList (fun h' i=>?_) (by simp only[Ai]<;>omega);have I1:Inv X aa σ H {s with heap:=h'}:=I.kept (t':=s.toks) i;have v:Inv X aa σ (upd H h'.objs.size (.tup ys)) {s with heap:=h'.push {cls:=.type "tuple",data:=.seq a.toArray}}:=
   I1.laid (t':=s.toks) (fun b o e=>Ae _ e) (Ag _) (show zC X.prog X.w _ _ _ (.tup ys) from⟨f,a,c,IsTup.new _ _⟩)
  exact⟨.ref h'.objs.size,_,v,rfl,q _ (I1.hok.fresh (Ag _))⟩
 ·obtain⟨a,c,d,f⟩:=I.tuple hq
  exact call_tuple_same d ⟨.ref p,H,I,rfl,q⟩
def C4(K:Ad)(T:String)(x:V)(H:Hp):Prop:=match x with
 |.str _=>T="str"
 |.int _=>T="int"
 |.ref p=>(T="list"/\∃xs,SqL K H p xs)\/(T="tuple"/\∃o,K.lookup p=some o/\o.cls=.type "tuple"/\o.dict=none) \/
   (T="dict"/\((∃kvs,H p=some (.dK kvs))\/∃kvs,H p=some (.dT kvs)))\/(T="set"/\∃S n,H p=some (.set S n))
 |_=>False
def HX{aa:Ψ}{σ:St}{H:Hp}{s:Shared}{T:String}{x:V}{v:Value}(I:Inv X aa σ H s)(r:RelV x v)(ty:C4 X.K T x H):s.TypeIs v T/\∀a,v=.ref a->∃ob,s.heap.get? a=some ob/\ob.dict=none:=by
 cases x with
 |str z=>
  obtain⟨t,rfl⟩:=r;cases(show T="str" from ty);exact⟨typeIs_str s z t,fun _ e=>nomatch e⟩
 |int i=>
  obtain⟨t,rfl⟩:=r;cases(show T="int" from ty);exact⟨typeIs_int s i t,fun _ e=>nomatch e⟩
 |ref p=>
  cases r;rcases ty with ⟨rfl,xs,hq⟩|⟨rfl,o,hk,hc,hd⟩|⟨rfl,hk⟩|⟨rfl,S,n,hk⟩
  ·obtain⟨d,_,b,_⟩:=I.list hq
   refine⟨b.isList.typeIs,fun a e=>?_⟩;cases e;obtain⟨o,n,e,c,hd,_⟩:=b;exact⟨o,e,hd⟩
  ·refine⟨⟨o,I.kIn p o hk,hc⟩,fun a e=>?_⟩
   cases e;exact⟨o,I.kIn _ o hk,hd⟩
  ·have z:∃o,s.heap.get? p=some o/\o.ExactDict:=by
    rcases hk with ⟨kvs,hk⟩|⟨kvs,hk⟩
    ·obtain⟨_,_,_,_,o,_,_,e,ex,_⟩:=I.hok p _ hk
     exact⟨o,e,ex⟩
    ·obtain⟨_,_,_,_,o,_,_,e,ex,_⟩:=I.hok p _ hk
     exact⟨o,e,ex⟩
   obtain⟨o,e,ex⟩:=z;refine⟨⟨o,e,ex.1⟩,fun a e2=>?_⟩;cases e2;exact⟨o,e,ex.2.1⟩
  ·obtain⟨o,_,_,_,e,ex,_⟩:=I.hok p _ hk
   refine⟨⟨o,e,ex.1⟩,fun a e2=>?_⟩;cases e2;exact⟨o,e,ex.2.1⟩
 |_=>exact False.elim ty
def HY(K:Ad)(T:String)(r:V->List V->Hp->VK->Prop)(to:TE)(t:TA):TE:=fun σ H Q=>to σ H fun x H1=>C4 K T x H1/\t σ H1 fun xs H2=>r x xs H2 Q
variable{o e:Expr}{es:List Expr}{to:TE}{t:TA}{name:Str}{bf aB:Pos}{T id:String}{r:V->List V->Hp->VK->Prop}
def i3(p:PlainAttrs T)(slot:Slot T name id)(q:typeOf (.builtin id)=pure (.type "method_descriptor"))(hm:vr X id r)(u:PE X o to)(w:PA X (e::es) t)(y:attributeBase o name X.env (eval o X.env)=eval o X.env:=by rfl)
  (z:((backTo aB (starEach (e::es) X.env)).all (fun x=>!x.1)&&(backToKw aB (keywordEach [] X.env)).all (fun x=>x.1.isSome)
   && decide ((e::es).length+([]:List Keyword).length+(if([]:List Keyword).isEmpty then 0 else 1)<30))=true:=by rfl)
  (A:(bf.endLine==aB.line)=true:=by rfl) (hs:starEach (e::es) X.env=(false,eval e X.env)::starEach es X.env:=by rfl) (C:(backTo aB (starEach es X.env)).any (·.1)=false:=by rfl) :
  PE X (.Call (.Attribute o name bf) (e::es) [] aB) (HY X.K T r to t):=by
 intro aa s σ H Q I h;refine wpAny_Call_method_late y z A rfl (aD (u aa s σ H _ I h) fun v f ⟨x,H1,d,b,ty,g⟩=>?_);obtain⟨h1,h2⟩:=HX d b ty;refine⟨T,id,p,slot,q,h1,h2,?_⟩;have c:=w aB aa f σ H1 _ d g;rw[hs] at c ⊢;refine Calls.callWith_builtin (by show(false|| (backTo aB (starEach es X.env)).any (·.1))=false;rw[C]<;>rfl) (Calls.evalArgs_plain ?_);exact aD c fun us i ⟨vs,H2,D,j,l⟩=>hm aa i σ H2 x vs v us Q D b j l
end
def kA(X:Cx)(id:String)(r:V->List V->Hp->VK->Prop):Prop:=
 ∀(aa:Ψ)(s:Shared)(σ:St)(H:Hp)(x:V)(xs:List V)(v:Value)(us:List Value)(Q:VK),Inv X aa σ H s->RelV x v->Vals xs us->r x xs H Q->
  wpAny (model X.prog X.w) X.A (call (.builtin id) (v::us)) (EP X aa σ Q) X.xe s
def Vals.one{x:V}{us:List Value}(h:Vals [x] us):∃u,us=[u]/\RelV x u:=by
 cases h with|cons r t=>cases t;exact⟨_,rfl,r⟩
def Vals.two{x y:V}{us:List Value}(h:Vals [x,y] us):∃u v,us=[u,v]/\RelV x u/\RelV y v:=by
 cases h with|cons r t=>obtain⟨v,rfl,q⟩:=Vals.one t;exact⟨_,_,rfl,r,q⟩
def Vals.zero:∀{us:List Value},Vals [] us->us=[]
 |_,.nil=>rfl
def Vals.eraseIdx:∀{xs:List V}{us:List Value}(i:Nat),Vals xs us->Vals (xs.eraseIdx i) (us.eraseIdx i)
 |_,_,_,.nil=>.nil
 |_,_,0,.cons _ t=>t
 |_,_,i+1,.cons r t=>.cons r (Vals.eraseIdx i t)
def Vals.reverse{xs:List V}{us:List Value}(h:Vals xs us):Vals xs.reverse us.reverse:=by
 induction h with
 |nil=>exact .nil
 |cons r t ih=>rw[List.reverse_cons,List.reverse_cons];exact Vals.append ih (.cons r .nil)
section
variable{X:Cx}{aa:Ψ}{σ:St}{H:Hp}{s:Shared}{l b:Addr}{xs ys zs:List V}
def Inv.lset{a its':List Value}{n:Nat}{f:Array Value->Array Value}{t':Nat}(I:Inv X aa σ H s)(b:H l=some (.lst xs))(e:s.heap.get? l=some {cls:=.type "list",data:=.seq a.toArray n})(hf:f a.toArray=its'.toArray)(c:Vals ys its')(d:ys.length<=sizeLine):Inv X aa σ (upd H l (.lst ys)) {s with heap:=s.heap.update l (AG f),toks:=t'}:=by
 have q:=PySem.IsL.update e f;rw[hf] at q;refine I.write (x:=l) (e:=l) (by rw[b];exact trivial) (.inl rfl) (fun g u hb hu=>(Heap.get?_update_other s.heap (AG f) (Ne.symm hb)).trans hu) ⟨_,q⟩ ?_;exact⟨d,its',_,c,q⟩
def Inv.lnew{a:List Value}{t':Nat}(I:Inv X aa σ H s)(b:Vals ys a)(c:ys.length<=sizeLine):Inv X aa σ (upd H s⁻¹ (.lst ys)) {s with heap:=s.heap.push {cls:=.type "list",data:=.seq a.toArray},toks:=t'}:=
 I.laid (fun _ _ q=>Ae _ q) (Ag _) ⟨c,a,0,b,Ak _ rfl⟩
def Inv.fresh(I:Inv X aa σ H s):H s⁻¹=none:=I.hok.fresh (Ag _)
def Inv.lstM(I:Inv X aa σ H s)(b:H l=some (.lst xs)):xs.length<=sizeLine/\∃(a:List Value)(n:Nat),Vals xs a/\xs.length=a.length/\s.heap.get? l=some {cls:=.type "list",data:=.seq a.toArray n}:=by
 obtain⟨z,a,n,r,e⟩:=I.hok l _ b;exact⟨z,a,n,r,r.length,e⟩
def HZ{n:Nat}(h:n<=sizeLine):Builtin.List.listTooLong n=false:=by
 unfold Builtin.List.listTooLong;exact decide_eq_false ω
end
section
variable{X:Cx}
def zmI:V->List V->Hp->VK->Prop:=fun x vs H Q=>∃l xs y,x=.ref l/\vs=[y]/\H l=some (.lst xs)/\xs.length<sizeLine/\Q .non (upd H l (.lst (xs++[y])))
def p8:kA X "list.append" zmI:=by
 intro aa s σ H x vs v us Q I c d h;obtain⟨l,xs,y,rfl,rfl,a,g,q⟩:=h;cases c;obtain⟨u,rfl,f⟩:=d.one;obtain⟨z,b,n,r,i,e⟩:=I.lstM a;refine call_meets F.slot_list_append ⟨_,e,rfl⟩ F.entry_list_append (F.args_list_append_2 _ _) (PySem.list_append l b.toArray n u (by rw[Ai];omega)) ⟨e,?_⟩;refine⟨.non,_,I.lset (its':=b++[u]) a e (by simp) (r.append (.cons f .nil)) ?_,rfl,q⟩;rw[Aw,List.length_singleton];omega
def zm8:V->List V->Hp->VK->Prop:=fun x vs H Q=>∃l b xs zs,x=.ref l/\vs=[.ref b]/\H l=some (.lst xs)/\H b=some (.lst zs)/\xs.length+zs.length<=sizeLine/\Q .non (upd H l (.lst (xs++zs)))
def H_:kA X "list.extend" zm8:=by
 intro aa s σ H x vs v us Q I g i h;obtain⟨l,b,xs,zs,rfl,rfl,f,j,y,q⟩:=h;cases g;obtain⟨u,rfl,o⟩:=i.one;cases o;obtain⟨z,c,n,r,A,e⟩:=I.lstM f;obtain⟨z2,d,n2,p,w,e2⟩:=I.lstM j;have hsz:c.toArray.size+d.toArray.size<=sizeLine:=by rw[Ai,Ai];omega
 have a:¬(!c.toArray.isEmpty&&Builtin.List.listTooLong (c.toArray.size+d.toArray.size))=true:=by
  rw[HZ hsz,Bool.and_false];exact Ao
 refine call_meets F.slot_list_extend ⟨_,e,rfl⟩ F.entry_list_extend (F.args_list_extend_2 _ _)
  (AutoSeq1.list_extend_list_list_0 l c.toArray n b d.toArray n2 a (by rw[Ai];omega) ω) ⟨e,e2,?_⟩
 refine⟨.non,_,I.lset (its':=c++d) f e (by simp) (r.append p) ?_,rfl,q⟩;rw[Aw];omega
def vM:R2:=fun x y H Q=>∃l b xs zs,x=.ref l/\y=.ref b/\H l=some (.lst xs)/\H b=some (.lst zs)/\xs.length+zs.length<=sizeLine/\∀p,H p=none->Q (.ref p) (upd H p (.lst (xs++zs)))
def i4:ci X (binaryOp .Add) vM:=by
 intro aa s σ H x y v u Q I d f h;obtain⟨l,b,xs,zs,rfl,rfl,g,i,w,q⟩:=h;cases d;cases f;obtain⟨z,a,n,r,A,e⟩:=I.lstM g;obtain⟨z2,c,n2,j,o,e2⟩:=I.lstM i;refine PySem.P.add_list e e2 ?_ (by rw[Ai,Ai];omega);have p:a.toArray++c.toArray=(a++c).toArray:=by simp
 rw[p];exact⟨.ref _,_,I.lnew (t':=s.toks) (r.append j) (by rw[Aw];omega),rfl,q _ I.fresh⟩
end
section
variable{prog:Program}{w:World}{A:Around}{E:Ω}{s:Shared}
set_option maxRecDepth 100000 in
end
section
variable{κ:Type}[DecidableEq κ]
def bI(kvs:List (κ×V))(k:κ):Option V:=(kvs.find? fun kv=>decide (kv.1=k)).map (·.2)
def putK(kvs:List (κ×V))(k:κ)(v:V):List (κ×V):=
 if(kvs.any fun kv=>decide (kv.1=k))=true then kvs.map (fun kv=>if kv.1=k then(kv.1,v) else kv) else kvs++[(k,v)]
def Op(kvs:List (κ×V))(k:κ):List (κ×V):=kvs.filter fun kv=>decide (kv.1≠k)
def mm{p:κ×V}{r:List (κ×V)}{k:κ}(e:p.1=k):bI (p::r) k=some p.2:=by simp[bI,List.find?_cons,e]
def mu{p:κ×V}{r:List (κ×V)}{k:κ}(e:¬p.1=k):bI (p::r) k=bI r k:=by simp[bI,List.find?_cons,e]
def C5(k:κ):∀kvs:List (κ×V),(kvs.any fun kv=>decide (kv.1=k))=(bI kvs k).isSome
 |[]=>rfl
 |p::r=>by
  rw[List.any_cons]
  by_cases e:p.1=k
  ·simp only[mm e,decide_eq_true e,Bool.true_or,Option.isSome_some]
  ·rw[mu e,decide_eq_false e,Bool.false_or];exact C5 k r
def vY(kvs:List (κ×V))(k:κ)(v:V):(putK kvs k v).length<=kvs.length+1:=by
 unfold putK;split
 ·rw[Ab];omega
 ·rw[Aw,Au,List.length_nil];omega
def RelO.isSome_eq{o:Option V}{u:Option Value}(r:RelO o u):o.isSome=u.isSome:=by
 cases o with
 |none=>cases u with
  |none=>rfl
  |some _=>exact(show False from r).elim
 |some _=>cases u with
  |none=>exact(show False from r).elim
  |some _=>rfl
def RelO.getD{o:Option V}{u:Option Value}{d:V}{d':Value}(r:RelO o u)(a:RelV d d'):RelV (o.getD d) (u.getD d'):=by
 cases o with
 |none=>cases u with
  |none=>exact a
  |some _=>exact(show False from r).elim
 |some _=>cases u with
  |none=>exact(show False from r).elim
  |some _=>exact r
def KV.val{kvs:List (κ×V)}{vs:List (κ×Value)}(r:KV kvs vs)(k:κ):RelO (bI kvs k) (valueAt vs k):=by
 unfold KV at r
 induction r with
 |nil=>exact True.intro
 |@cons p q ps a h t d=>
  obtain⟨h1,h2⟩:=h
  by_cases e:p.1=k
  ·have c:q.1=k:=h1.symm.trans e
   have b:valueAt (q::a) k=some q.2:=by simp[valueAt,List.find?_cons,c]
   rw[mm e,b];exact h2
  ·have c:¬q.1=k:=fun z=>e (h1.trans z)
   have b:valueAt (q::a) k=valueAt a k:=by simp[valueAt,List.find?_cons,c]
   rw[mu e,b];exact d
def KV.any{kvs:List (κ×V)}{vs:List (κ×Value)}(r:KV kvs vs)(k:κ):(kvs.any fun kv=>decide (kv.1=k))=vs.any fun kv=>decide (kv.1=k):=by
 unfold KV at r
 induction r with
 |nil=>rfl
 |cons h t ih=>rw[List.any_cons,List.any_cons,ih,h.1]
def KV.repl{kvs:List (κ×V)}{vs:List (κ×Value)}(r:KV kvs vs)(k:κ){y:V}{u:Value}(a:RelV y u):KV (kvs.map fun kv=>if kv.1=k then(kv.1,y) else kv) (vs.map fun kv=>if kv.1=k then(kv.1,u) else kv):=by
 unfold KV at r ⊢
 induction r with
 |nil=>exact .nil
 |@cons p q ps qs h t ih=>
  rw[Ar,Ar];refine .cons ?_ ih;obtain⟨h1,h2⟩:=h
  by_cases e:p.1=k
  ·rw[if_pos e,if_pos (h1.symm.trans e)];exact⟨h1,a⟩
  ·rw[if_neg e,if_neg (fun z=>e (h1.trans z))];exact⟨h1,h2⟩
def KV.put{kvs:List (κ×V)}{vs:List (κ×Value)}(r:KV kvs vs)(k:κ){y:V}{u:Value}(a:RelV y u):KV (putK kvs k y) (stored vs k u):=by
 unfold putK stored;rw[r.any k]
 by_cases e:(vs.any fun kv=>decide (kv.1=k))=true
 ·rw[if_pos e,if_pos e];exact r.repl k a
 ·rw[if_neg e,if_neg e];exact Paired.snoc r ⟨rfl,a⟩
def KV.length{kvs:List (κ×V)}{vs:List (κ×Value)}(r:KV kvs vs):kvs.length=vs.length:=A4 r
end
def my{P:Program}{w:World}{k:Key}{u:Value}(r:RelV (kV k) u):(zw P w).is k u=true:=by
 cases k with
 |inl i=>obtain⟨t,e⟩:=(show ∃t,u=Value.int i t from r);subst e;exact sQ P w i t
 |inr x=>obtain⟨t,e⟩:=(show ∃t,u=Value.str x t from r);subst e;exact G1 P w x t
def C6{P:Program}{w:World}:∀{ks:List Key}{us:List Value},Vals (ks.map kV) us->ItemsAre (zw P w) ks us
 |[],_,r=>by rw[List.map_nil] at r;cases r;exact .nil
 |k::ks,_,r=>by
  rw[Ar] at r;cases r with
  |cons h t=>exact .cons (my h) (C6 t)
abbrev KT(H:Hp):List (List Key×V)->List (List Key×Addr×Value)->Prop:=Paired fun p q=>p.1=q.1/\H q.2.1=some (.tup (p.1.map kV))/\RelV p.2 q.2.2
def KT.val{H:Hp}{kvs:List (List Key×V)}{xs:List (List Key×Addr×Value)}(r:KT H kvs xs)(k:List Key):RelO (bI kvs k) ((atKey xs k).map (·.2)):=by
 induction r with
 |nil=>exact True.intro
 |@cons p q ps a h t d=>
  obtain⟨h1,_,h2⟩:=h
  by_cases e:p.1=k
  ·have c:q.1=k:=h1.symm.trans e
   have b:atKey (q::a) k=some q.2:=by simp[atKey,List.find?_cons,c]
   rw[mm e,b];exact h2
  ·have c:¬q.1=k:=fun z=>e (h1.trans z)
   have b:atKey (q::a) k=atKey a k:=by simp[atKey,List.find?_cons,c]
   rw[mu e,b];exact d
def KT.repl{H:Hp}{kvs:List (List Key×V)}{xs:List (List Key×Addr×Value)}(r:KT H kvs xs)(k:List Key){y:V}{u:Value}(b:RelV y u):KT H (kvs.map fun kv=>if kv.1=k then(kv.1,y) else kv) (xs.map (putAt k u)):=by
 induction r with
 |nil=>exact .nil
 |@cons p q ps qs h t ih=>
  rw[Ar,Ar];refine .cons ?_ ih;obtain⟨h1,h2,a⟩:=h;unfold putAt
  by_cases e:p.1=k
  ·rw[if_pos e,if_pos (h1.symm.trans e)];exact⟨h1,h2,b⟩
  ·rw[if_neg e,if_neg (fun z=>e (h1.trans z))];exact⟨h1,h2,a⟩
def KT.put{H:Hp}{kvs:List (List Key×V)}{xs:List (List Key×Addr×Value)}(r:KT H kvs xs)(k:List Key){b:Addr}{y:V}{u:Value}(hb:H b=some (.tup (k.map kV)))(a:RelV y u):KT H (putK kvs k y) (storedH xs k b u):=by
 have e:(kvs.any fun kv=>decide (kv.1=k))=(atKey xs k).isSome:=by
  rw[C5,(r.val k).isSome_eq,Option.isSome_map]
 unfold putK storedH;rw[e]
 by_cases q:(atKey xs k).isSome=true
 ·rw[if_pos q,if_pos q];exact r.repl k a
 ·rw[if_neg q,if_neg q];exact Paired.snoc r ⟨rfl,hb,a⟩
def KT.keeps{H H':Hp}{kvs:List (List Key×V)}{xs:List (List Key×Addr×Value)}(r:KT H kvs xs)(a:∀b ys,H b=some (.tup ys)->H' b=some (.tup ys)):KT H' kvs xs:=
 Paired.mapP r fun _ _ z=>⟨z.1,a _ _ z.2.1,z.2.2⟩
section
variable{P:Program}{w:World}{H:Hp}{h:Heap}{a:Addr}
def C7{u:HO}(ok:HOk P w H h)(e:Rd H a u):zC P w H h a u:=e.ok ok
def i6{kvs:List (Key×V)}(ok:HOk P w H h)(e:Rd H a (.dK kvs)):kvs.length<=sizeLine/\(a==A2)=false/\∃vs,KV kvs vs/\h.DictOf (zw P w) a vs:=
 show zC P w H h a (.dK kvs) from C7 ok e
def p_{kvs:List (Key×V)}(ok:HOk P w H h)(e:H a=some (.dK kvs)):kvs.length<=sizeLine/\(a==A2)=false/\∃vs,KV kvs vs/\h.DictOf (zw P w) a vs:=i6 ok (.inl e)
def qe{ks:List Key}(ok:HOk P w H h)(e:H a=some (.tup (ks.map kV))):(tupleKind (zw P w)).is h ks a:=by
 obtain⟨_,b,r,o,h1,h2,n,c⟩:=(show zC P w H h a (.tup (ks.map kV)) from ok a _ e);exact⟨o,b.toArray,n,h1,h2,c,by simpa using C6 r⟩
def mz{kvs:List (List Key×V)}(ok:HOk P w H h)(e:Rd H a (.dT kvs)):kvs.length<=sizeLine/\(a==A2)=false/\
  ∃xs,KT H kvs xs/\h.DictOfH (tupleKind (zw P w)) a xs:=by
 obtain⟨z,y,xs,r,o,es,ep,h1,h2,b,c,d⟩:=(show zC P w H h a (.dT kvs) from C7 ok e);refine⟨z,y,xs,r,o,es,ep,h1,h2,b,c,fun x hx=>?_,d⟩;have all:∀{l:List (List Key×V)}{m:List (List Key×Addr×Value)},KT H l m->∀x∈m,(tupleKind (zw P w)).is h x.1 x.2.1:=by
  intro l m q
  induction q with
  |nil=>intro x hx;exact nomatch hx
  |@cons p q ps qs hq t ih=>
   intro x hx;rcases List.mem_cons.mp hx with e|hx
   ·subst e
    exact qe ok (by rw[<-hq.1];exact hq.2.1)
   ·exact ih x hx
 exact all r x hx
def Ia{kvs:List (List Key×V)}(ok:HOk P w H h)(e:H a=some (.dT kvs)):kvs.length<=sizeLine/\(a==A2)=false/\
  ∃xs,KT H kvs xs/\h.DictOfH (tupleKind (zw P w)) a xs:=mz ok (.inl e)
end
def DGet(H:Hp)(a:Addr)(y:V)(r:Option V):Prop:=
 (∃kvs k,Rd H a (.dK kvs)/\y=kV k/\r=bI kvs k)\/∃kvs k b,Rd H a (.dT kvs)/\y=.ref b/\H b=some (.tup (k.map kV))/\r=bI kvs k
def DPut(H:Hp)(a:Addr)(y v:V)(H':Hp):Prop:=
 (∃kvs k,H a=some (.dK kvs)/\y=kV k/\kvs.length<sizeLine/\H'=upd H a (.dK (putK kvs k v))) \/
 ∃kvs k b,H a=some (.dT kvs)/\y=.ref b/\H b=some (.tup (k.map kV))/\kvs.length<sizeLine/\H'=upd H a (.dT (putK kvs k v))
def DGet.k{H:Hp}{a:Addr}{kvs:List (Key×V)}{k:Key}(e:H a=some (.dK kvs)):DGet H a (kV k) (bI kvs k):=.inl ⟨kvs,k,.inl e,rfl,rfl⟩
def DGet.t{H:Hp}{a b:Addr}{kvs:List (List Key×V)}{k:List Key}(e:H a=some (.dT kvs))(c:H b=some (.tup (k.map kV))):DGet H a (.ref b) (bI kvs k):=.inr ⟨kvs,k,b,.inl e,rfl,c,rfl⟩
def DPut.k{H:Hp}{a:Addr}{kvs:List (Key×V)}{k:Key}{v:V}(e:H a=some (.dK kvs))(b:kvs.length<sizeLine):DPut H a (kV k) v (upd H a (.dK (putK kvs k v))):=.inl ⟨kvs,k,e,rfl,b,rfl⟩
def DPut.t{H:Hp}{a b:Addr}{kvs:List (List Key×V)}{k:List Key}{v:V}(e:H a=some (.dT kvs))(c:H b=some (.tup (k.map kV)))(d:kvs.length<sizeLine):DPut H a (.ref b) v (upd H a (.dT (putK kvs k v))):=.inr ⟨kvs,k,b,e,rfl,c,d,rfl⟩
section
variable{X:Cx}{aa:Ψ}{σ:St}{H:Hp}{s:Shared}{a:Addr}{y v:V}{u r:Value}{o:Option V}{A:Around}{E:Ω}
def Inv.big(I:Inv X aa σ H s):A2<s⁻¹:=by
 have h:mainGlobals<s⁻¹:=(I.mod.glob.keeps I.bk).lt;exact Nat.lt_trans ξ h
def Ib{Q:Ω}(hu:A.units+1<cLine)(I:Inv X aa σ H s)(g:DGet H a y (some v))(j:RelV y u)(h:∀d s',Inv X aa σ H s'->RelV v d->Q d s'):wpAny (model X.prog X.w) A (getItem (.ref a) u) Q E s:=by
 rcases g with ⟨kvs,k,e,f,l⟩|⟨kvs,k,b,e,f,q,l⟩
 ·subst f
  obtain⟨z,hd,vs,c,dd⟩:=i6 I.hok e;obtain⟨d,hw,i⟩:=RelO.some_of (v:=v) (o:=valueAt vs k) (by rw[l];exact c.val k);exact wpAny_getItem_of (my j) dd.mapOf hw (h d _ (I.tok _) i)
 ·subst f
  cases(show u=Value.ref b from j);obtain⟨z,hd,xs,c,dd⟩:=mz I.hok e;obtain⟨d,hw,i⟩:=RelO.some_of (v:=v) (o:=(atKey xs k).map (·.2)) (by rw[l];exact c.val k);obtain⟨p,hp,r⟩:=Option.map_eq_some_iff.mp hw;refine wpAny_getItem_heap (tupleKind_room_in1 hu) (qe I.hok q) dd hp ?_;rw[r];exact h d _ (I.tok _) i
def mC{h':Heap}{t':Nat}{ob:HO}(I:Inv X aa σ H s)(c:lD (H a))(hs:AN a s.heap h')(he:∃q,h'.get? a=some q)(new:zC X.prog X.w (upd H a ob) h' a ob):Inv X aa σ (upd H a ob) {s with heap:=h',toks:=t'}:=
 I.write (x:=a) (e:=a) c (.inl rfl) (fun b q hb z=>(hs.2 b hb).trans z) he new
def dk_new{P:Program}{w:World}{H':Hp}{h':Heap}{kvs:List (Key×V)}{vs:List (Key×Value)}(z:kvs.length<=sizeLine)(hd:(a==A2)=false)(b:KV kvs vs)(dd:h'.DictOf (zw P w) a vs):zC P w H' h' a (.dK kvs):=⟨z,hd,vs,b,dd⟩
def Ie{H':Hp}{Q:Unit->Shared->Prop}(hu:A.units+1<cLine)(I:Inv X aa σ H s)(g:DPut H a y v H')(F:RelV y u)(x:RelV v r)(h:∀s',Inv X aa σ H' s'->Q () s'):wpAny (model X.prog X.w) A (setItem (.ref a) u r) Q E s:=by
 rcases g with ⟨kvs,k,e,j,l,o⟩|⟨kvs,k,b,e,j,C,l,o⟩
 ·subst j o
  obtain⟨z,hd,vs,d,dd⟩:=p_ I.hok e;have p:vs.length<=sizeLine:=by rw[<-d.length];exact z
  have i:(putK kvs k v).length<=sizeLine:=by have:=vY kvs k v;omega
  refine wpAny_setItem_pairs (hsz:=p) (my F) dd fun h' f hs=>h _ ?_;have he:∃q,h'.get? a=some q:=let ⟨q,_,_,hq,_⟩:=f;⟨q,hq⟩;exact mC I (by rw[e];exact True.intro) hs he (dk_new i hd (d.put k x) f)
 ·subst j o
  cases(show u=Value.ref b from F);obtain⟨z,hd,xs,d,dd⟩:=Ia I.hok e;have p:xs.length<=sizeLine:=by rw[<-A4 d];exact z
  have i:(putK kvs k v).length<=sizeLine:=by have:=vY kvs k v;omega
  refine wpAny_setItem_heap (hsz:=p) (tupleKind_room_in1 hu) (qe I.hok C) dd fun h' f hs=>h _ ?_;obtain⟨q,es,ep,hq,h2,G,J,_,L⟩:=f;refine mC I (by rw[e];exact True.intro) hs ⟨q,hq⟩ ⟨i,hd,_,(d.put k C x).keeps fun c ys D=>?_,q,es,ep,hq,h2,G,J,L⟩;rw[zj (dj D e (fun z=>nomatch z))];exact D
end
def mD(i:Expr):Prop:=∀a iv,subscripted i false a iv=operate [a,iv] (getItem a iv)
def Ig{prog:Program}{w:World}{A:Around}{E:Ω}{s:Shared}{env:Env}{aT slice:Expr}{pos:Pos}{T id:String}{Q:Ω}(j:typeLookup (.type T) "__getitem__"=pure (some (.builtin id)))(hs:mD slice)(h:wpAny (model prog w) A (eval aT env) (fun o c=>wpAny (model prog w) A (eval slice env) (fun i a=>a.TypeIs o T/\wpAny (model prog w) A (getItem o i) Q E a) E c) E s):wpAny (model prog w) A (eval (.Subscript aT slice pos) env) Q E s:=by
 refine Subscript_ (wpAny_mono h (fun o c f=>wpAny_mono f (fun i a b=>?_) fun _ _ x=>x) fun _ _ x=>x);obtain⟨e,b⟩:=b;unfold subscriptTail;refine Aa ?_;rw[getitemInPython_of_ne e.not_modules];refine Aa (wpAny_specialOf e j ?_);have fin:wpAny (model prog w) A (subscripted slice false o i) (fun r d=>wpAny (model prog w) A (letTemporaryGo aT o r >>= fun _=>pure r) Q E d) E a:=by
  rw[hs o i];exact wpAny_operating (wpAny_mono b (fun r d g=>Aa (wpAny_letTemporaryGo (Ac g))) fun _ _ x=>x)
 first
  |exact Ac (Aa fin)
  |exact Aa (Ac (Aa fin))
  |exact Aa fin
def Ih{X:Cx}{aa:Ψ}{σ:St}{H:Hp}{s:Shared}{a:Addr}{y:V}{o:Option V}(I:Inv X aa σ H s)(g:DGet H a y o):s.TypeIs (.ref a) "dict":=by
 rcases g with ⟨kvs,k,e,_,_⟩|⟨kvs,k,b,e,_,_,_⟩
 ·obtain⟨_,_,vs,_,dd⟩:=i6 I.hok e
  exact dd.typeIs
 ·obtain⟨_,_,xs,_,dd⟩:=mz I.hok e
  exact dd.typeIs
def v1(td ty:TE):TE:=fun σ H Q=>td σ H fun x H1=>ty σ H1 fun y H2=>∃a v,x=.ref a/\DGet H2 a y (some v)/\Q v H2
def Ii(td ty tv:TE):TS:=fun D σ H=>tv σ H fun v H1=>td σ H1 fun x H2=>ty σ H2 fun y c=>∃a b,x=.ref a/\DPut c a y v b/\D.nx σ b
section
variable{X:Cx}{o i e aT:Expr}{pos a9 fe:Pos}{td ty tv:TE}
def fY(hu:X.A.units+1<cLine)(p:PE X o td)(hi:PE X i ty)(hs:mD i):PE X (.Subscript o i pos) (v1 td ty):=by
 intro aa s σ H Q I h;refine Ig PySem.F.slot_dict_getitem.lookup hs (aD (p aa s σ H _ I h) fun u c ⟨x,H1,q,d,e⟩=>aD (hi aa c σ H1 _ q e) fun iv w ⟨y,H2,b,f,a,v,ex,g,j⟩=>?_);subst ex;obtain rfl:u=Value.ref a:=d;exact⟨Ih b g,Ib hu b g f fun z C r l=>⟨v,H2,r,l,j⟩⟩
def gb(hu:X.A.units+1<cLine)(q:PE X o td)(hi:PE X i ty)(w:PE X aT tv)(hs:swapsWith aT (some (.Subscript o i a9)) pos.line X.env=pure false):PS X (.Assign [.Subscript o i a9] aT pos) (Ii td ty tv):=by
 intro aa s σ H D I h;refine wpAny_Assign_Subscript (aD (w aa s σ H _ I h) fun r b ⟨v,H1,z,c,d⟩=>aD (q aa b σ H1 _ z d) fun u e ⟨x,H2,C,f,j⟩=>aD (hi aa e σ H2 _ C j) fun iv J ⟨y,M,E,l,a,F,ex,g,p⟩=>?_) hs;subst ex;obtain rfl:u=Value.ref a:=f;exact Ie hu E g l c fun L G=>⟨σ,F,G,p⟩
end
def Ij{P:Program}{w:World}{H:Hp}(h:Heap)(hb:A2<h.objs.size):zC P w H (h.push {cls:=.type "dict",data:=.dict #[]}) h.objs.size (.dK []):=
 ⟨AK _,beq_eq_false_iff_ne.mpr (Ne.symm (Aq hb)),[],.nil,Heap.DictOf.new h⟩
def Il{P:Program}{w:World}{H:Hp}(h:Heap)(hb:A2<h.objs.size):zC P w H (h.push {cls:=.type "dict",data:=.dict #[]}) h.objs.size (.dT []):=
 ⟨AK _,beq_eq_false_iff_ne.mpr (Ne.symm (Aq hb)),[],.nil,_,#[],0,Ak _ rfl,⟨rfl,rfl,rfl⟩,rfl,rfl,List.nodup_nil⟩
def Im:TE:=fun _ H Q=>∀p,H p=none->Q (.ref p) (upd H p (.dK []))
def Io:TE:=fun _ H Q=>∀p,H p=none->Q (.ref p) (upd H p (.dT []))
section
variable{X:Cx}{pos:Pos}
def v9:PE X (.Dict [] [] pos) Im:=fun aa s σ H Q I h=>
 wpAny_Dict_empty ⟨.ref s⁻¹,_,I.laid (a:=s⁻¹) (o:=.dK []) (t':=s.toks) (fun _ _ q=>Ae _ q) (Ag _) (Ij s.heap I.big),rfl,h _ (I.hok.fresh (Ag _))⟩
def mL:PE X (.Dict [] [] pos) Io:=fun aa s σ H Q I h=>
 wpAny_Dict_empty ⟨.ref s⁻¹,_,I.laid (a:=s⁻¹) (o:=.dT []) (t':=s.toks) (fun _ _ q=>Ae _ q) (Ag _) (Il s.heap I.big),rfl,h _ (I.hok.fresh (Ag _))⟩
end
structure M1(X:Cx)(o:Expr)(m:Str)(bf:Pos)(e:Expr)(aB:Pos):Prop where
 base:attributeBase o m X.env (eval o X.env)=eval o X.env
 few:((backTo aB (starEach [e] X.env)).all (fun x=>!x.1)&&(backToKw aB (keywordEach [] X.env)).all (fun x=>x.1.isSome)
  && decide (([e]:List Expr).length+([]:List Keyword).length+(if([]:List Keyword).isEmpty then 0 else 1)<30))=true
 line:(bf.endLine==aB.line)=true
 trees:backTo aB (starEach [e] X.env)=[(false,eval e X.env)]
structure M2(X:Cx)(o:Expr)(m:Str)(bf:Pos)(e f:Expr)(aB:Pos):Prop where
 base:attributeBase o m X.env (eval o X.env)=eval o X.env
 few:((backTo aB (starEach [e,f] X.env)).all (fun x=>!x.1)&&(backToKw aB (keywordEach [] X.env)).all (fun x=>x.1.isSome)
  && decide (([e,f]:List Expr).length+([]:List Keyword).length+(if([]:List Keyword).isEmpty then 0 else 1)<30))=true
 line:(bf.endLine==aB.line)=true
 trees:backTo aB (starEach [e,f] X.env)=[(false,eval e X.env),(false,eval f X.env)]
def IsD(H:Hp)(a:Addr):Prop:=(∃kvs,Rd H a (.dK kvs))\/∃kvs,Rd H a (.dT kvs)
def Ip{X:Cx}{aa:Ψ}{σ:St}{H:Hp}{s:Shared}{a:Addr}(I:Inv X aa σ H s)(d:IsD H a):s.TypeIs (.ref a) "dict"/\(∀b,Value.ref a=.ref b->∃ob,s.heap.get? b=some ob/\ob.dict=none)/\(a==A2)=false:=by
 rcases d with ⟨kvs,e⟩|⟨kvs,e⟩
 ·obtain⟨_,hd,vs,_,dd⟩:=i6 I.hok e
  refine⟨dd.typeIs,fun b q=>?_,hd⟩;cases q;obtain⟨ob,_,_,h1,h2,_⟩:=dd;exact⟨ob,h1,h2.2.1⟩
 ·obtain⟨_,hd,xs,_,dd⟩:=mz I.hok e
  refine⟨dd.typeIs,fun b q=>?_,hd⟩;cases q;obtain⟨ob,_,_,h1,h2,_⟩:=dd;exact⟨ob,h1,h2.2.1⟩
section
variable{X:Cx}{aa:Ψ}{σ:St}{H:Hp}{s:Shared}{a:Addr}{y d:V}{u r:Value}{o:Option V}{A:Around}{E:Ω}
def Iq{Q:Ω}(hu:A.units+1<cLine)(I:Inv X aa σ H s)(g:DGet H a y o)(j:RelV y u)(p:RelV d r)(h:∀i s',Inv X aa σ H s'->RelV (o.getD d) i->Q i s'):wpAny (model X.prog X.w) A (call (.builtin "dict.get") [.ref a,u,r]) Q E s:=by
 rcases g with ⟨kvs,k,e,f,l⟩|⟨kvs,k,b,e,f,q,l⟩
 ·subst f
  obtain⟨z,hd,vs,c,dd⟩:=i6 I.hok e;refine call_meetsIn PySem.F.slot_dict_get dd.typeIs PySem.F.entry_dict_get (PySem.F.args_dict_get_3 _ _ _) (meets_dict_get_default (zw X.prog X.w) a (my j) hd r) ⟨_,dd.mapOf,h _ _ (I.tok _) ?_⟩;rw[l];exact(c.val k).getD p
 ·subst f
  cases(show u=Value.ref b from j);obtain⟨z,hd,xs,c,dd⟩:=mz I.hok e;refine call_meetsIn PySem.F.slot_dict_get dd.typeIs PySem.F.entry_dict_get (PySem.F.args_dict_get_3 _ _ _) (meetsH_dict_get_default (tupleKind (zw X.prog X.w)) a b hd r) ⟨tupleKind_room_in1 hu,k,xs,qe I.hok q,dd,h _ _ (I.tok _) ?_⟩;rw[l];exact(c.val k).getD p
end
def Ir(td ty tx:TE):TE:=fun σ H Q=>td σ H fun x H1=>∃a,x=.ref a/\IsD H1 a/\ty σ H1 fun y H2=>tx σ H2 fun z b=>∃o,DGet b a y o/\Q (o.getD z) b
section
variable{X:Cx}{o e f:Expr}{bf aB:Pos}{td ty tx:TE}
def Is(hu:X.A.units+1<cLine)(E:PE X o td)(he:PE X e ty)(hf:PE X f tx)(m:M2 X o "get" bf e f aB):PE X (.Call (.Attribute o "get" bf) [e,f] [] aB) (Ir td ty tx):=by
 intro aa s σ H Q I h;refine wpAny_Call_method m.base m.few m.line PySem.F.plainAttrs_dict PySem.F.slot_dict_get PySem.F.type_dict_get (aD (E aa s σ H _ I h) fun u c ⟨x,H1,b,i,a,ex,d,j⟩=>?_);subst ex;obtain rfl:u=Value.ref a:=i;obtain⟨C,D,_⟩:=Ip b d;refine⟨C,D,?_⟩;rw[m.trees];refine Calls.callWith_builtin rfl (Calls.evalArgs_plain (Calls.spliced_cons (aD (he aa c σ H1 _ b j) fun iv l ⟨y,H2,G,p,q⟩=>
  Calls.spliced_cons (aD (hf aa l σ H2 _ G q) fun N O ⟨z,J,L,r,P,g,v⟩=>Calls.spliced_nil ?_))))
 exact Iq hu L g p r fun S T M w=>⟨_,J,M,w,v⟩
end
section
variable{X:Cx}{aa:Ψ}{σ:St}{H:Hp}{s:Shared}{a:Addr}{kvs:List (Key×V)}{A:Around}{E:Ω}
def Iu{Q:Ω}(I:Inv X aa σ H s)(e:Rd H a (.dK kvs))(h:∀p s',H p=none->Inv X aa σ (upd H p (.dK kvs)) s'->Q (.ref p) s'):wpAny (model X.prog X.w) A (call (.type "dict") [.ref a]) Q E s:=by
 obtain⟨z,hd,vs,c,dd⟩:=i6 I.hok e;refine kt_call_dict hd dd (by rw[<-c.length];exact z) fun h' d hs=>?_;refine h _ _ (I.hok.fresh (Ag _)) (I.laid (a:=s⁻¹) (o:=.dK kvs) (t':=s.toks) (fun b q hq=>?_) (Ag _) (dk_new z (beq_eq_false_iff_ne.mpr (Ne.symm (Aq I.big))) c d));exact(hs.2 b (Aq (Al hq))).trans (Ae _ hq)
end
end L2
namespace Att
open PySem PySem.W PySem.Calls PyProof.Rows
def Iv{P:Params}{h:Heap}:∀(ns:List Int)(vs:List Value),WellAll P h vs (ns.map WData.int)->IntsAre vs ns:=by
 intro ns
 induction ns with
 |nil=>
  intro vs w;rw[List.map_nil] at w;cases w;exact .nil
 |cons n ns ih=>
  intro vs w;rw[Ar] at w;cases w with
  |cons a b=>
   cases a;exact .cons _ _ (ih _ b)
def Iw{l:OpenLaw}{n:Nat}(o:l.most=some n){P:Params}{h:Heap}{args:List WData}{vals:List Value}(g:l.row.toRowW.claim.pre args=true)(p:WellAll P h vals args):∃a vs ns,vals=[Value.ref a]/\args=[WData.list (ns.map WData.int)]/\h.get? a=some {cls:=.type "list",data:=.seq vs.toArray}/\IntsAre vs ns/\ns.length<=n:=by
 have f:WShape.hasAll [] args [.list .int]=true:=(pre_splitW g).1;have hc:l.pre.holds [] {args:=args}=true:=(pre_splitW g).2;obtain⟨d,r,rfl,h1,h2⟩:=hasAllW_cons f;obtain rfl:=hasAllW_nil h2;obtain⟨xs,rfl,i⟩:=hasW_list h1;obtain⟨ns,rfl⟩:=items_int i;have b:ns.length<=n:=by
  unfold OpenLaw.pre at hc;have c:(WTm.not (.lt (.lit (.int (n:Int))) (.len (.arg 0)))).holds [] {args:=[.list (ns.map .int)]}=true:=by
   have c:=(holds_andW hc).1;rw[o] at c;exact c
  have e:=condW_of c (w_not (w_lt w_lit (w_len_list (w_arg rfl))));rw[Ab] at e;refine Nat.le_of_not_lt fun q=>?_;have j:(n:Int)<((ns.length:Nat):Int):=ω
  first
   |(rw[decide_eq_true j] at e;exact absurd e ξ)
   |(simp at e;omega)
 cases p with
 |cons w1 w2=>
  cases w2;cases w1 with
  |list ho hall=>exact⟨_,_,ns,rfl,rfl,ho,Iv ns _ hall,b⟩
def Ix(l:OpenLaw)(args:List WData):l.row.toRowW.claim.post args (.bool true) args=true:=
 postW_of (r:=l.row.toRowW) (X:=(true==true))
  (show WShape.has [] (.bool true) .bool=true by first|rfl|decide|simp[WShape.has,WShape.arms,WShape.armsAll])
  (show(WTm.eq .res (.lit (.bool true))).value [] {args:=args,res:=some (.bool true),after:=args}=some (.bool (true==true)) from w_eq_bool (w_res rfl) w_lit) rfl
def Iy{l:OpenLaw}{n:Nat}{q:Program}{p:List Str}{s:(Str->Option Value)->Heap->Prop}{u:World->Heap->Prop}{d:DefRec}(J:l.most=some n)(L:d.params.defaults=[])(call:∀(w:World)(s₀ b:Shared)(mg g:Str->Option Value)(fa:Addr)(o:Obj)(h e i:Value)(a:Addr)(vs:List Value)(ns:List Int),
   Ground q p [] s w s₀ mg g b.heap->u w b.heap->
   b.heap.get? fa=some o->o.data=.func (docDef d.name d.params d.body d.scope h e i)->b.heap.CodeRec e d.name->mg d.name=some (.ref fa)->
   b.heap.get? a=some {cls:=.type "list",data:=.seq vs.toArray}->IntsAre vs ns->ns.length<=n->b.gens=#[]->
   codeAny (model l.prog w) callerA (.call (.ref fa) ⟨[.ref a],[]⟩) (fun r s'=>r=.ok (.ret (.bool true))/\OldK b.heap s'.heap/\s'.os=b.os/\AllBare s'.gens) b):
  WalkO q p s u l.row.toRowW d [] (fun f vs=>PySem.call f vs):=by
 intro w s₀ b mg g G Y fa o h e i v kV x hd y j z A args vals as C M O D N;obtain rfl:v=.none:=Dflts.none j L;obtain rfl:kV=.none:=Dflts.noKw j;obtain⟨a,vs,ns,rfl,rfl,E,F,c⟩:=Iw J C D;refine enter_call (codeAny_mono (call w s₀ b mg g fa o h e i a vs ns G Y x (fd_plain hd) y z E F c A) fun r s' hq=>?_);obtain⟨rfl,h2,H,I⟩:=hq;exact⟨.inl ⟨.bool true,.bool true,[],rfl,fun _=>rfl,.bool true,Ix l _,fun _=>⟨List.Pairwise.nil,fun _ hm=>(nomatch hm)⟩⟩,h2,H,I⟩
section
variable{prog:Program}{w:World}{A:Around}{E:Ω}{s:Shared}{K:Frag}
def ledger(h:Heap)(L d:Addr):Ψ:=(Bc h.objs.size).filterMap fun a=>if a=L\/a=d then none else(h.get? a).map fun o=>(a,o)
end
end Att
namespace L2
open PySem PySem.Spec PyProof.Rows
def C8:∀{vs:List Value}{ns:List Int},IntsAre vs ns->Vals (ns.map V.int) vs
 |_,_,.nil=>.nil
 |_,_,.cons n t h=>.cons ⟨t,rfl⟩ (C8 h)
def jF(H:Hp):Prop:=∀b,H b=none\/∃o xs,H b=some (.frz o (.lst xs))
def Iz{P:Program}{w:World}{K:Ad}{mg y:Str->Option Value}{CX:eL}{k:Nat}{fa a:Addr}{fd:FuncData}{x:Str}{sp:Sp}{c:Shared}{vs:List Value}{ns:List Int}(M:K.In c.heap)(J:c.heap.Ns mainGlobals mg)(hb:c.heap.Ns builtinsNs y)(Z:∀x:Str,x≠"__name__"->y x=AU x)(md:c.heap.NoLimit)(hg:c.gens=#[])(l:c.heap.get? a=some {cls:=.type "list",data:=.seq vs.toArray})(hi:IntsAre vs ns)(L:ns.length<=sizeLine)(hr:Room k callerA)(F:∀base:Heap,K.In base->base.Ns mainGlobals mg->FnOk P w K mg base CX k fa fd [x] sp)(kc:∀(s:Shared)(u:Value),BindsTo s fd ⟨[u],[]⟩ [(x,u)])(c6:∀H:Hp,jF H->SqL K H a (ns.map V.int)->sp [.ref a] H (fun v _=>v=.bl true) fun _ _ _=>False)(mP:∀H e s',CX [] H c (fun _ _ _=>False) e s'->False):codeAny (model P w) callerA (.call (.ref fa) ⟨[.ref a],[]⟩) (fun r s'=>r=.ok (.ret (.bool true))/\OldK c.heap s'.heap/\s'.os=c.os/\AllBare s'.gens) c:=by
 have D:=C8 hi;have T:=hi.length;have E:∀H:Hp,jF H->SqL K H a (ns.map V.int)->HOk P w H c.heap->(∀b,H b≠none->b=a)->(H a≠none->K.lookup a=none)->
   codeAny (model P w) callerA (.call (.ref fa) ⟨[.ref a],[]⟩) (fun r s'=>r=.ok (.ret (.bool true))/\OldK c.heap s'.heap/\s'.os=c.os/\AllBare s'.gens) c:=by
  intro H A N g C O;have G:∀{b:Addr}{o:Obj},c.heap.get? b=some o->H b=none->(dA c.heap H).get? b=some o:=fun e n=>G3 e n;have U:∀{b:Addr}{o:Obj}{es:Array DictEntry}{ep:Nat},c.heap.get? b=some o->o.data=.dict es ep->H b=none:=fun{b o es ep} e d=>by
   cases q:H b with
   |none=>rfl
   |some u=>
    have p:b=a:=C b (by rw[q];simp);subst p;rw[l] at e;cases e;have d':Data.seq vs.toArray _=Data.dict es ep:=d;cases d'
  have f:∀{b:Addr}{m:Str->Option Value},c.heap.Ns b m->(dA c.heap H).Ns b m:=fun{b m} ⟨o,es,ep,e,d,r⟩=>⟨o,es,ep,G e (U e d),d,r⟩;have I:K.In (dA c.heap H):=fun b o e=>G (M b o e) (by
   cases q:H b with
   |none=>rfl
   |some u=>
    have p:b=a:=C b (by rw[q];simp);subst p;rw[O (by rw[q];simp)] at e;cases e)
  have W:Mod K mg (dA c.heap H):=⟨I,f J,⟨y,f hb,Z⟩,let ⟨mc,h1,h2⟩:=md;⟨mc,f h1,h2⟩⟩;have X:Env0 P w K mg (dA c.heap H) callerA [] c H:=⟨rfl,W,fun b o e=>G4 e,Nat.le_of_eq (G2 _ _),trivial,fun b hb=>absurd (show b∈([]:List Addr) from hb) (by simp),g,.of_eq hg⟩;refine codeAny_mono ((F _ I (f J)).run callerA [] c H ⟨[.ref a],[]⟩ [.ref a] [.ref a] _ _ hr X (kc c (.ref a)) (.cons rfl .nil) (c6 H A N)) fun r s' h=>?_;cases r with
  |error e=>exact(mP H e s' h).elim
  |ok fl=>
   cases fl with
   |next=>exact False.elim h
   |brk=>exact False.elim h
   |cont=>exact False.elim h
   |ret u=>
    obtain⟨v,H',os,i,un,Q,S,q⟩:=h;have Y:v=.bl true:=q;subst Y;obtain rfl:u=Value.bool true:=S;refine⟨rfl,OldK.of_keep fun b o e=>?_,os,i⟩;cases q:H b with
    |none=>exact un.keep b o e q (by intro z;exact absurd (show b∈([]:List Addr) from z) (by simp)) (by simp)
    |some u=>
     rcases A b with z|⟨ob,xs,z⟩
     ·rw[q] at z;cases z
     ·have z2:=un.frzs b ob _ z
      obtain⟨e1,_⟩:=g b _ z;obtain⟨e2,_⟩:=Q b _ z2;rw[e] at e1;cases e1;exact e2
 cases hk:K.lookup a with
 |some o=>
  have e:=M a o hk;rw[l] at e;cases e;refine E (fun _=>none) (fun _=>.inl rfl) (.inr ⟨_,vs.toArray,_,hk,rfl,rfl,rfl,by rw[Ai,T];exact L,by simpa using D⟩) (fun b u z=>by have j:(none:Option HO)=some u:=z;cases j) (fun b z=>absurd rfl z) fun z=>absurd rfl z
 |none=>
  refine E (fun b=>if b=a then some (.frz {cls:=.type "list",data:=.seq vs.toArray} (.lst (ns.map V.int))) else none) (fun b=>?_) (.inl (.inr ⟨{cls:=.type "list",data:=.seq vs.toArray},if_pos rfl⟩)) (fun b u z=>?_) (fun b z=>?_) fun _=>hk
  ·by_cases hb:b=a
   ·exact .inr ⟨_,_,if_pos hb⟩
   ·exact .inl (if_neg hb)
  ·by_cases hb:b=a
   ·have j:=(if_pos hb).symm.trans z
    cases j;subst hb;exact⟨l,by rw[Ab];exact L,vs,_,D,l⟩
   ·have j:=(if_neg hb).symm.trans z
    cases j
  ·by_cases hb:b=a
   ·exact hb
   ·exact absurd (if_neg hb) z
abbrev C9{K:Ad}{h:Heap}(_:K.In h):Ad:=K
def C_{l:PySem.W.OpenLaw}{n k:Nat}{q:Program}{I:List Str}{Q:(Str->Option Value)->Heap->Prop}{j:World->Heap->Prop}{d:DefRec}{K:Params->Ad}{CX:World->eL}{sp:World->Sp}{x:Str}(J:l.most=some n)(L:n<=sizeLine)(M:d.params.defaults=[])(hr:Room k callerA)(N:∀(w:World)(h:Heap),j w h->(K w.params).In h)(F:∀(w:World)(mg:Str->Option Value)(fa:Addr)(h:Heap),(K w.params).In h->h.Ns mainGlobals mg->mg d.name=some (.ref fa)->
   ∃fd:FuncData,(∀(s:Shared)(u:Value),BindsTo s fd ⟨[u],[]⟩ [(x,u)])/\
    ∀base:Heap,(K w.params).In base->base.Ns mainGlobals mg->FnOk l.prog w (K w.params) mg base (CX w) k fa fd [x] (sp w))
  (O:∀(w:World)(H:Hp)(a:Addr)(ns:List Int),ns.length<=n->jF H->SqL (K w.params) H a (ns.map V.int)->sp w [.ref a] H (fun v _=>v=.bl true) fun _ _ _=>False)
  (P:∀(w:World)(H:Hp)(s:Shared)(e:Value)(s':Shared),CX w [] H s (fun _ _ _=>False) e s'->False) :
  PySem.W.WalkO q I Q j l.row.toRowW d [] (fun f vs=>PySem.call f vs):=by
 refine Att.Iy J M fun w s₀ p mg S fa o U X Z a vs ns G Y ho hd bY r y z c A=>?_;have i:=N w _ Y;obtain⟨fd,hb,E⟩:=F w mg fa _ i G.T.g r;exact Iz i G.T.g G.T.b G.T.builtins G.T.nolimit A y z (AQ c L) hr E hb (fun H C D=>O w H a ns c C D) fun H e s'=>P w H p e s'
end L2
/- THE LAST THEOREM (shape;LID,My.* are yours):
  My.Adr: a structure of lF addresses that your layer names (classes,functions);My.Txt K t: a structure (Prop) of lF equations over K;
  My.txt_mk:{K} {implicit addresses ..} (e1:nsIn K mainGlobals "law"=some (some (.ref f))) (e2:K.lookup f=some ⟨oc,od,.func (fnOf "law" "law" bB body scope dV kV bz pm an cdv ct),sl⟩) (e3:codeIn K cdv "law"=true) ..:∃t,My.Txt K t
set_option maxRecDepth 100000 in
set_option maxHeartbeats 0 in
theorem PySem.Challenge.cw_LID_holds:PySem.Challenge.rw_LID.Holds := by
 w_on;o_law;k_head;(case hw=>w_witness2)
 k_fill
 refine L2.C_ (l:=PySem.Challenge.rw_LID) (n:=63) (k:=40) (x:="script") (CX:=fun w=>..) (sp:=fun _=>My.sp_law) rfl ξ rfl ⟨rfl,ξ,ξ⟩ (fun w h Y=>PySem.W.kIn_of Y) ?F ?S ?C
 case F=>
  intro w mg fa h f G g;have T:∃t,My.Txt (L2.C9 f) t:=by
   dsimp only[L2.C9]                          -- K must cE as «<heap const> w.params» for k_is
   refine' My.txt_mk ?e1 ?e2 ?e3 ..
   (case e1 => PySem.W.k_is)                    -- in e aq: a name -> af address -> af object -> af parts
   (case e2=>PySem.W.k_is)
   ..
  obtain⟨t,T⟩:=T;have i:=g.symm.trans (PySem.W.mg_of f G T.law);cases i                                       -- fa is e law's own address
  exact⟨_,fun s u => .of_eq rfl,fun base c d => My.law_fn T c d⟩     -- if «.of_eq rfl» comes too early: refine' ⟨_,?b,fun base c d => My.law_fn T c d⟩;exact fun s u => .of_eq rfl
 case S=>exact fun w H a ns j o p=>..
 case C=>exact ..
(e tactic k_is has q namespace: write k_is) -/
namespace L2
open PySem PySem.Spec PyProof.Rows
def zb7(s:Stmt):Arguments:=match s with
 |.FunctionDef _ a _ _ _ _ _ _ _ _=>a
 |_=>{posonlyargs:=[],args:=[],vararg:=none,kwonlyargs:=[],kw_defaults:=[],kwarg:=none,defaults:=[]}
def zK(s:Stmt):List Stmt:=match s with
 |.FunctionDef _ _ b _ _ _ _ _ _ _=>b
 |_=>[]
def zg(s:Stmt):Scope:=match s with
 |.FunctionDef _ _ _ _ _ _ sc _ _ _=>sc
 |_=>{kind:=.function,names:=[],isGenerator:=false,isCoroutine:=false}
abbrev az:eL:=fun _ _ _ _ _ _=>False
abbrev E0:XK:=fun _ _ _=>False
def ao{X:Cx}:cL az X E0:=fun _ _ _ _ _ _ _ h=>h.elim
structure Fun(K:Ad)(x aj:Str)(st:Stmt)(f:Addr)(fd:FuncData):Prop where
 ex:∃(oc:Value)(od:Option Addr)(kV bz pm:Value)(an:Option Addr)(cdv ct:Value)(dJ:Array (Option Value)),
  fd=PySem.W.fnOf x aj (zb7 st) (zK st) (zg st) .none kV bz pm an cdv ct/\K.lookup f=some ⟨oc,od,.func fd,dJ⟩/\PySem.W.codeIn K cdv aj=true
 kp:PySem.W.keepIn K (.ref f)=true
section
variable{P:Program}{w:World}{K:Ad}{mg:Str->Option Value}{base:Heap}
def Fun.ok{x a:Str}{st:Stmt}{f:Addr}{fd:FuncData}{N ps:List Str}{k:Nat}{sp:Sp}(F:Fun K x a st f fd)(S:zq N ps (zg st))(len:∀vs H Q E,sp vs H Q E->vs.length=ps.length)(d:∀(cdv:Value)(A:Around)(outer:List Env)(s:Shared)(H:Hp)(vs:List V)(Q:VK)(E:XK),Room k (A.deeper (envOfC a (zg st) s⁻¹ f cdv))->sp vs H Q E->
   ∃t,PSs (bc az P w K mg base N a (zg st) f cdv A outer s H E).nox (zK st) t/\t {nx:=fun _ H'=>Q .non H',rt:=Q} (start N vs) H):FnOk P w K mg base az (k+1) f fd ps sp:=by
 obtain⟨e,g,kV,i,j,l,cdv,ct,o,rfl,lk,c⟩:=F.ex;refine CT lk c S len fun A outer s H vs Q E hr b=>?_;obtain⟨t,h,q⟩:=d cdv A outer s H vs Q E hr b;exact⟨t,h.nox,q⟩
def Fun.binds{x d:Str}{st:Stmt}{f:Addr}{fd:FuncData}{ps:List Str}(F:Fun K x d st f fd)(h:∀(kV a b:Value)(c:Option Addr)(cdv ct:Value)(us:List Value),us.length=ps.length->bindArgs (PySem.W.fnOf x d (zb7 st) (zK st) (zg st) .none kV a b c cdv ct) ⟨us,[]⟩=pure (ps.zip us)):Binds K fd ps []:=by
 obtain⟨e,g,kV,a,b,c,cdv,ct,i,rfl,lk,j⟩:=F.ex;exact .all (h kV a b c cdv ct)
def IA{x a:Str}{st:Stmt}{f:Addr}{h:Value}{i e:Option Addr}{g:Array (Option Value)}{kV b d cdv ct:Value}(l:K.lookup f=some ⟨h,i,.func (PySem.W.fnOf x a (zb7 st) (zK st) (zg st) .none kV b d e cdv ct),g⟩)(c:PySem.W.codeIn K cdv a=true)(k:PySem.W.keepIn K (.ref f)=true):Fun K x a st f (PySem.W.fnOf x a (zb7 st) (zK st) (zg st) .none kV b d e cdv ct):=⟨⟨h,i,kV,b,d,e,cdv,ct,g,rfl,l,c⟩,k⟩
end
def d_{A:Around}{k:Nat}(hr:Room k A):A.units+1<cLine:=Nat.lt_of_le_of_lt (Nat.add_le_add_left (by decide:1<=64) _) hr.units
section
variable{X:Cx}
def pv(i:Nat){x:Str}{pos:Pos}(a:X.N[i]?=some x:=by rfl)(b:lE X.env.scope x:=by first|exact Or.inl rfl|exact Or.inr (Or.inl rfl)|exact Or.inr (Or.inr rfl))(hd:(x==("__debug__":Str))=false:=by decide)
  (c:(x==("__classdict__":Str))=false:=by decide):PE X (.Name x pos) (aE i):=G6 a b hd c
end
def aI{A B:Prop}(h:B):if false=true then A else B:=by
 rw[if_neg Ao];exact h
def bg{A B:Prop}(h:A):if true=true then A else B:=by
 rw[if_pos rfl];exact h
def be{c A B:Prop}[Decidable c](h1:c->A)(h2:¬c->B):if c then A else B:=by
 by_cases h:c
 ·rw[if_pos h]
  exact h1 h
 ·rw[if_neg h]
  exact h2 h
def Same(H H':Hp):Prop:=∀b o,H b=some o->H' b=some o
def Same.refl(H:Hp):Same H H:=fun _ _ h=>h
def Same.trans{H H1 H2:Hp}(a:Same H H1)(b:Same H1 H2):Same H H2:=fun c o h=>b c o (a c o h)
def Same.free{H H':Hp}(e:Same H H'){l:Addr}(h:H' l=Option.none):H l=Option.none:=by
 cases q:H l with
 |none=>rfl
 |some o=>
  rw[e l o q] at h;cases h
def Same.seq{K:Ad}{H H':Hp}{a:Addr}{xs:List V}(e:Same H H')(h:SqL K H a xs):SqL K H' a xs:=by
 rcases h with (h|⟨o,h⟩)|h
 ·exact .inl (.inl (e _ _ h))
 ·exact .inl (.inr ⟨o,e _ _ h⟩)
 ·exact .inr h
end L2
end
section
namespace Tim
open PySem PyProof.Rows
def R(ρ:Keyed->Int)(xs:Array Keyed)(i:Nat):Int:=match xs[i]? with
 |some p=>ρ p
 |none=>0
def mM{ρ:Keyed->Int}{xs ys:Array Keyed}{i j:Nat}(h:xs[i]?=ys[j]?):R ρ xs i=R ρ ys j:=by unfold R;rw[h]
def ij{ρ:Keyed->Int}{xs:Array Keyed}{i:Nat}{p:Keyed}(h:xs[i]?=some p):R ρ xs i=ρ p:=by unfold R;rw[h]
def br(ρ:Keyed->Int)(xs:Array Keyed)(lo hi:Nat):Prop:=∀i j,lo<=i->i<=j->j<hi->R ρ xs i<=R ρ xs j
def kB(ρ:Keyed->Int)(xs:Array Keyed)(lo hi:Nat):Prop:=∀i j,lo<=i->i<=j->j<hi->R ρ xs j<=R ρ xs i
def v'{ρ:Keyed->Int}{xs:Array Keyed}{i j:Nat}(a:j<=xs.size)(k:Nat):R ρ (mirror xs i j ((j-i) / 2)) k=if i<=k/\k<j then R ρ xs (i+j-1-k) else R ρ xs k:=by
 have e:=getElem?_mirror_all (i:=i) a k
 by_cases h1:i<=k/\k<j
 ·rw[if_pos h1] at e ⊢;exact mM e
 ·rw[if_neg h1] at e ⊢;exact mM e
def zX{ρ:Keyed->Int}{xs:Array Keyed}{i j:Nat}(b:j<=xs.size)(a:∀k,i<=k->k<j->R ρ xs k=R ρ xs (j-1))(k:Nat):R ρ (mirror xs i j ((j-i) / 2)) k=R ρ xs k:=by
 rw[v' b];split
 ·rw[a _ ω ω,a k ω ω]
 ·rfl
def Da{ρ:Keyed->Int}{xs:Array Keyed}{src d:Nat}(hs:src<xs.size)(hd:d<=src)(k:Nat):R ρ (bubble xs src d) k=if k=src-d then R ρ xs src else if src-d<k/\k<=src then R ρ xs (k-1) else R ρ xs k:=by
 have e:=getElem?_bubble hs d hd k
 by_cases h1:k=src-d
 ·rw[if_pos h1] at e ⊢;exact mM e
 ·rw[if_neg h1] at e ⊢
  by_cases h2:src-d<k/\k<=src
  ·rw[if_pos h2] at e ⊢;exact mM e
  ·rw[if_neg h2] at e ⊢;exact mM e
structure fj(prog:Program)(w:World)(A:Around)(s:Shared)(κ:SortKind)(a₀:Array Keyed)(ρ:Keyed->Int):Prop where
 lt:∀x y,x∈a₀.toList->y∈a₀.toList->∀(Q:Bool->Shared->Prop)(E:Ω),Q (decide (ρ x<ρ y)) s->wpAny (model prog w) A (keyLt' κ x.1 y.1) Q E s
structure B(κ:SortKind)(a₀:Array Keyed)(st:SortSt):Prop where
 perm:(arrOf st).Perm a₀
 kind:kindOf st=κ
 failed:failedOf st=none
def B.size{κ:SortKind}{a₀:Array Keyed}{st:SortSt}(h:B κ a₀ st):(arrOf st).size=a₀.size:=h.perm.size_eq
def B.setArr{κ:SortKind}{a₀:Array Keyed}{st:SortSt}(h:B κ a₀ st){xs:Array Keyed}(hp:xs.Perm (arrOf st)):B κ a₀ (setArr st xs):=⟨hp.trans h.perm,h.kind,h.failed⟩
def B.mem{κ:SortKind}{a₀:Array Keyed}{st:SortSt}(h:B κ a₀ st){p:Keyed}(hp:p∈(arrOf st).toList):p∈a₀.toList:=(Array.perm_iff_toList_perm.mp h.perm).mem_iff.mp hp
def Db{xs:Array Keyed}{i:Nat}(hi:i<xs.size):∃p,xs[i]?=some p/\p∈xs.toList:=⟨xs[i],getElem?_pos _ i hi,by simp⟩
structure Pre(lo:Nat)(st ai:SortSt):Prop where
 arr:∀k,k<lo->(arrOf ai)[k]?=(arrOf st)[k]?
 pend:pendingOf ai=pendingOf st
def Pre.refl{lo:Nat}{st:SortSt}:Pre lo st st:=⟨fun _ _=>rfl,rfl⟩
def Pre.trans{lo:Nat}{a b c:SortSt}(x:Pre lo a b)(y:Pre lo b c):Pre lo a c:=⟨fun k h=>(y.arr k h).trans (x.arr k h),y.pend.trans x.pend⟩
def Pre.mir{lo i j:Nat}{st:SortSt}(a:j<=(arrOf st).size)(hi:lo<=i):Pre lo st (setArr st (mirror (arrOf st) i j ((j-i) / 2))):=
 ⟨fun k h=>by show(mirror _ _ _ _)[k]?=_;rw[getElem?_mirror_all a,if_neg ω],rfl⟩
def Pre.bub{lo src d:Nat}{st:SortSt}(hs:src<(arrOf st).size)(hd:d<=src)(a:lo<=src-d):Pre lo st (setArr st (bubble (arrOf st) src d)):=
 ⟨fun k h=>by show(bubble _ _ _)[k]?=_;rw[getElem?_bubble hs d hd,if_neg ω,if_neg ω],rfl⟩
section
variable{prog:Program}{w:World}{A:Around}{E:Ω}{s:Shared}{κ:SortKind}{a₀:Array Keyed}{ρ:Keyed->Int}
def IB(C:fj prog w A s κ a₀ ρ){st:SortSt}(a:B κ a₀ st){x y:Keyed}(hx:x∈a₀.toList)(hy:y∈a₀.toList){Q:Option Bool->SortSt->Prop}(h:Q (some (decide (ρ x<ρ y))) st):wpS (model prog w) A E s (lt' x y) Q st:=by
 rw[lt'_eq];refine wpS_bind (wpS_get ?_);rw[a.kind];refine wpS_bind (wpS_lift (wpAny_attempt (C.lt x y hx hy _ _ ⟨rfl,?_⟩)));exact wpS_pure h
def Dc{st:SortSt}{xs:Array Keyed}{i:Nat}{p:Keyed}(h:xs[i]?=some p){Q:Keyed->SortSt->Prop}(hq:Q p st):wpS (model prog w) A E s (elem' xs i) Q st:=by
 rw[elem'_eq,h];exact wpS_pure hq
def mN(C:fj prog w A s κ a₀ ρ){st:SortSt}(a:B κ a₀ st){i j:Nat}(hi:i<a₀.size)(c:j<a₀.size){Q:Option Bool->SortSt->Prop}(h:Q (some (decide (R ρ (arrOf st) i<R ρ (arrOf st) j))) st):wpS (model prog w) A E s (ltAt' i j) Q st:=by
 obtain⟨p,e1,b⟩:=Db (xs:=arrOf st) (i:=i) (by rw[a.size];exact hi);obtain⟨q,e2,m2⟩:=Db (xs:=arrOf st) (i:=j) (by rw[a.size];exact c);rw[ltAt'_eq];refine wpS_bind (wpS_get ?_);show wpS _ _ _ _ (do let x <-elem' (arrOf st) i;let y <-elem' (arrOf st) j;lt' x y) Q st;refine wpS_bind (Dc e1 (wpS_bind (Dc e2 (IB C a (a.mem b) (a.mem m2) ?_))));rw[ij e1,ij e2] at h;exact h
def asc(lo a b:Nat):StateT SortSt Sem AscSt:=
 forIn [a:b] ((none,a):AscSt) fun _ __s=>do
  let __x <-ltAt' (lo+__s.snd) (lo+__s.snd-1)
  match __x with
  |some smaller=>if smaller=true then pure (ForInStep.done (none,__s.snd)) else pure (ForInStep.yield (none,__s.snd+1))
  |_=>pure (ForInStep.done (some none,__s.snd))
def mR(lo n a:Nat):StateT SortSt Sem (Option Nat):=do
 reverseSlice' lo (lo+n)
 let __s <-asc lo n a
 match __s.fst with
 |some r=>pure r
 |none=>pure (some __s.snd)
def ql(lo n a:Nat):StateT SortSt Sem DescSt:=
 forIn [n:a] ((none,n,0):DescSt) fun _ __s=>do
  let __x <-ltAt' (lo+__s.snd.fst) (lo+__s.snd.fst-1)
  match __x with
  |some smaller=>
   if smaller=true then
    if __s.snd.snd>0 then do
     reverseSlice' (lo+__s.snd.fst-(__s.snd.snd+1)) (lo+__s.snd.fst)
     pure (ForInStep.yield (none,__s.snd.fst+1,0))
    else pure (ForInStep.yield (none,__s.snd.fst+1,0))
   else do
    let __x <-ltAt' (lo+__s.snd.fst-1) (lo+__s.snd.fst)
    match __x with
    |some larger=>
     if larger=true then pure (ForInStep.done (none,__s.snd.fst,__s.snd.snd))
     else pure (ForInStep.yield (none,__s.snd.fst+1,__s.snd.snd+1))
    |_=>pure (ForInStep.done (some none,__s.snd.fst,__s.snd.snd))
  |_=>pure (ForInStep.done (some none,__s.snd.fst,__s.snd.snd))
def mS(lo n a:Nat):StateT SortSt Sem (Option Nat):=do
 liftM (rule "list.sort.descending-run")
 let __s <-ql lo (n+1) a
 match __s.fst with
 |some r=>pure r
 |none=>
  if __s.snd.snd>0 then do
   reverseSlice' (lo+__s.snd.fst-(__s.snd.snd+1)) (lo+__s.snd.fst)
   mR lo __s.snd.fst a
  else mR lo __s.snd.fst a
def a_{b c:Type}{m:StateT SortSt Sem b}{f g:b->StateT SortSt Sem c}(h:∀a,f a=g a):(m >>= f)=(m >>= g):=by
 have e:f=g:=funext h;rw[e]
def IC(lo d:Nat):countRun' lo d=(do
  let __s <-asc lo 1 d
  match __s.fst with
  |some r=>pure r
  |none=>
   if(__s.snd==d)=true then pure (some __s.snd)
   else if __s.snd>1 then do
    let __x <-ltAt' lo (lo+__s.snd-1)
    match __x with
    |some rose=>if rose=true then pure (some __s.snd) else do
      reverseSlice' lo (lo+__s.snd)
      mS lo __s.snd d
    |_=>pure none
   else mS lo __s.snd d):=by
 rw[countRun'_eq];unfold mS mR ql asc;refine a_ fun g=>?_;obtain⟨r,n⟩:=g;cases r with
 |some r=>rfl
 |none=>
  dsimp only;split
  ·rfl
  ·split
   ·refine a_ fun x=>?_
    cases x with
    |none=>rfl
    |some rose=>
     dsimp only;split
     ·rfl
     ·refine a_ fun _r=>a_ fun _u=>a_ fun e=>?_
      obtain⟨c,n2,h⟩:=e;cases c with
      |some c=>rfl
      |none=>
       dsimp only;split
       ·refine a_ fun _v=>a_ fun _w=>a_ fun a=>?_
        obtain⟨b,f⟩:=a;cases b<;>rfl
       ·refine a_ fun _w=>a_ fun a=>?_
        obtain⟨b,f⟩:=a;cases b<;>rfl
   ·refine a_ fun _u=>a_ fun e=>?_
    obtain⟨c,n2,h⟩:=e;cases c with
    |some c=>rfl
    |none=>
     dsimp only;split
     ·refine a_ fun _v=>a_ fun _w=>a_ fun a=>?_
      obtain⟨b,f⟩:=a;cases b<;>rfl
     ·refine a_ fun _w=>a_ fun a=>?_
      obtain⟨b,f⟩:=a;cases b<;>rfl
def Dd(C:fj prog w A s κ a₀ ρ){st:SortSt}{lo a d:Nat}{Q:AscSt->SortSt->Prop}(D:lo+d<=a₀.size)(F:1<=a)(u:a<=d)(v:B κ a₀ st)(hs:br ρ (arrOf st) lo (lo+a))(h:∀n,a<=n->n<=d->br ρ (arrOf st) lo (lo+n)->(n=d\/R ρ (arrOf st) (lo+n)<R ρ (arrOf st) (lo+n-1))->Q (none,n) st):wpS (model prog w) A E s (asc lo a d) Q st:=by
 unfold asc;refine wpS_forRange (I:=fun x c f=>f=st/\c=(none,x)/\br ρ (arrOf st) lo (lo+x)) ?step ?fin ⟨rfl,rfl,hs⟩
 case fin=>
  rintro c f ⟨rfl,rfl,e⟩;rw[show max a d=d from ω] at e ⊢;exact h d u (Ag _) e (.inl rfl)
 case step=>
  rintro x c f r z ⟨rfl,rfl,e⟩;dsimp only;refine wpS_bind (mN C v ω ω ?_)
  by_cases b:R ρ (arrOf f) (lo+x)<R ρ (arrOf f) (lo+x-1)
  ·simp only[b,decide_true,if_true]
   exact wpS_pure (h x r ω e (.inr b))
  ·simp only[b,decide_false,Ah,if_false]
   refine wpS_pure ⟨rfl,rfl,fun i j q g y=>?_⟩
   by_cases o:j<lo+x
   ·exact e i j q g o
   ·have l:j=lo+x:=ω
    subst l
    by_cases p:i=lo+x
    ·subst p;exact Int.le_refl _
    ·exact Int.le_trans (e i (lo+x-1) q ω ω) (Int.not_lt.mp b)
def qo{st:SortSt}{i j:Nat}{Q:Unit->SortSt->Prop}(h:Q () (setArr st (mirror (arrOf st) i j ((j-i) / 2)))):wpS (model prog w) A E s (reverseSlice' i j) Q st:=by
 rw[reverseSlice'_eq];exact wpS_modify h
abbrev Got(κ:SortKind)(a₀:Array Keyed)(ρ:Keyed->Int)(lo am:Nat)(st:SortSt)(Q:Option Nat->SortSt->Prop):Prop:=
 ∀m ai,B κ a₀ ai->Pre lo st ai->1<=m->m<=am->br ρ (arrOf ai) lo (lo+m)->Q (some m) ai
def De(C:fj prog w A s κ a₀ ρ){st e:SortSt}{lo n a:Nat}{Q:Option Nat->SortSt->Prop}(o:lo+a<=a₀.size)(h1:1<=n)(c:n<=a)(f:B κ a₀ st)(p:Pre lo e st)(hs:kB ρ (arrOf st) lo (lo+n))(h:Got κ a₀ ρ lo a e Q):wpS (model prog w) A E s (mR lo n a) Q st:=by
 unfold mR;have hsz:lo+n<=(arrOf st).size:=by rw[f.size];omega
 refine wpS_bind (qo ?_);have d:B κ a₀ (setArr st (mirror (arrOf st) lo (lo+n) ((lo+n-lo) / 2))):=f.setArr (mirror_perm _ _ _ _);refine wpS_bind (Dd C o h1 c d ?_ fun m q g b _=>wpS_pure (h m _ d (p.trans (.mir hsz (Ag _))) ω g b));intro i j r l u;show R ρ (mirror (arrOf st) lo (lo+n) ((lo+n-lo) / 2)) i<=R ρ (mirror (arrOf st) lo (lo+n) ((lo+n-lo) / 2)) j;rw[v' hsz,v' hsz,if_pos ω,if_pos ω];exact hs _ _ ω ω ω
def ID(C:fj prog w A s κ a₀ ρ){st F:SortSt}{lo n u:Nat}{Q:DescSt->SortSt->Prop}(P:lo+u<=a₀.size)(h1:1<=n)(G:n<=u)(M:B κ a₀ st)(N:Pre lo F st)(hs:kB ρ (arrOf st) lo (lo+n))(h:∀m e a,B κ a₀ a->Pre lo F a->n<=m->m<=u->kB ρ (arrOf a) lo (lo+m)->e+1<=m->(∀i,lo+m-(e+1)<=i->i<lo+m->R ρ (arrOf a) i=R ρ (arrOf a) (lo+m-1))->Q (none,m,e) a):wpS (model prog w) A E s (ql lo n u) Q st:=by
 unfold ql;refine wpS_forRange (I:=fun x c a=>∃e,c=(none,x,e)/\B κ a₀ a/\Pre lo F a/\kB ρ (arrOf a) lo (lo+x)/\e+1<=x/\
   (∀i,lo+x-(e+1)<=i->i<lo+x->R ρ (arrOf a) i=R ρ (arrOf a) (lo+x-1))) ?step ?fin ⟨0,rfl,M,N,hs,ω,fun i h1 h2=>by congr 1;omega⟩
 case fin=>
  rintro c a ⟨e,rfl,g,z,l,hq,he⟩;rw[show max n u=u from ω] at l hq he ⊢;exact h u e a g z G (Ag _) l hq he
 case step=>
  rintro x c a L O ⟨e,rfl,g,z,l,hq,he⟩;dsimp only;have hsz:lo+x<=(arrOf a).size:=by rw[g.size];omega
  refine wpS_bind (mN C g ω ω ?_)
  by_cases d:R ρ (arrOf a) (lo+x)<R ρ (arrOf a) (lo+x-1)
  ·simp only[d,decide_true,if_true]
   have f:∀xs:Array Keyed,(∀k,R ρ xs k=R ρ (arrOf a) k)->kB ρ xs lo (lo+(x+1)):=by
    intro xs hk i j D q J;rw[hk,hk]
    by_cases v:j<lo+x
    ·exact l i j D q v
    ·have r:j=lo+x:=ω
     subst r
     by_cases y:i=lo+x
     ·subst y;exact Int.le_refl _
     ·exact Int.le_trans (Int.le_of_lt d) (l i (lo+x-1) D ω ω)
   by_cases p:e>0
   ·rw[if_pos p]
    refine wpS_bind (qo (wpS_pure ⟨0,rfl,g.setArr (mirror_perm _ _ _ _),z.trans (.mir hsz ω),f _ (zX hsz he),ω,fun i h1 h2=>by congr 1;omega⟩))
   ·rw[if_neg p]
    exact wpS_pure ⟨0,rfl,g,z,f _ (fun _=>rfl),ω,fun i h1 h2=>by congr 1;omega⟩
  ·simp only[d,decide_false,Ah,if_false]
   refine wpS_bind (mN C g ω ω ?_)
   by_cases b:R ρ (arrOf a) (lo+x-1)<R ρ (arrOf a) (lo+x)
   ·simp only[b,decide_true,if_true]
    exact wpS_pure (h x e a g z L ω l hq he)
   ·simp only[b,decide_false,Ah,if_false]
    have o:R ρ (arrOf a) (lo+x)=R ρ (arrOf a) (lo+x-1):=ω
    refine wpS_pure ⟨e+1,rfl,g,z,fun i j D q J=>?_,ω,fun i h1 h2=>?_⟩
    ·by_cases v:j<lo+x
     ·exact l i j D q v
     ·have r:j=lo+x:=ω
      subst r
      by_cases y:i=lo+x
      ·subst y;exact Int.le_refl _
      ·rw[o];exact l i (lo+x-1) D ω ω
    ·rw[show lo+(x+1)-1=lo+x from ω]
     by_cases H:i=lo+x
     ·subst H;rfl
     ·rw[o];exact he i ω ω
def Dg(C:fj prog w A s κ a₀ ρ){st q:SortSt}{lo n b:Nat}{Q:Option Nat->SortSt->Prop}(f:lo+b<=a₀.size)(g:n+1<=b)(x:B κ a₀ st)(y:Pre lo q st)(hs:kB ρ (arrOf st) lo (lo+(n+1)))(h:Got κ a₀ ρ lo b q Q):wpS (model prog w) A E s (mS lo n b) Q st:=by
 unfold mS;refine wpS_bind (wpS_lift (wpAny_rule ⟨rfl,?_⟩));refine wpS_bind (ID C f ω g x y hs fun m r c d l z o p hq he=>?_);dsimp only;have hsz:lo+m<=(arrOf c).size:=by rw[d.size];omega
 by_cases a:r>0
 ·rw[if_pos a]
  refine wpS_bind (qo (De C f ω o (d.setArr (mirror_perm _ _ _ _)) (l.trans (.mir hsz ω)) ?_ h));intro i j u e v;show R ρ (mirror (arrOf c) _ _ _) j<=R ρ (mirror (arrOf c) _ _ _) i;rw[zX hsz he,zX hsz he];exact p i j u e v
 ·rw[if_neg a]
  exact De C f ω o d l p h
def IE(C:fj prog w A s κ a₀ ρ){st:SortSt}{lo p:Nat}{Q:Option Nat->SortSt->Prop}(x:lo+p<=a₀.size)(h1:1<=p)(c:B κ a₀ st)(h:Got κ a₀ ρ lo p st Q):wpS (model prog w) A E s (countRun' lo p) Q st:=by
 rw[IC];refine wpS_bind (Dd C x (Ag 1) h1 c (fun i j f g z=>by have:i=j:=ω;subst this;exact Int.le_refl _) fun n D F r G=>?_);dsimp only
 by_cases d:n=p
 ·rw[if_pos (by simpa using d)]
  exact wpS_pure (h n st c .refl D F r)
 ·rw[if_neg (by simpa using d)]
  have l:R ρ (arrOf st) (lo+n)<R ρ (arrOf st) (lo+n-1):=G.resolve_left d
  by_cases q:n>1
  ·rw[if_pos q]
   refine wpS_bind (mN C c ω ω ?_)
   by_cases b:R ρ (arrOf st) lo<R ρ (arrOf st) (lo+n-1)
   ·simp only[b,decide_true,if_true]
    exact wpS_pure (h n st c .refl D F r)
   ·simp only[b,decide_false,Ah,if_false]
    have hsz:lo+n<=(arrOf st).size:=by rw[c.size];omega
    have a:∀k,lo<=k->k<lo+n->R ρ (arrOf st) k=R ρ (arrOf st) (lo+n-1):=by
     intro k f hk;have I:=r lo k ω f hk;have J:=r k (lo+n-1) f ω ω;omega
    refine wpS_bind (qo (Dg C x ω (c.setArr (mirror_perm _ _ _ _)) (.mir hsz (Ag _)) ?_ h));intro i j f g z;show R ρ (mirror (arrOf st) _ _ _) j<=R ρ (mirror (arrOf st) _ _ _) i;rw[zX hsz a,zX hsz a]
    by_cases y:j<lo+n
    ·rw[a i ω ω,a j ω y];exact Int.le_refl _
    ·have u:j=lo+n:=ω
     subst u
     by_cases e:i=lo+n
     ·subst e;exact Int.le_refl _
     ·rw[a i ω ω];exact Int.le_of_lt l
  ·rw[if_neg q]
   have o:n=1:=ω
   subst o;refine Dg C x ω c .refl ?_ h;intro i j f g z
   by_cases e:i=j
   ·subst e;exact Int.le_refl _
   ·have H:i=lo:=ω
    have v:j=lo+1:=ω
    subst H;subst v;exact Int.le_of_lt l
def IF(C:fj prog w A s κ a₀ ρ){st:SortSt}{lo n ok:Nat}{Q:Bool->SortSt->Prop}(P:lo+n<=a₀.size)(J:ok<=n)(L:B κ a₀ st)(hs:br ρ (arrOf st) lo (lo+ok))(h:∀a,B κ a₀ a->Pre lo st a->br ρ (arrOf a) lo (lo+n)->Q true a):wpS (model prog w) A E s (binarySort' lo n ok) Q st:=by
 rw[binarySort'_eq];refine wpS_bind (wpS_mono (wpS_forRange (I:=fun k c a=>c=(none,())/\B κ a₀ a/\Pre lo st a/\br ρ (arrOf a) lo (lo+min k n))
  (Q:=fun c a=>c=(none,())/\B κ a₀ a/\Pre lo st a/\br ρ (arrOf a) lo (lo+n)) ?step ?fin ?init) ?post)
 case post=>
  rintro c a ⟨rfl,f,q,e⟩;exact wpS_pure (h a f q e)
 case init=>
  refine⟨rfl,L,.refl,fun i j z p D=>?_⟩
  by_cases h1:ok=0
  ·have:i=j:=ω
   subst this;exact Int.le_refl _
  ·exact hs i j z p ω
 case fin=>
  rintro c a ⟨hc,f,q,e⟩;refine⟨hc,f,q,?_⟩
  rwa [show min (max (max ok 1) n) n=n from ω] at e
 case step=>
  rintro k c a M N ⟨rfl,f,q,e⟩;rw[show min k n=k from ω] at e;have hk:lo+k<a₀.size:=ω
  refine wpS_bind (wpS_mono (wpS_forRange (I:=fun x c d=>d=a/\∃l r,c=(none,l,r)/\l<=r/\r<=k/\r-l<=k-x/\
    (∀i,i<l->R ρ (arrOf a) (lo+i)<=R ρ (arrOf a) (lo+k))/\(∀i,r<=i->i<k->R ρ (arrOf a) (lo+k)<R ρ (arrOf a) (lo+i)))
   (Q:=fun c d=>d=a/\∃l r,c=(none,l,r)/\l<=k/\
    (∀i,i<l->R ρ (arrOf a) (lo+i)<=R ρ (arrOf a) (lo+k))/\(∀i,l<=i->i<k->R ρ (arrOf a) (lo+k)<R ρ (arrOf a) (lo+i))) ?istep ?ifin ?iinit) ?ipost)
  case iinit=>exact⟨rfl,0,k,rfl,ω,ω,ω,fun i hi=>ω,fun i h1 h2=>ω⟩
  case ifin=>
   rintro c d ⟨rfl,l,r,rfl,F,v,hm,g,o⟩;have:l=r:=ω
   subst this;exact⟨rfl,l,l,rfl,v,g,o⟩
  case istep=>
   rintro x c d _ S ⟨rfl,l,r,rfl,F,v,hm,g,o⟩;dsimp only
   by_cases u:l ≥ r
   ·rw[if_pos u]
    have:l=r:=ω
    subst this;exact wpS_pure ⟨rfl,l,l,rfl,v,g,o⟩
   ·rw[if_neg u]
    refine wpS_bind (mN C f hk ω ?_)
    by_cases b:R ρ (arrOf d) (lo+k)<R ρ (arrOf d) (lo+(l+r) / 2)
    ·simp only[b,decide_true,if_true]
     refine wpS_pure ⟨rfl,l,(l+r) / 2,rfl,ω,ω,ω,g,fun i h1 h2=>?_⟩;exact Int.lt_of_lt_of_le b (e _ _ ω ω ω)
    ·simp only[b,decide_false,Ah,if_false]
     refine wpS_pure ⟨rfl,(l+r) / 2+1,r,rfl,ω,ω,ω,fun i h1=>?_,o⟩;exact Int.le_trans (e (lo+i) (lo+(l+r) / 2) ω ω ω) (Int.not_lt.mp b)
  case ipost=>
   rintro c d ⟨rfl,l,r,rfl,O,g,o⟩;show wpS _ _ _ _ (do moveDown' (lo+k) (lo+l);pure (ForInStep.yield (none,()))) _ _;rw[moveDown'_eq];have y:lo+k<(arrOf d).size:=by rw[f.size];exact hk
   refine wpS_bind (wpS_modify (wpS_pure ⟨rfl,f.setArr (bubble_perm _ _ _),q.trans (.bub y ω ω),?_⟩));rw[show min (k+1) n=k+1 from ω];intro i j z p D;show R ρ (bubble (arrOf d) (lo+k) (lo+k-(lo+l))) i<=R ρ (bubble (arrOf d) (lo+k) (lo+k-(lo+l))) j;rw[Da y ω,Da y ω,show lo+k-(lo+k-(lo+l))=lo+l from ω];have G:∀i,lo<=i->i<lo+l->R ρ (arrOf d) i<=R ρ (arrOf d) (lo+k):=fun i h1 h2=>by
    have:=g (i-lo) ω;rwa [show lo+(i-lo)=i from ω] at this
   have H:∀i,lo+l<=i->i<lo+k->R ρ (arrOf d) (lo+k)<R ρ (arrOf d) i:=fun i h1 h2=>by
    have:=o (i-lo) ω ω;rwa [show lo+(i-lo)=i from ω] at this
   repeat' split
   all_goals first
    |(exfalso;omega)
    |exact Int.le_refl _
    |exact G _ ω ω
    |exact Int.le_of_lt (H _ ω ω)
    |exact e _ _ ω ω ω
def IG(C:fj prog w A s κ a₀ ρ){st:SortSt}{Q:Unit->SortSt->Prop}(F:B κ a₀ st)(hp:pendingOf st=#[])(h1:1<=a₀.size)(r:a₀.size<64)(h:∀a,B κ a₀ a->br ρ (arrOf a) 0 a₀.size->Q () a):wpS (model prog w) A E s sortRuns' Q st:=by
 rw[sortRuns'_eq];refine wpS_bind (wpS_get ?_);dsimp only;have M:minRun' a₀.size a₀.size 0=a₀.size:=by
  obtain⟨f,hf⟩:∃f,a₀.size=f+1:=⟨a₀.size-1,ω⟩;have:minRun' (f+1) a₀.size 0=a₀.size:=by rw[minRun'_succ,if_pos r];rfl
  rwa [<-hf] at this
 simp only[F.size,M];refine wpS_bind (wpS_mono (wpS_forRange
  (I:=fun x c a=>(x=0/\c=(none,0)/\B κ a₀ a/\pendingOf a=#[])\/(1<=x/\c=(none,a₀.size)/\B κ a₀ a/\(pendingOf a).size<=1/\br ρ (arrOf a) 0 a₀.size))
  (Q:=fun c a=>c=(none,a₀.size)/\B κ a₀ a/\(pendingOf a).size<=1/\br ρ (arrOf a) 0 a₀.size) ?step ?fin (.inl ⟨rfl,rfl,F,hp⟩)) ?post)
 case fin=>
  rintro c a (⟨hx,_,_⟩|⟨_,hc,l⟩)
  ·omega
  ·exact⟨hc,l⟩
 case step=>
  rintro x c a _ hx (⟨rfl,rfl,o,y⟩|⟨O,rfl,l⟩)
  ·dsimp only
   rw[if_neg ω];simp only[Nat.sub_zero,Nat.min_self];refine wpS_bind (IE C ω ω o fun m i u P2 N m2 j=>?_);dsimp only;have tl:∀d,B κ a₀ d->pendingOf d=#[]->br ρ (arrOf d) 0 a₀.size->B κ a₀ (setPending d ((pendingOf d).push (0,a₀.size,0)))/\(pendingOf (setPending d ((pendingOf d).push (0,a₀.size,0)))).size<=1/\br ρ (arrOf (setPending d ((pendingOf d).push (0,a₀.size,0)))) 0 a₀.size:=
    fun d b p q=>⟨⟨b.perm,b.kind,b.failed⟩,by show((pendingOf d).push _).size<=1;rw[p];exact Ag 1,q⟩
   by_cases g:m<a₀.size
   ·rw[if_pos g]
    refine wpS_bind (wpS_lift (wpAny_rule ⟨rfl,?_⟩));refine wpS_bind (IF C ω m2 u j fun d G P3 v=>?_);simp only[A5,Ah,if_false];refine wpS_bind (wpS_get ?_);have z:pendingOf d=#[]:=by rw[P3.pend,P2.pend];exact y
    have hb:(pendingOf d).back?=none:=by rw[z];rfl
    rw[hb];dsimp only;simp only[Nat.zero_add] at v ⊢;exact wpS_bind (wpS_modify (wpS_pure (.inr ⟨ω,rfl,tl d G z v⟩)))
   ·rw[if_neg g]
    have hm:m=a₀.size:=ω
    subst hm;refine wpS_bind (wpS_get ?_);have D:pendingOf i=#[]:=by rw[P2.pend];exact y
    have hb:(pendingOf i).back?=none:=by rw[D];rfl
    rw[hb];dsimp only;simp only[Nat.zero_add] at j ⊢;exact wpS_bind (wpS_modify (wpS_pure (.inr ⟨ω,rfl,tl i u D j⟩)))
  ·dsimp only
   rw[if_pos (Ag _)];exact wpS_pure ⟨rfl,l⟩
 case post=>
  rintro c a ⟨rfl,o,J,L⟩;dsimp only;refine wpS_bind (wpS_mono (wpS_forRange (I:=fun _ c e=>e=a/\c=(none,())) (Q:=fun c e=>e=a/\c=(none,())) ?_ (fun _ _ H=>H) ⟨rfl,rfl⟩) ?_)
  ·rintro x c e _ _ ⟨rfl,rfl⟩
   refine wpS_bind (wpS_get ?_);rw[if_pos J];exact wpS_pure ⟨rfl,rfl⟩
  ·rintro c e ⟨rfl,rfl⟩
   exact wpS_pure (h _ o L)
end
end Tim
end
section
namespace br
open PySem PyProof.Rows HT
def wc:∀a:List Int,lexLt a a=false
 |[]=>rfl
 |x::a=>by rw[zI,if_pos rfl];exact wc a
def kC:∀{a b c:List Int},lexLt a b=true->lexLt b c=true->lexLt a c=true
 |[],[],_,h,_=>by cases h
 |[],_::_,[],_,h=>by cases h
 |[],_::_,_::_,_,_=>rfl
 |_::_,[],_,h,_=>by cases h
 |_::_,_::_,[],_,h=>by cases h
 |x::a,y::b,z::c,h1,h2=>by
  rw[zI] at h1 h2 ⊢
  by_cases e1:x=y
  ·rw[if_pos e1] at h1
   by_cases e2:y=z
   ·rw[if_pos e2] at h2
    rw[if_pos (e1.trans e2)];exact kC h1 h2
   ·rw[if_neg e2] at h2
    rw[if_neg ω];have:=of_decide_eq_true h2;exact decide_eq_true ω
  ·rw[if_neg e1] at h1
   have d:=of_decide_eq_true h1
   by_cases e2:y=z
   ·rw[if_neg ω]
    exact decide_eq_true ω
   ·rw[if_neg e2] at h2
    have e:=of_decide_eq_true h2;rw[if_neg ω];exact decide_eq_true ω
def Dh:∀{a b:List Int},lexLt a b=false->lexLt b a=false->a=b
 |[],[],_,_=>rfl
 |[],_::_,h,_=>by cases h
 |_::_,[],_,h=>by cases h
 |x::a,y::b,h1,h2=>by
  rw[zI] at h1 h2
  by_cases e:x=y
  ·subst e
   rw[if_pos rfl] at h1 h2;rw[Dh h1 h2]
  ·rw[if_neg e] at h1
   rw[if_neg (Ne.symm e)] at h2;have:=of_decide_eq_false h1;have:=of_decide_eq_false h2;omega
def rk(ls:Ξ)(l:List Int):Int:=((ls.filter fun m=>lexLt m l).length:Nat)
def Di{ls:Ξ}{l m:List Int}(f:l∈ls)(hm:m∈ls):decide (rk ls l<rk ls m)=lexLt l m:=by
 have mono:∀{a b:List Int},(∀x,lexLt x a=true->lexLt x b=true)->∀k:Ξ,(k.filter fun x=>lexLt x a).length<=(k.filter fun x=>lexLt x b).length:=by
  intro a b c k
  induction k with
  |nil=>exact Ag _
  |cons x k ih=>
   rw[List.filter_cons,List.filter_cons]
   by_cases q:lexLt x a=true
   ·rw[if_pos q,if_pos (c x q),Au,Au];omega
   ·rw[if_neg q]
    split
    ·rw[Au];omega
    ·exact ih
 have d:∀{a b:List Int},(∀x,lexLt x a=true->lexLt x b=true)->lexLt a b=true->∀k:Ξ,a∈k->(k.filter fun x=>lexLt x a).length<(k.filter fun x=>lexLt x b).length:=by
  intro a b c h k
  induction k with
  |nil=>intro q;cases q
  |cons x k ih=>
   intro hk;rw[List.filter_cons,List.filter_cons];rcases List.mem_cons.mp hk with e|e
   ·subst e
    rw[if_neg (by rw[wc];exact Ao),if_pos h,Au];have:=mono c k;omega
   ·have:=ih e
    by_cases q:lexLt x a=true
    ·rw[if_pos q,if_pos (c x q),Au,Au];omega
    ·rw[if_neg q]
     split
     ·rw[Au];omega
     ·exact this
 unfold rk;cases q:lexLt l m with
 |true=>
  have:=d (a:=l) (b:=m) (fun x hx=>kC hx q) q ls f;exact decide_eq_true ω
 |false=>
  have:=mono (a:=m) (b:=l) (fun x hx=>by
   cases z:lexLt x l with
   |true=>rfl
   |false=>
    cases z2:lexLt l x with
    |true=>rw[kC z2 hx] at q;cases q
    |false=>rw[Dh z z2] at hx;rw[hx] at q;cases q) ls
  exact decide_eq_false ω
structure By(prog:Program)(w:World)(A:Around)(good:Heap->Prop)(us:List Value)(ls:Ξ):Prop where
 len:us.length=ls.length
 fn:∀(i j:Nat) u l m,us[i]?=some u->us[j]?=some u->ls[i]?=some l->ls[j]?=some m->l=m
 ask:2<=us.length->∃κ:SortKind,(∀(s:Shared)(Q:SortKind->Shared->Prop)(E:Ω),good s.heap->Q κ s->wpAny (model prog w) A (keyKind' us.toArray) Q E s)/\
  ∀(i j:Nat) u v l m,us[i]?=some u->us[j]?=some v->ls[i]?=some l->ls[j]?=some m->∀(s:Shared)(Q:Bool->Shared->Prop)(E:Ω),good s.heap->Q (lexLt l m) s->wpAny (model prog w) A (keyLt' κ u v) Q E s
open Classical in
noncomputable def kD(us:List Value)(ls:Ξ)(u:Value):List Int:=if h:∃l,∃i:Nat,us[i]?=some u/\ls[i]?=some l then h.choose else []
def mT{us:List Value}{ls:Ξ}(fn:∀(i j:Nat) u l m,us[i]?=some u->us[j]?=some u->ls[i]?=some l->ls[j]?=some m->l=m){i:Nat}{u:Value}{l:List Int}(h1:us[i]?=some u)(h2:ls[i]?=some l):kD us ls u=l:=by
 unfold kD;have h:∃l,∃i:Nat,us[i]?=some u/\ls[i]?=some l:=⟨l,i,h1,h2⟩;rw[dif_pos h];obtain⟨j,e1,e2⟩:=h.choose_spec;exact fn j i u _ l e1 h1 e2 h2
noncomputable def kE(us:List Value)(ls:Ξ)(p:Keyed):Int:=rk ls (kD us ls p.1)
section
variable{prog:Program}{w:World}{A:Around}{E:Ω}{s:Shared}{good:Heap->Prop}{us vs:List Value}{ls:Ξ}
def qq(h:us.length=vs.length){p:Keyed}(hp:p∈(us.toArray.zip vs.toArray).toList):∃i:Nat,us[i]?=some p.1/\vs[i]?=some p.2:=by
 have e:(us.toArray.zip vs.toArray).toList=us.zip vs:=by simp
 rw[e] at hp;obtain⟨i,hi,e2⟩:=List.mem_iff_getElem.mp hp;rw[List.getElem_zip] at e2;rw[List.length_zip] at hi;refine⟨i,?_,?_⟩
 ·rw[Af ω,<-e2]
 ·rw[Af ω,<-e2]
def IH(B:By prog w A good us ls)(e:us.length=vs.length)(g:good s.heap){κ:SortKind}(h2:2<=us.length)(o:us.length<64)(hk:∀(i j:Nat) u v l m,us[i]?=some u->us[j]?=some v->ls[i]?=some l->ls[j]?=some m->∀(s:Shared)(Q:Bool->Shared->Prop)(E:Ω),good s.heap->Q (lexLt l m) s->wpAny (model prog w) A (keyLt' κ u v) Q E s){Q:Unit->SortSt->Prop}(h:∀a,(arrOf a).Perm (us.toArray.zip vs.toArray)->failedOf a=none->Tim.br (kE us ls) (arrOf a) 0 vs.length->Q () a):wpS (model prog w) A E s sortRuns' Q (SortSt.mk' κ (us.toArray.zip vs.toArray) #[] 7 none):=by
 have c:(us.toArray.zip vs.toArray).size=vs.length:=by simp;omega
 refine Tim.IG (κ:=κ) (a₀:=us.toArray.zip vs.toArray) (ρ:=kE us ls) ⟨fun x y hx hy p q hq=>?_⟩ ⟨Array.Perm.refl _,rfl,rfl⟩ rfl (by rw[c];omega) (by rw[c];omega) fun a b f=>h a b.perm b.failed (by rw[<-c];exact f);obtain⟨i,e1,_⟩:=qq e hx;obtain⟨j,e2,_⟩:=qq e hy;have hi:i<ls.length:=by rw[<-B.len];exact(List.getElem?_eq_some_iff.mp e1).1
 have d:j<ls.length:=by rw[<-B.len];exact(List.getElem?_eq_some_iff.mp e2).1
 have f1:ls[i]?=some ls[i]:=Af hi;have f2:ls[j]?=some ls[j]:=Af d;refine hk i j _ _ _ _ e1 e2 f1 f2 s p q g ?_;unfold kE at hq;rw[mT B.fn e1 f1,mT B.fn e2 f2,Di (A3 hi) (A3 d)] at hq;exact hq
def bN{a b:Type}:∀(l:List a)(m:List b)(i:Nat),(l.zip m)[i]?=(l[i]?).bind fun x=>(m[i]?).map fun y=>(x,y)
 |[],m,i=>by simp
 |x::l,[],i=>by cases h:(x::l)[i]?<;>simp
 |x::l,y::m,0=>rfl
 |x::l,y::m,i+1=>by
  rw[List.zip_cons_cons,List.getElem?_cons_succ,List.getElem?_cons_succ,List.getElem?_cons_succ];exact bN l m i
def II(B:By prog w A good us ls)(r:us.length=vs.length){xs:Array Keyed}(hp:xs.Perm (us.toArray.zip vs.toArray))(hs:Tim.br (kE us ls) xs 0 vs.length):∃ps:List (List Int×Value),ps.Perm (ls.zip vs)/\xs.toList.map (·.2)=ps.map (·.2)/\ps.Pairwise fun(a b:List Int×Value)=>HT.lexLt b.1 a.1=false:=by
 have f:xs.toList.Perm (us.zip vs):=by
  have:=Array.perm_iff_toList_perm.mp hp
  simpa using this
 refine⟨xs.toList.map fun p=>(kD us ls p.1,p.2),?_,by rw[As];rfl,?_⟩
 ·have e:(us.zip vs).map (fun p:Keyed=>(kD us ls p.1,p.2))=ls.zip vs:=by
   apply List.ext_getElem?;intro i;rw[Aj,bN,bN];cases e1:us[i]? with
   |none=>
    have:ls[i]?=none:=List.getElem?_eq_none (by rw[<-B.len];exact List.getElem?_eq_none_iff.mp e1);rw[this];rfl
   |some u=>
    have hi:i<ls.length:=by rw[<-B.len];exact(List.getElem?_eq_some_iff.mp e1).1
    have f1:ls[i]?=some ls[i]:=Af hi;rw[f1];cases e2:vs[i]? with
    |none=>rfl
    |some v=>
     show some (kD us ls u,v)=some (ls[i],v);rw[mT B.fn e1 f1]
  rw[<-e];exact f.map _
 ·rw[Bi,List.pairwise_iff_getElem]
  intro i j hi o g;have hsz:xs.size=vs.length:=by
   have:=f.length_eq;rw[Ay,List.length_zip] at this;omega
  rw[Ay] at hi o;have q:=hs i j (AK _) (Nat.le_of_lt g) ω;have s:xs[i]?=some xs[i]:=getElem?_pos xs i hi;have x:xs[j]?=some xs[j]:=getElem?_pos xs j o;rw[Tim.ij s,Tim.ij x] at q;simp only[Array.getElem_toList];obtain⟨h,g1,_⟩:=qq r (p:=xs[i]) (by
   have:=f.mem_iff.mp (show xs[i]∈xs.toList by simp)
   simpa using this)
  obtain⟨l,g2,_⟩:=qq r (p:=xs[j]) (by
   have:=f.mem_iff.mp (show xs[j]∈xs.toList by simp)
   simpa using this)
  have c:h<ls.length:=by rw[<-B.len];exact(List.getElem?_eq_some_iff.mp g1).1
  have d:l<ls.length:=by rw[<-B.len];exact(List.getElem?_eq_some_iff.mp g2).1
  have f1:ls[h]?=some ls[h]:=Af c;have f2:ls[l]?=some ls[l]:=Af d;unfold kE at q;rw[mT B.fn g1 f1,mT B.fn g2 f2] at q ⊢;have:=Di (ls:=ls) (A3 d) (A3 c);rw[<-this];exact decide_eq_false ω
end
end br
end
section
namespace br
open PySem PyProof.Rows PySem.W
section
variable{prog:Program}{w:World}{A:Around}{E:Ω}{s:Shared}{good:Heap->Prop}{us vs:List Value}{ls:Ξ}
def wf{ns:List Int}(hi:IntsAre us ns):By prog w A (fun _=>True) us (ns.map fun n=>[n]):=by
 have b:=hi.length;have a:∀(i:Nat) u l,us[i]?=some u->(ns.map fun n=>[n])[i]?=some l->∃n t,u=.int n t/\l=[n]:=fun i u l h1 h2=>by
  obtain⟨t,e⟩:=IntsAre.int_at hi i u h1;rw[Aj] at h2;cases e2:ns[i]? with
  |none=>rw[e2] at h2;cases h2
  |some n=>
   rw[e2] at h2;have e3:ns.getD i 0=n:=by rw[AL,e2];rfl
   rw[e3] at e;exact⟨n,t,e,(An h2).symm⟩
 refine⟨by rw[Ab,b],fun i j u l m h1 h2 d f=>?_,fun h2=>⟨oneType',fun s Q E _ hq=>?_,fun i j u v l m h1 h2 d f s Q E _ hq=>?_⟩⟩
 ·obtain⟨n,t,e1,rfl⟩:=a i u l h1 d
  obtain⟨c,t',e2,rfl⟩:=a j u m h2 f;rw[e1] at e2;cases e2
  rfl
 ·match us,hi,h2 with
  |[],_,h2=>simp at h2
  |[_],_,h2=>simp at h2
  |v₁::v₂::rest,hi,_=>
   rw[keyKind_ints hi];exact Ac hq
 ·obtain⟨n,t,rfl,rfl⟩:=a i u l h1 d
  obtain⟨c,t',rfl,rfl⟩:=a j v m h2 f;refine kat_lt_int ?_;have:HT.lexLt [n] [c]=decide (n<c):=by
   rw[HT.zI]
   by_cases e:n=c
   ·rw[if_pos e,HT.CU];exact(decide_eq_false ω).symm
   ·rw[if_neg e]
  rw[this] at hq;exact hq
def IsPr(h:Heap)(u:Value)(l:List Int):Prop:=∃(a b:Addr)(n:Int)(t:Tok)(c:List Value)(ps:List Int),u=.ref a/\l=n::ps/\IsTup h a #[.int n t,.ref b]/\IsTup h b c.toArray/\IntsAre c ps
def IsTup.inj{h:Heap}{a:Addr}{xs ys:Array Value}(h1:IsTup h a xs)(h2:IsTup h a ys):xs=ys:=by
 obtain⟨o,e,_,n,d⟩:=h1;obtain⟨o',b,_,c,d'⟩:=h2;rw[e] at b;cases b;rw[d] at d';injection d'
def IntsAre.inj{vs:List Value}{ns ms:List Int}(h:IntsAre vs ns)(g:IntsAre vs ms):ns=ms:=by
 induction h generalizing ms with
 |nil=>cases g;rfl
 |cons n t h ih=>cases g with|cons _ _ h'=>rw[ih h']
def IsPr.inj{h:Heap}{u:Value}{l m:List Int}(h1:IsPr h u l)(h2:IsPr h u m):l=m:=by
 obtain⟨a,b,n,t,c,ps,rfl,rfl,d,f,i1⟩:=h1;obtain⟨o,p,q,t',its',r,e,rfl,g,i,j⟩:=h2;cases e;have:=br.IsTup.inj d g;cases this;have e2:=br.IsTup.inj f i;have e3:c=its':=by simpa using e2
 subst e3;rw[IntsAre.inj i1 j]
def IJ{x y:Value}{l m:List Int}{Q:Bool->Shared->Prop}(h1:IsPr s.heap x l)(h2:IsPr s.heap y m)(hu:A.units<cLine)(hq:Q (HT.lexLt l m) s):wpAny (model prog w) A (keyLt' (tuples' true) x y) Q E s:=by
 obtain⟨a,b,n,t,L,ps,rfl,rfl,H,u,i1⟩:=h1;obtain⟨M,v,g,t',its',C,rfl,rfl,I,D,F⟩:=h2;obtain⟨o,e,hc,k,d⟩:=id H;obtain⟨o',J,hc',N,d'⟩:=id I;refine kat_lt e d J d' ?_;show KatLex prog w A true (decide (2<2)) Q [(.int n t,.int g t'),(.ref b,.ref v)] 0 s;rw[HT.zI] at hq;refine kat_cons (wpAny_mono (SeqAt.EqAt.int_int n t g t' prog w (fun _ _=>False) _ ⟨rfl,rfl⟩:wpAny (model prog w) A (eqBool (.int n t) (.int g t')) (fun e s'=>e=(n==g)/\s'=s) (fun _ _=>False) s) (fun e1 j he=>?_) fun _ _ z=>z);obtain⟨rfl,rfl⟩:=he
 by_cases p:n=g
 ·have r:(n==g)=true:=by simpa using p
  rw[r];rw[if_pos p] at hq;refine kat_yes (kat_cons ?_);have G:∀{c:Addr}{cs:List Value}{i:List Int},IsTup j.heap c cs.toArray->IntsAre cs i->AH (L2.zw prog w) j.heap (i.map Sum.inl) c:=fun{c cs i} hc hi=>by
   obtain⟨o,e,q,k,d⟩:=hc;refine⟨o,cs.toArray,k,e,q,d,?_⟩;have:∀{cs:List Value}{i:List Int},IntsAre cs i->ItemsAre (L2.zw prog w) (i.map Sum.inl) cs:=by
    intro cs i hi
    induction hi with
    |nil=>exact .nil
    |cons n t h ih=>exact .cons (L2.sQ prog w n t) ih
   simpa using this hi
  refine wpAny_eqBool_tuple (knd:=L2.zw prog w) hu (G u i1) (G D F) ?_
  by_cases ep:ps=C
  ·subst ep
   rw[decide_eq_true rfl];rw[wc] at hq;exact kat_yes (kat_nil hq)
  ·have:¬(ps.map Sum.inl:List L2.Key)=C.map Sum.inl:=fun z=>ep (List.map_inj_right (f:=(Sum.inl:Int->L2.Key)) (fun x y h=>Sum.inl.inj h)|>.mp z)
   rw[decide_eq_false this];refine kat_no ?_;show wpAny (model prog w) A (oneLt' false (.ref b) (.ref v)) Q (fun _ _=>False) j;exact kat_one _ _ (HT.Hy u D (by simpa using i1) (by simpa using F) hu hq)
 ·have r:(n==g)=false:=by simpa using p
  rw[r];rw[if_neg p] at hq;refine kat_no ?_;show wpAny (model prog w) A (oneLt' true (.int n t) (.int g t')) Q (fun _ _=>False) j;exact oneLt_int hq
def Dj{h:Heap}:∀{us:List Value}{ls:Ξ},us.length=ls.length->(∀(i:Nat) u l,us[i]?=some u->ls[i]?=some l->IsPr h u l)->∃fs,KatTups h us fs/\fs.length=us.length/\∀f∈fs,∃n t,f=Value.int n t
 |[],[],_,_=>⟨[],.nil,rfl,fun f hf=>nomatch hf⟩
 |u::us,l::ls,hl,hp=>by
  obtain⟨fs,c,g,j⟩:=Dj (us:=us) (ls:=ls) (by simpa using hl) fun i u l h1 h2=>hp (i+1) u l (by simpa using h1) (by simpa using h2);obtain⟨a,b,n,t,q,ps,rfl,rfl,p,r,i1⟩:=hp 0 u l rfl rfl;obtain⟨o,e,hc,k,d⟩:=id p;refine⟨.int n t::fs,.cons e hc d rfl c,by simp[g],fun f hf=>?_⟩;rcases List.mem_cons.mp hf with rfl|hf
  ·exact⟨n,t,rfl⟩
  ·exact j f hf
 |[],_::_,h,_=>by simp at h
 |_::_,[],h,_=>by simp at h
def Dl(d:us.length=ls.length)(hu:A.units<cLine)(o:∃h,good h)(hp:∀h,good h->∀(i:Nat) u l,us[i]?=some u->ls[i]?=some l->IsPr h u l):By prog w A good us ls:=by
 refine⟨d,fun i j u l m h1 h2 a b=>?_,fun h2=>⟨tuples' true,fun s Q E gs hq=>?_,fun i j u v l m h1 h2 a b s Q E gs hq=>?_⟩⟩
 ·obtain⟨h,c⟩:=o
  exact(hp h c i u l h1 a).inj (hp h c j u m h2 b)
 ·obtain⟨fs,e,p,g⟩:=Dj d (hp _ gs)
  refine kat_kind (T:=.type "int") e ω (fun f hf=>?_) ξ hq;obtain⟨n,t,rfl⟩:=g f hf;exact Looks.of_pure rfl
 ·exact IJ (hp _ gs i u l h1 a) (hp _ gs j v m h2 b) hu hq
end
def Out(ls:Ξ)(vs out:List Value):Prop:=∃ps:List (List Int×Value),ps.Perm (ls.zip vs)/\out=ps.map (·.2)/\ps.Pairwise fun(a b:List Int×Value)=>HT.lexLt b.1 a.1=false
section
variable{prog:Program}{w:World}{A:Around}{E:Ω}{s:Shared}{good:Heap->Prop}{us vs:List Value}{ls:Ξ}
def IK(b:ls.length=vs.length)(hu:us.length=vs.length)(h2:vs.length<2):Out ls vs ((us.toArray.zip vs.toArray).map (·.2)).toList:=by
 have e:((us.toArray.zip vs.toArray).map (·.2)).toList=vs:=by
  rw[Array.toList_map,show(us.toArray.zip vs.toArray).toList=us.zip vs by simp,List.map_snd_zip ω]
 rw[e];refine⟨ls.zip vs,List.Perm.refl _,by rw[List.map_snd_zip ω],?_⟩;have a:(ls.zip vs).length<2:=by rw[List.length_zip];omega
 match ls.zip vs,a with
 |[],_=>exact List.Pairwise.nil
 |[x],_=>simp
 |_::_::_,h=>simp only[Au] at h;omega
def Dm(B:By prog w A good us ls)(c:us.length=vs.length)(j:vs.length<64)(i:good s.heap){P:PySem.Fin->Shared->Prop}{G:Unit×SortSt->Sem PySem.Fin}(h:∀a,Out ls vs ((arrOf a).map (·.2)).toList->(arrOf a).size=vs.length->failedOf a=none->wpAny (model prog w) A (G (PUnit.unit,a)) P E s):wpAny (model prog w) A (if vs.toArray.size<2 then(pure general' >>= fun kind=>(if vs.toArray.size<2 then pure () else sortRuns').run (SortSt.mk' kind (us.toArray.zip vs.toArray) #[] 7 none) >>= G)
   else(keyKind' us.toArray >>= fun kind=>(if vs.toArray.size<2 then pure () else sortRuns').run (SortSt.mk' kind (us.toArray.zip vs.toArray) #[] 7 none) >>= G)) P E s:=by
 have b:(us.toArray.zip vs.toArray).size=vs.length:=by rw[Array.size_zip,Ai,Ai];omega
 by_cases h2:vs.toArray.size<2
 ·rw[if_pos h2]
  refine Aa (Ac ?_);rw[if_pos h2];rw[StateT.run_pure];refine Aa (Ac ?_)
  try dsimp only
  rw[Ai] at h2;exact h (SortSt.mk' general' (us.toArray.zip vs.toArray) #[] 7 none) (IK (by rw[<-B.len];exact c) c h2) b rfl
 ·rw[if_neg h2,if_neg h2]
  rw[Ai] at h2;obtain⟨κ,k1,k2⟩:=B.ask ω;refine Aa (k1 s _ E i ?_);refine Aa (wpAny_mono (IH (Q:=fun _ a=>(arrOf a).Perm (us.toArray.zip vs.toArray)/\failedOf a=none/\Tim.br (kE us ls) (arrOf a) 0 vs.length) B c i ω ω k2 fun a d f g=>⟨d,f,g⟩) ?_ fun _ _ e=>e);rintro⟨⟨⟩,a⟩ s' ⟨rfl,hp,hf,hs⟩
  try dsimp only
  exact h a (by
   obtain⟨ps,d,f,g⟩:=II B c hp hs;exact⟨ps,d,by rw[Array.toList_map];exact f,g⟩) (by rw[hp.size_eq];exact b) hf
def wg{a:Addr}{n:Nat}{P:PySem.Fin->Shared->Prop}(c:s.heap.get? a=some (seqObj "list" vs.toArray n))(B:By prog w A good vs ls)(l:∀h',(∀b o,b≠a->s.heap.get? b=some o->h'.get? b=some o)->good h')(d:vs.length<=sizeLine)(f:vs.length<64)(h:∀out:Array Value,Out ls vs out.toList->P (.done (.ret .none)) {s with heap:=sortedHeap s.heap a vs out}):wpAny (model prog w) A (Builtin.«list.sort» ⟨[.ref a],[]⟩) P E s:=by
 rw[list_sort_plain];have i:a<s⁻¹:=Al c;refine Aa (listItems_at c rfl ?_);refine Aa (listUpdate_at c rfl ?_ (by rw[Ai];exact d) (AK _));obtain⟨e1,g⟩:∃e1,(s.heap.update a (AG fun _=>#[])).get? a=some (seqObj "list" #[] e1):=⟨_,get?_update_seq c (fun _=>#[])⟩;refine Aa (seqEpoch_at g rfl ?_);refine Aa (wpAny_newTuple ?_ (by show vs.length<=_;exact d));refine Aa (wpAny_newList ?_ (AK _));refine AA ?_;have j:(((s.heap.update a (AG fun _=>#[])).push (seqObj "tuple" vs.toArray 0)).push (seqObj "list" #[] 0)).get? a=some (seqObj "list" #[] e1):=by
  rw[Heap.get?_push_ne _ _ _ (by rw[size_push',A8];exact Aq (Ba i)),Heap.get?_push_ne _ _ _ (by rw[A8];exact Aq i)];exact g
 show wpAny (model prog w) A _ P E {s with heap:=((s.heap.update a (AG fun _=>#[])).push (seqObj "tuple" vs.toArray 0)).push (seqObj "list" #[] 0)};dsimp only;refine Dm (s:={s with heap:=((s.heap.update a (AG fun _=>#[])).push (seqObj "tuple" vs.toArray 0)).push (seqObj "list" #[] 0)}) B rfl f (l _ fun b o hb e=>Ae _ (Ae _ (by rw[Heap.get?_update_ne _ _ _ _ hb];exact e))) fun p c hsz hf=>?_;dsimp only;refine Aa (seqEpoch_at j rfl ?_);refine Aa (listUpdate_at j rfl ?_ (AK _) (AQ (Nat.le_of_eq ((AV ..).trans hsz)) (Nat.le_succ_of_le d)));rw[hf];simp only[bne_self_eq_false,Ah,if_false];exact Ac (h _ c)
def Dn{l:Addr}{Q:Ω}(g:s.heap.IsList l vs.toArray)(B:By prog w A.in1.in1 good vs ls)(i:∀h',(∀b o,s.heap.get? b=some o->h'.get? b=some o)->good h')(d:vs.length<=sizeLine)(e:vs.length<64)(h:∀out:Array Value,Out ls vs out.toList->Q (.ref (s⁻¹+1)) {s with heap:=sortedAll s.heap vs out}):wpAny (model prog w) A (call (.builtin "sorted") [.ref l]) Q E s:=by
 refine Calls.call_function_entry kind_sorted plain_sorted entry_sorted (args_sorted1 _) ?_;unfold Builtin.«sorted»;refine Aa (m:=checkCount "sorted" 1 1 _) (Ac ?_);refine Aa (collect_list g ?_ d);refine Aa (wpAny_newList ?_ d);have hsz:((s.heap.push (seqObj "list" #[] 0)).update s⁻¹ (AG (·++vs.toArray))).objs.size=s⁻¹+1:=by
  rw[A8,size_push']
 have c:(((s.heap.push (seqObj "list" #[] 0)).update s⁻¹ (AG (·++vs.toArray))).push (seqObj "list" vs.toArray 0)).get? (s⁻¹+1)=some (seqObj "list" vs.toArray 0):=by
  rw[<-hsz];exact Ak _ rfl
 have keep:∀b o,s.heap.get? b=some o->(((s.heap.push (seqObj "list" #[] 0)).update s⁻¹ (AG (·++vs.toArray))).push (seqObj "list" vs.toArray 0)).get? b=some o:=fun b o q=>by
  have a:b<s⁻¹:=Al q;rw[Heap.get?_push_ne _ _ _ (by rw[hsz];exact Aq (Ba a)),Heap.get?_update_ne _ _ _ _ (Aq a),Heap.get?_push_ne _ _ _ (Aq a)];exact q
 show wpAny _ _ _ _ _ {s with heap:=((s.heap.push (seqObj "list" #[] 0)).update s⁻¹ (AG (·++vs.toArray))).push (seqObj "list" vs.toArray 0)};rw[hsz];refine Aa (AA (AF slot_list_sort ⟨_,c,rfl⟩ entry_list_sort (wg (s:={s with heap:=((s.heap.push (seqObj "list" #[] 0)).update s⁻¹ (AG (·++vs.toArray))).push (seqObj "list" vs.toArray 0)}) c B (fun h' hk=>i h' fun b o q=>hk b o (Aq (Ba (Al q))) (keep b o q)) d e fun out f=>⟨_,rfl,?_⟩) (args_list_sort _)));exact Ac ⟨_,rfl,h out f⟩
def IL{a kS:Addr}{keys:Array Value}{e e1:Nat}{st:SortSt}{P:PySem.Fin->Shared->Prop}(j:s.heap.get? kS=some (seqObj "list" keys e))(r:s.heap.get? a=some (seqObj "list" #[] e1))(l:kS≠a)(u:keys.size<=sizeLine)(v:Out ls vs ((arrOf st).map (·.2)).toList)(hsz:(arrOf st).size=vs.length)(x:vs.length<=sizeLine)(y:failedOf st=none)(h:∀h' out c,(∀b o,b≠kS->b≠a->s.heap.get? b=some o->h'.get? b=some o)->h'.get? a=some (seqObj "list" out c)->(∃o,h'.get? kS=some o)->Out ls vs out.toList->h'.objs.size=s⁻¹->P (.done (.ret .none)) {s with heap:=h'}):wpAny (model prog w) A (ksk_tail a false e1 (.ref kS) st) P E s:=by
 have g:=AR s.heap kS (AG fun _=>(#[]:Array Value));have f:(s.heap.update kS (AG fun _=>(#[]:Array Value))).get? a=some (seqObj "list" #[] e1):=(g.2 a l.symm).trans r;have i:=AR (s.heap.update kS (AG fun _=>(#[]:Array Value))) a (AG fun _=>(arrOf st).map (·.2));obtain⟨d,p⟩:∃d,((s.heap.update kS (AG fun _=>(#[]:Array Value))).update a (AG fun _=>(arrOf st).map (·.2))).get? a=some (seqObj "list" ((arrOf st).map (·.2)) d):=
  ⟨_,get?_update_seq f fun _=>(arrOf st).map (·.2)⟩
 unfold ksk_tail
 try dsimp only
 simp only[Ah,if_false];refine Aa (listUpdate_at j rfl ?_ u (AK _));refine Aa (wpAny_letGo ?_);refine Aa (seqEpoch_at f rfl ?_);refine Aa (listUpdate_at f rfl ?_ (AK _) (AQ (Nat.le_of_eq ((AV ..).trans hsz)) (Nat.le_succ_of_le x)));rw[y];simp only[bne_self_eq_false,Ah,if_false];refine Ac (h _ _ d (fun b o h1 h2 q=>(i.2 b h2).trans ((g.2 b h1).trans q)) p ⟨_,(i.2 kS l).trans (get?_update_seq j fun _=>#[])⟩ v (by rw[A8,A8]))
end
end br
end
section
namespace L2
open PySem PySem.Spec PyProof.Rows
def clOf(cells:List (Str×Addr)):List (Str×NameKind)->List (Str×Addr)->List (Str×Addr)
 |[],acc=>acc
 |(n,k)::r,acc=>if(k==.free)=true then clOf cells r ((n,(cells.lookup n).getD 0)::acc) else clOf cells r acc
def Do{env:Env}:∀(names:List (Str×NameKind))(acc:List (Str×Addr)),(∀x∈names,x.2=.free->∃c,env.cells.lookup x.1=some c)-> (forIn names acc fun x(r:List (Str×Addr))=>if(x.2==.free)=true then do let c <-cellOf env x.1;pure (ForInStep.yield ((x.1,c)::r)) else pure (ForInStep.yield r):Sem (List (Str×Addr)))=pure (clOf env.cells names acc)
 |[],acc,_=>rfl
 |(n,k)::r,acc,h=>by
  rw[List.forIn_cons];have b:=fun a=>Do (env:=env) r a fun x hx=>h x (Ax _ hx);unfold clOf
  by_cases hk:(k==NameKind.free)=true
  ·have hk':k=.free:=by cases k<;>first|rfl|cases hk
   obtain⟨c,hc⟩:=h (n,k) Av hk';simp only[hk,if_true];unfold cellOf;rw[hc];simp only[pure_bind,Option.getD_some];exact b _
  ·simp only[hk,Ah,if_false,pure_bind]
   exact b _
def IM{scope:Scope}{env:Env}(h:∀x∈scope.names,x.2=.free->∃c,env.cells.lookup x.1=some c):closureFor scope env=pure (clOf env.cells scope.names []):=by
 rw[<-Do scope.names [] h];unfold closureFor;simp
def wh{cells:List (Str×Addr)}{x:Str}{c:Addr}:∀{names:List (Str×NameKind)}{acc:List (Str×Addr)},(∀y∈names,y.2=.free->∃d,cells.lookup y.1=some d)->(∀p∈acc,cells.lookup p.1=some p.2)->(clOf cells names acc).lookup x=some c->cells.lookup x=some c
 |[],acc,_,ha,h=>ha (x,c) (PySem.mem_of_lookup h)
 |(n,k)::r,acc,hn,ha,h=>by
  unfold clOf at h;have b:∀y∈r,y.2=.free->∃d,cells.lookup y.1=some d:=fun y hy=>hn y (Ax _ hy)
  by_cases hk:(k==NameKind.free)=true
  ·have hk':k=.free:=by cases k<;>first|rfl|cases hk
   obtain⟨d,hd⟩:=hn (n,k) Av hk';rw[if_pos hk] at h;refine wh b (fun p hp=>?_) h;rcases List.mem_cons.mp hp with rfl|hp
   ·show cells.lookup n=some ((cells.lookup n).getD 0)
    have a:cells.lookup n=some d:=hd;rw[a];rfl
   ·exact ha p hp
  ·rw[if_neg hk] at h
   exact wh b ha h
def wl{x:Str}{c:Addr}:∀{l:List (Str×Addr)},(x,c)∈l->∃d,l.lookup x=some d
 |[],h=>nomatch h
 |(y,d)::l,h=>by
  rw[Bh]
  by_cases e:x=y
  ·subst e;exact⟨d,by simp⟩
  ·have hb:(x==y)=false:=by simpa using e
   rw[hb];rcases List.mem_cons.mp h with q|q
   ·cases q;exact absurd rfl e
   ·exact wl q
def qr{cells:List (Str×Addr)}{x:Str}:∀{names:List (Str×NameKind)}{acc:List (Str×Addr)},((x,NameKind.free)∈names\/∃c,(x,c)∈acc)->∃c,(x,c)∈clOf cells names acc
 |[],acc,h=>h.elim (fun q=>nomatch q) id
 |(n,k)::r,acc,h=>by
  unfold clOf
  by_cases hk:(k==NameKind.free)=true
  ·rw[if_pos hk]
   refine qr ?_;rcases h with h|⟨c,h⟩
   ·rcases List.mem_cons.mp h with q|q
    ·cases q;exact .inr ⟨_,Av⟩
    ·exact .inl q
   ·exact .inr ⟨c,Ax _ h⟩
  ·rw[if_neg hk]
   refine qr ?_;rcases h with h|h
   ·rcases List.mem_cons.mp h with q|q
    ·cases q;exact absurd rfl hk
    ·exact .inl q
   ·exact .inr h
def cxC(X:Cx)(scope:Scope)(N:List Str)(a:List (Str×Addr))(C:Addr)(s₀:Shared)(H₀:Hp)(ex:List Addr):Cx where
 prog:=X.prog
 w:=X.w
 K:=X.K
 mg:=X.mg
 base:=X.base
 A:=X.A
 N:=N
 s₀:=s₀
 H₀:=H₀
 env:=compEnvC scope a C X.env
 outer:=X.stack
 stack:=X.stack
 ex:=ex
 fn:=fun _=>false
 calm:=X.calm
 pn:=X.pn
 xe:=fun _ _=>False
def i7(X:Cx)(bH:List Expr)(t:TT):Prop:=
 ∀(aa:Ψ)(s:Shared)(σ:St)(H:Hp)(Q:Bool->Hp->Prop),Inv X aa σ H s->t σ H Q->
  wpAny (model X.prog X.w) X.A (forIn bH true fun c r=>if r=true then do let ok <-isTrue c X.env (eval c X.env);pure (ForInStep.yield ok) else pure (ForInStep.yield r)) (TP X aa σ Q) X.xe s
def b8:TT:=fun _ H Q=>Q true H
def zF{X:Cx}:i7 X [] b8:=fun _ _ _ H _ I h=>wpAny_tests_nil ⟨H,I,h⟩
def ik{X:Cx}{c:Expr}{t:TT}(h:PT X c t):i7 X [c] t:=fun aa s σ H Q I hw=>wpAny_tests_one (h aa s σ H Q I hw)
def m_(aw:List (Option Nat))(σ:St):St:=aw.map fun c=>match c with
 |none=>none
 |some j=>(σ[j]?).getD none
def cX(J:It)(g:TG)(tc:TT)(te:TE)(σ:St)(H1:Hp)(D:Addr)(Q:VK):Prop:=
 ∃W:Nat->Nat->St->Hp->Prop,(∃m,W 0 m σ (upd H1 D (.lst [])))/\
 ∀i m d H2,W i m d H2->(J.stop i H2/\Q (.ref D) H2)\/(J.go i H2/\∀x h,J.yld i H2 x h->g x d h fun c j=>tc c j fun b e=>
  if b=true then te c e fun y f=>∃ys a,f D=some (.lst ys)/\ys.length<sizeLine/\a<m/\W (i+1) a c (upd f D (.lst (ys++[y])))
  else ∃a,a<m/\W (i+1) a c e)
def kF(wi:TI)(aw:List (Option Nat))(g:TG)(tc:TT)(te:TE):TE:=fun σ H Q=>wi σ H fun J H1=>∀D,H1 D=none->cX J g tc te (m_ aw σ) H1 D Q
def qu(N N':List Str)(aw:List (Option Nat))(scope:Scope):Prop:=
 aw.length=N'.length/\∀i j:Nat,aw[i]?=some (some j)->∃x:Str,N'[i]?=some x/\N[j]?=some x/\scope.names.lookup x=some .free
section
variable{X:Cx}{scope:Scope}{N':List Str}{aw:List (Option Nat)}{tg iter cp:Expr}{bH:List Expr}{wi:TI}{g:TG}{tc:TT}{te:TE}{pos:Pos}
def Dp{scope:Scope}{env:Env}{x:Str}:∀{names:List (Str×NameKind)},(names.lookup x=some .free\/names.lookup x=some .cell)-> ((names.map fun(n,k)=>if(k==NameKind.free&&env.scope.kind==.function&&env.kindOf n==some .cell) then(n,NameKind.cell) else(n,k)).lookup x=some .free \/
   (names.map fun(n,k)=>if(k==NameKind.free&&env.scope.kind==.function&&env.kindOf n==some .cell) then(n,NameKind.cell) else(n,k)).lookup x=some .cell)
 |[],h=>by simp at h
 |(n,k)::r,h=>by
  have a:=@Dp scope env x r;show List.lookup x ((if(k==NameKind.free&&env.scope.kind==.function&&env.kindOf n==some .cell)=true then(n,NameKind.cell) else(n,k))::_)=_\/List.lookup x ((if(k==NameKind.free&&env.scope.kind==.function&&env.kindOf n==some .cell)=true then(n,NameKind.cell) else(n,k))::_)=_;cases hx:x==n with
  |true=>
   simp only[Bh,hx] at h
   by_cases hc:(k==NameKind.free&&env.scope.kind==.function&&env.kindOf n==some .cell)=true
   ·rw[if_pos hc];simp[Bh,hx]
   ·rw[if_neg hc];simp only[Bh,hx];exact h
  |false=>
   simp only[Bh,hx] at h
   by_cases hc:(k==NameKind.free&&env.scope.kind==.function&&env.kindOf n==some .cell)=true
   ·rw[if_pos hc];simp only[Bh,hx];exact a h
   ·rw[if_neg hc];simp only[Bh,hx];exact a h
def wm{env:Env}{x:Str}{a:NameKind}:∀{names:List (Str×NameKind)},(names.map fun(n,k)=>if(k==NameKind.free&&env.scope.kind==.function&&env.kindOf n==some .cell) then(n,NameKind.cell) else(n,k)).lookup x=some a->
  ∃b,names.lookup x=some b/\(a=b\/(b=.free/\a=.cell))
 |[],h=>by simp at h
 |(n,k)::r,h=>by
  have c:=@wm env x a r;have h':List.lookup x ((if(k==NameKind.free&&env.scope.kind==.function&&env.kindOf n==some .cell)=true then(n,NameKind.cell) else(n,k))::_)=some a:=h;cases hx:x==n with
  |true=>
   simp only[Bh,hx]
   by_cases hc:(k==NameKind.free&&env.scope.kind==.function&&env.kindOf n==some .cell)=true
   ·rw[if_pos hc] at h'
    simp only[Bh,hx] at h';cases h';have hk:k=.free:=by
     rw[AC,AC] at hc;cases k<;>first|rfl|exact absurd hc.1.1 ξ
    exact⟨k,rfl,.inr ⟨hk,rfl⟩⟩
   ·rw[if_neg hc] at h'
    simp only[Bh,hx] at h';cases h';exact⟨_,rfl,.inl rfl⟩
  |false=>
   simp only[Bh,hx]
   by_cases hc:(k==NameKind.free&&env.scope.kind==.function&&env.kindOf n==some .cell)=true
   ·rw[if_pos hc] at h';simp only[Bh,hx] at h';exact c h'
   ·rw[if_neg hc] at h';simp only[Bh,hx] at h';exact c h'
structure Left(X:Cx)(aa:Ψ)(σ:St)(H':Hp)(s4:Shared)(C:Addr):Prop where
 ns:∃m,s4.heap.Ns C m
 far:X.s₀⁻¹<=C
 nl:C≠X.env.locals
 nc:∀x c,X.env.cells.lookup x=some c->c≠C
 np:∀p∈X.pn++aa,p.1≠C
 no:H' C=none
 back:∀h',AN C s4.heap h'->Inv X aa σ H' {s4 with heap:=h'}
def Dq{use:Option (Value->Sem Unit)}{R:Ω}{pp:Pos}(hc:X.calm=true)(hk:scope.kind=.function)(aO:∀y∈scope.names,y.2≠.cell)(aQ:∀y∈scope.names,y.2=.local->scope.names.lookup y.1=some .local)(hfr:∀y∈scope.names,y.2=.free->X.env.kindOf y.1=some .cell\/X.env.kindOf y.1=some .free)(b_:qu X.N N' aw scope)(hi:PI X tg iter wi)(hg:∀cl C s₀ H₀ ex,PG (cxC X scope N' cl C s₀ H₀ ex) tg g)(ht:∀cl C s₀ H₀ ex,i7 (cxC X scope N' cl C s₀ H₀ ex) bH tc)(he:∀cl C s₀ H₀ ex,PE (cxC X scope N' cl C s₀ H₀ ex) cp te)(hs:∀x,foldedSetIterable iter X.env x=pure x){aa:Ψ}{s:Shared}{σ:St}{H:Hp}{Q:VK}(I:Inv X aa σ H s)(h:kF wi aw g tc te σ H Q)(fin:∀(D C:Addr)(H':Hp)(O:Shared)(f:Flow),Left X aa σ H' O C->Q (.ref D) H'->compPost (model X.prog X.w) X.A X.xe use R (.ref D) C (.ok f) O):wpAny (model X.prog X.w) X.A (comprehension (.ListComp cp [⟨tg,iter,bH,0⟩] scope pos) scope X.env pp (newList []) (firstAsync [⟨tg,iter,bH,0⟩]) (firstIter [⟨tg,iter,bH,0⟩] X.env) use) R X.xe s:=by
 have hcl:∀y∈scope.names,y.2=.free->∃c,X.env.cells.lookup y.1=some c:=fun y hy e=>I.ok.has y.1 (hfr y hy e);refine wpAny_comprehension_free (use:=use) rfl hs (IM hcl) hk aQ ?_;refine aD (hi aa s σ H _ I h) fun xv s1 h1=>aD h1 fun oh M h2=>?_;obtain⟨it,fp,tn,J,H2,e,I2,T,fA,f2,q⟩:=h2;subst e;have lK:H2 M⁻¹=none:=I2.hok.fresh (Ag _);obtain⟨W,⟨m0,w0⟩,turn⟩:=q M⁻¹ lK;refine AE (wpAny_newFunctionEnv aO (by intro y hy;simp at hy) (fun Z c_ c7=>?_) hk);dsimp only at c_ c7 ⊢;generalize hD:M⁻¹=D at *;obtain⟨l,e3⟩:∃l:Shared,l={M with heap:=M.heap.push {cls:=.type "list",dict:=none,data:=.seq ([]:List Value).toArray}}:=⟨_,rfl⟩;have h3:l.heap=M.heap.push {cls:=.type "list",dict:=none,data:=.seq ([]:List Value).toArray}:=by rw[e3]
 rw[<-h3] at c_ c7 ⊢;have ag:l⁻¹=D+1:=by rw[h3,Heap.size_push,hD]
 have I3:Inv X aa σ (upd H2 D (.lst [])) l:=by
  rw[e3,<-hD];exact I2.lnew (t':=M.toks) (ys:=[]) .nil (AK _)
 obtain⟨Xc,E⟩:∃Xc,Xc=cxC X scope N' (clOf X.env.cells scope.names []) l⁻¹ l (upd H2 D (.lst [])) fp:=⟨_,rfl⟩;have ou:PG Xc tg g:=by rw[E];exact hg _ _ _ _ _
 have ht':i7 Xc bH tc:=by rw[E];exact ht _ _ _ _ _
 have he':PE Xc cp te:=by rw[E];exact he _ _ _ _ _
 have xP:Xc.prog=X.prog:=by rw[E];rfl
 have xw:Xc.w=X.w:=by rw[E];rfl
 have xK:Xc.K=X.K:=by rw[E];rfl
 have xA:Xc.A=X.A:=by rw[E];rfl
 have xc:Xc.calm=true:=by rw[E];exact hc
 have xe:Xc.env=compEnvC scope (clOf X.env.cells scope.names []) l⁻¹ X.env:=by rw[E];rfl
 have xE:Xc.xe=fun _ _=>False:=by rw[E];rfl
 have F:∀x c,(clOf X.env.cells scope.names []).lookup x=some c->X.env.cells.lookup x=some c:=fun x c e=>wh hcl (fun p hp=>absurd hp (by simp)) e;have ph:∀b∈fp,b≠D/\b<D:=fun b hb=>by
  obtain⟨ob,eb,_⟩:=T.obj 0 _ fA b hb;have:=Al eb;rw[hD] at this;exact⟨Aq this,this⟩
 have hfs:∀b∈frs X.stack,b<D:=fun b hb=>by
  obtain⟨_,ob,eb,_⟩:=I2.stack.mem hb;have:=Al eb;rw[hD] at this;exact this
 have G:∀b o,l.heap.get? b=some o->Z.get? b=some o:=fun b o e=>by
  have hb:b≠l⁻¹:=Aq (Al e);exact(c7.2 b hb).trans (Ae _ e)
 have hCf:(upd H2 D (.lst [])) l⁻¹=none:=I3.hok.fresh (Ag _);have Ic:Inv Xc aa (m_ aw σ) (upd H2 D (.lst [])) {l with heap:=Z}:=by
  have okc:Xc.Ok:=by
   rw[E];refine⟨I.ok.mod,hk,I.ok.glob,I.ok.blt,Ag _,fun x y c a b=>I.ok.inj x y c (F x c a) (F y c b),fun x hx=>?_,(fun x c a=>absurd a Ao),I.ok.hd,I.ok.frames,.inl rfl,fun b hb=>⟨?_,fun x c e=>?_⟩,fun b o e=>?_,?_,fun b o e z=>?_,fun b hb z=>?_,?_,fun b hb=>?_⟩
   ·have fT:(relabel scope X.env).names.lookup x=some .cell\/(relabel scope X.env).names.lookup x=some .free:=hx
    have key:∃S,scope.names.lookup x=some S/\(S=.free\/S=.cell):=by
     rcases fT with q|q
     ·obtain⟨S,e1,e2⟩:=wm q
      rcases e2 with e2|⟨e2,_⟩
      ·exact⟨S,e1,.inr e2.symm⟩
      ·exact⟨S,e1,.inl e2⟩
     ·obtain⟨S,e1,e2⟩:=wm q
      rcases e2 with e2|⟨e2,_⟩
      ·exact⟨S,e1,.inl e2.symm⟩
      ·exact⟨S,e1,.inl e2⟩
    obtain⟨S,e1,e2⟩:=key;have hm:=PySem.mem_of_lookup e1;rcases e2 with rfl|rfl
    ·obtain⟨c,hc'⟩:=qr (cells:=X.env.cells) (acc:=[]) (.inl hm)
     exact wl hc'
    ·exact absurd rfl (aO _ hm)
   ·show b≠l⁻¹
    exact Aq (by rw[ag];exact Ba (ph b hb).2)
   ·exact(f2 b hb).2.2.2.2.1 x c (F x c e)
   ·exact I3.bs b o e
   ·exact AQ I.ok.bsz I3.sz
   ·obtain⟨f,_,_,fx,_,_⟩:=f2 b z
    rcases fx with fx|fx
    ·exact I.ok.noex b o e fx
    ·have:=AB (Al e) I.ok.bsz
     omega
   ·rcases List.mem_cons.mp (I2.stkSub b z) with r|r
    ·exact(f2 b hb).2.1 r
    ·exact(f2 b hb).2.2.1 r
   ·exact I3.stack
   ·exact I3.stkFree b hb
  refine⟨okc,(by rw[E];rfl),I3.bare,?_,?_,fun x c e=>?_,?_,fun x c e=>?_,fun p hp=>?_,?_,?_⟩
  ·rw[E]
   exact Un.kept G
  ·rw[xe]
   refine⟨_,c_,fun i x v e1 e2 e3=>?_⟩;obtain⟨c1,c2⟩:=b_;unfold m_ at e2;rw[Aj] at e2;cases e4:aw[i]? with
   |none=>rw[e4] at e2;cases e2
   |some cc=>
    rw[e4] at e2;cases cc with
    |none=>cases e2
    |some j=>
     obtain⟨y,d1,d2,d3⟩:=c2 i j e4;have dk:N'[i]?=some x:=by rw[E] at e1;exact e1
     rw[d1] at dk;have sV:y=x:=An dk;subst sV;have e5:σ[j]?=some (some v):=by
      simp only[A1,A9] at e2;cases e6:σ[j]? with
      |none=>rw[e6] at e2;cases e2
      |some ov=>rw[e6] at e2;simp only[Option.getD_some] at e2;rw[e2]
     have hm:=PySem.mem_of_lookup d3;have tN:lE X.env.scope y:=by
      rcases hfr _ hm rfl with q|q
      ·exact .inr (.inl q)
      ·exact .inr (.inr q)
     obtain⟨m,_,hl⟩:=I3.loc;obtain⟨u,ru,lk⟩:=hl j y v d2 e5 tN;refine⟨u,ru,?_⟩;have x5:∃c,X.env.cells.lookup y=some c/\l.heap.IsCell c (some u):=by
      rcases lk with ⟨k1,_⟩|⟨_,c,k2,k3⟩
      ·rcases hfr _ hm rfl with q|q
       ·rw[k1] at q;cases q
       ·rw[k1] at q;cases q
      ·exact⟨c,k2,k3⟩
     obtain⟨c,k2,k3⟩:=x5;obtain⟨d,hd'⟩:=qr (cells:=X.env.cells) (acc:=[]) (.inl hm);obtain⟨d',aF⟩:=wl hd';have:c=d':=by
      have:=F y d' aF;rw[k2] at this;exact An this
     subst this;refine .inr ⟨?_,c,aF,k3.keeps G⟩;have rl:=Dp (scope:=scope) (env:=X.env) (x:=y) (names:=scope.names) (.inl d3);rcases rl with q|q
     ·exact .inr q
     ·exact .inl q
  ·rw[xe] at e
   obtain⟨v,k3⟩:=I3.cell x c (F x c e);exact⟨v,k3.keeps G⟩
  ·rw[xe];exact hCf
  ·rw[xe] at e
   exact I3.freeC x c (F x c e)
  ·have bJ:p∈X.pn++aa:=by rw[E] at hp;exact hp
   obtain⟨a1,a2,a3,a4,a5⟩:=I3.pin p bJ;refine⟨G _ _ a1,a2,?_,?_,a5⟩
   ·rw[xe]
    show p.1≠l⁻¹;exact Aq (Al a1)
   ·rw[E]
    intro z;rcases List.mem_cons.mp (I3.stkSub p.1 z) with r|r
    ·exact a3 r
    ·exact a4 r
  ·rw[xP,xw]
   exact I3.hok.kept G
  ·unfold m_
   rw[Ab,b_.1,E]
   rfl
 have leave:∀{L:St}{H':Hp}{O:Shared}{h':Heap},Inv Xc aa L H' O->AN l⁻¹ O.heap h'->Inv X aa σ H' {O with heap:=h'}:=fun{L H' O h'} I4 aC=>by
  have U:∀b o,M.heap.get? b=some o->b≠D/\b≠l⁻¹:=fun b o e=>by
   have hb:=Al e;rw[hD] at hb;exact⟨Aq hb,Aq (by rw[ag];exact Ba hb)⟩
  have Y:∀b o,M.heap.get? b=some o->l.heap.get? b=some o:=fun b o e=>by rw[h3];exact Ae _ e
  have base:Un (frs X.stack) fp (upd H2 D (.lst [])) H' l.heap O.heap:=by
   have:=I4.base;rw[E] at this;exact this
  have hCn:H' l⁻¹=none:=by
   have:=I4.free;rw[xe] at this;exact this
  have os4:O.os=M.os:=by
   have:=I4.os;rw[E] at this;rw[this];show l.os=M.os;rw[e3]
  refine I2.call' (s':={O with heap:=h'}) (ch:=fp) os4 ⟨fun b o q n hb hx=>?_,fun b o q n hb hx=>?_,fun b o q n hx=>?_,fun b o q hx=>?_,fun b xs q=>?_,fun b o u q=>?_,fun b ps q=>?_⟩ ?_ I4.bare fun b hb=>?_
  ·obtain⟨n1,n2⟩:=U b o q
   exact(aC.2 b n2).trans (base.keep b o (Y b o q) (by rw[zj n1];exact n) hb hx)
  ·obtain⟨n1,n2⟩:=U b o q
   obtain⟨sl,e⟩:=base.slot b o (Y b o q) (by rw[zj n1];exact n) hb hx;exact⟨sl,(aC.2 b n2).trans e⟩
  ·obtain⟨n1,n2⟩:=U b o q
   exact base.free b o (Y b o q) (by rw[zj n1];exact n) hx
  ·obtain⟨n1,n2⟩:=U b o q
   obtain⟨o',e⟩:=base.there b o (Y b o q) hx;exact⟨o',(aC.2 b n2).trans e⟩
  ·exact base.tups b xs (by rw[zj (zh q lK)];exact q)
  ·exact base.frzs b o u (by rw[zj (zh q lK)];exact q)
  ·exact base.tbls b ps (by rw[zj (zh q lK)];exact q)
  ·intro b u e
   have lq:=I4.hok b u e;rw[xP,xw] at lq;refine lq.stay (fun c v hc q=>(aC.2 c ?_).trans q) (fun _ q=>q) fun _ _ q=>q;rintro rfl;rcases hc with z|z
   ·rw[<-z,hCn] at e;cases e
   ·rw[hCn] at z;cases z
  ·obtain⟨f0,f1,f3,f4,f5,f6⟩:=f2 b hb
   exact⟨f4,f1,f5,f6⟩
 have P:∀{H':Hp},(∀b∈fp,H' b=none)->∀b∈fp,bh Xc aa H' b:=fun{H'} hn b hb=>by
  obtain⟨f0,f1,f3,f4,f5,f6⟩:=f2 b hb;refine⟨hn b hb,?_,?_,.inl (by rw[E];exact hb),fun x c e=>?_,fun p hp=>?_⟩
  ·rw[xe]
   show b≠l⁻¹;exact Aq (by rw[ag];exact Ba (ph b hb).2)
  ·rw[E]
   intro z;rcases List.mem_cons.mp (I2.stkSub b z) with r|r
   ·exact f1 r
   ·exact f3 r
  ·rw[xe] at e
   exact f5 x c (F x c e)
  ·rw[E] at hp
   exact f6 p hp
 subst E;have jZ:∀n s',(∃i L H',Inv (cxC X scope N' (clOf X.env.cells scope.names []) l⁻¹ l (upd H2 D (.lst [])) fp) aa L H' s'/\tn i s'.heap/\(∀b∈fp,H' b=none)/\W i n L H')->
   codeAny (model X.prog X.w) X.A (.compLoop (.ListComp cp [⟨tg,iter,bH,0⟩] scope pos) 0 (.ref it) (.ref D) (compEnvC scope (clOf X.env.cells scope.names []) l⁻¹ X.env)) (compPost (model X.prog X.w) X.A X.xe use R (.ref D) l⁻¹) s':=by
  intro n0 BS xG;refine codeAny_loop rfl (fun n s'=>∃i L H',Inv (cxC X scope N' (clOf X.env.cells scope.names []) l⁻¹ l (upd H2 D (.lst [])) fp) aa L H' s'/\tn i s'.heap/\(∀b∈fp,H' b=none)/\W i n L H') (fun n s' hI=>?_) n0 xG;obtain⟨i,L,H',I',ai,qt,w'⟩:=hI;show wpAny _ X.A ((compTurn (.ListComp cp [⟨tg,iter,bH,0⟩] scope pos) 0 (.ref it) (.ref D) (compEnvC scope (clOf X.env.cells scope.names []) l⁻¹ X.env)).onRaise (fun x=>do noteFrame x (compEnvC scope (clOf X.env.cells scope.names []) l⁻¹ X.env);theTreesLotGoes x)) _ _ s';refine wpAny_noted ?_;rw[compTurn_list];refine Aa (wpAny_standAt (Aa ?_));rcases turn i n L H' w' with ⟨stop,qn⟩|⟨go,step⟩
  ·refine aD (T.done (cxC X scope N' (clOf X.env.cells scope.names []) l⁻¹ l (upd H2 D (.lst [])) fp) rfl rfl rfl hc i aa s' L H' _ I' (P qt) ai stop) fun r O ⟨hr,I4⟩=>?_
   subst hr;refine Ac ?_;obtain⟨m,hn,_⟩:=id I4.loc;refine fin D _ H' O _ ⟨⟨m,hn⟩,I3.sz,fun e=>?_,fun x c e=>?_,fun p hp=>Aq (Al (I3.pin p hp).1),I4.free,fun h' aC=>leave I4 aC⟩ qn
   ·obtain⟨m3,ux,_⟩:=I3.loc
    obtain⟨o3,_,_,mG,_⟩:=ux;exact absurd e.symm (Aq (Al mG))
   ·obtain⟨v,hv⟩:=I3.cell x c e
    obtain⟨o3,mG,_⟩:=hv;exact Aq (Al mG)
  ·refine aD (T.item (cxC X scope N' (clOf X.env.cells scope.names []) l⁻¹ l (upd H2 D (.lst [])) fp) rfl rfl rfl hc i aa s' L H' _ I' (P qt) ai go) fun r O ⟨u,hr,h4⟩=>?_
   subst hr;refine Aa (aD h4 fun _ s5 ⟨x,H5,I5,r5,y5,cU,fr5⟩=>?_);have mB:=I5.pinned (P fr5) (T.obj _ _ cU);refine Aa (wpAny_mono (ou _ s5 L H5 x u _ mB r5 (step x H5 y5)) (fun _ s6 h6=>?_) fun _ _ z=>z.elim);obtain⟨jM,H6,I6,q6⟩:=h6;refine Aa (wpAny_mono (ht' _ s6 jM H6 _ I6 q6) (fun ok s7 h7=>?_) fun _ _ z=>z.elim);obtain⟨H7,I7,q7⟩:=h7;have again:∀{kN:St}{H8:Hp}{s8:Shared}{m':Nat},Inv (cxC X scope N' (clOf X.env.cells scope.names []) l⁻¹ l (upd H2 D (.lst [])) fp) (aa++lU fp s5.heap) kN H8 s8->m'<n->W (i+1) m' kN H8->
     ∃m,m<n/\∃i L H',Inv (cxC X scope N' (clOf X.env.cells scope.names []) l⁻¹ l (upd H2 D (.lst [])) fp) aa L H' s8/\tn i s8.heap/\(∀b∈fp,H' b=none)/\W i m L H':=fun{kN H8 s8 m'} I8 hm w8=>by
    refine⟨m',hm,i+1,kN,H8,I8.unpinned,T.keep _ _ _ cU fun b hb o e=>(I8.pin (b,o) (List.mem_append_right _ (List.mem_append_right _ (pS hb e)))).1,fun b hb=>?_,w8⟩;obtain⟨o,e,d⟩:=T.obj _ _ cU b hb;exact(I8.pin (b,o) (List.mem_append_right _ (List.mem_append_right _ (pS hb e)))).2.1
   cases ok with
   |false=>
    obtain⟨m',hm,w7⟩:=q7;exact Ac ⟨rfl,again I7 hm w7⟩
   |true=>
    refine Aa (Aa (wpAny_mono (he' _ s7 jM H7 _ I7 q7) (fun v s8 h8=>?_) fun _ _ z=>z.elim));obtain⟨y,H8,I8,r8,ys,m',lz,ur,yd,w8⟩:=h8;refine Aa (wpAny_mono (p8 (X:=cxC X scope N' (clOf X.env.cells scope.names []) l⁻¹ l (upd H2 D (.lst [])) fp) _ s8 jM H8 (.ref D) [y] (.ref D) [v] (fun _ H9=>H9=upd H8 D (.lst (ys++[y]))) I8 rfl (.cons r8 .nil) ⟨D,ys,y,rfl,rfl,lz,ur,rfl⟩) (fun _ s9 h9=>?_) fun _ _ z=>z.elim);obtain⟨_,H9,I9,_,e9⟩:=h9;subst e9;exact Ac (Ac ⟨rfl,again I9 yd w8⟩)
 have start:∃i L H',Inv (cxC X scope N' (clOf X.env.cells scope.names []) l⁻¹ l (upd H2 D (.lst [])) fp) aa L H' {l with heap:=Z}/\tn i ({l with heap:=Z}:Shared).heap/\(∀b∈fp,H' b=none)/\W i m0 L H':=by
  refine⟨0,m_ aw σ,upd H2 D (.lst []),Ic,T.keep 0 _ _ fA fun b hb o e=>G b o (by rw[h3];exact Ae _ e),fun b hb=>?_,w0⟩;rw[zj (ph b hb).1];exact(f2 b hb).1
 have es:({M with heap:=Z,toks:=M.toks+([]:List (Str×Value)).length}:Shared)={l with heap:=Z}:=by rw[e3];rfl
 show codeAny (model X.prog X.w) X.A _ _ ({M with heap:=Z,toks:=M.toks+([]:List (Str×Value)).length}:Shared);rw[es];refine codeAny_compStart_list (jZ m0 _ start) (T.self _ 0 _ _ _ ?_ (jZ m0 _ start));exact T.keep 0 _ _ fA fun b hb o e=>G b o (by rw[h3];exact Ae _ e)
def IN(hc:X.calm=true)(hk:scope.kind=.function)(b:∀y∈scope.names,y.2≠.cell)(e:∀y∈scope.names,y.2=.local->scope.names.lookup y.1=some .local)(hfr:∀y∈scope.names,y.2=.free->X.env.kindOf y.1=some .cell\/X.env.kindOf y.1=some .free)(i:qu X.N N' aw scope)(hi:PI X tg iter wi)(j:∀a C s₀ H₀ ex,PG (cxC X scope N' a C s₀ H₀ ex) tg g)(l:∀a C s₀ H₀ ex,i7 (cxC X scope N' a C s₀ H₀ ex) bH tc)(he:∀a C s₀ H₀ ex,PE (cxC X scope N' a C s₀ H₀ ex) cp te)(hs:∀x,foldedSetIterable iter X.env x=pure x:=by intro _;rfl):PE X (.ListComp cp [⟨tg,iter,bH,0⟩] scope pos) (kF wi aw g tc te):=by
 intro aa s σ H Q I h;rw[eval_ListComp];refine Dq (use:=none) hc hk b e hfr i hi j l he hs I h fun D C H' o f L q=>?_;obtain⟨m,d⟩:=L.ns;exact⟨m,d,fun h' c=>⟨.ref D,H',L.back h' c,rfl,q⟩⟩
end
end L2
end
section
namespace Zp
open PySem PySem.Spec PyProof.Rows
section
variable{prog:Program}{w:World}{A:Around}{E:Ω}{s:Shared}
def IP{it t:Addr}{i:Nat}{c:Array Value}{x:Value}{Q:Ω}(b:s.heap.IsTupleIter it t i)(f:s.heap.IsTuple t c)(hx:c[i]?=some x)(g:∀h',h'.IsTupleIter it t (i+1)->AN it s.heap h'->Q x {s with heap:=h'}):wpAny (model prog w) A (Builtin.SmallTypes.nextOf (.ref it)) Q E s:=by
 obtain⟨o,a,hc,hd⟩:=id b;obtain⟨h,d,_,j,e⟩:=f;unfold Builtin.SmallTypes.nextOf;refine Aa (AT (name:=Str.ofString "__next__") b.typeIs F.slot_tuple_iterator_next (AF F.slot_tuple_iterator_next b.typeIs F.entry_tuple_iterator_next ?_ (F.args_tuple_iterator_next_1 _)));show wpAny _ _ (field (.ref it) 0 >>= _) _ _ s;refine Aa (AS a hd (x:=.ref t) rfl ?_);show wpAny _ _ (if(Value.ref t==Value.none)=true then _ else _) _ _ s;rw[if_neg (show ¬((Value.ref t==Value.none)=true) from Ao)];show wpAny _ _ (field (.ref it) 1 >>= _) _ _ s;refine Aa (AS a hd (x:=.int i 0) rfl ?_);show wpAny _ _ (seqItems? (.ref t) >>= _) _ _ s;refine Aa (wpAny_seqItems d e ?_);simp only[Bb,hx];refine Aa (Bf a hd (by simp) (Ac ⟨x,rfl,Ac (g _ ?_ (AR ..))⟩));exact⟨_,Heap.get?_update_self _ a (Obj.isFreed_of_fields (AX hd _)),(Obj.cls_mapFields ..).trans hc,by
  rw[AX hd];simp[rawInt]⟩
def IQ{it t:Addr}{i:Nat}{d:Array Value}{Q:Ω}(f:A.handled=none)(c:s.heap.IsTupleIter it t i)(j:s.heap.IsTuple t d)(hx:d[i]?=none)(l:∀h' e,Heap.ExtBut it s.heap h'->(∃o,h'.get? e=some o/\o.cls=.type "StopIteration")->E (.ref e) {s with heap:=h'}):wpAny (model prog w) A (Builtin.SmallTypes.nextOf (.ref it)) Q E s:=by
 obtain⟨o,b,hc,hd⟩:=id c;obtain⟨p,g,_,q,h⟩:=j;unfold Builtin.SmallTypes.nextOf;refine Aa (AT (name:=Str.ofString "__next__") c.typeIs F.slot_tuple_iterator_next (AF F.slot_tuple_iterator_next c.typeIs F.entry_tuple_iterator_next ?_ (F.args_tuple_iterator_next_1 _)));show wpAny _ _ (field (.ref it) 0 >>= _) _ _ s;refine Aa (AS b hd (x:=.ref t) rfl ?_);show wpAny _ _ (if(Value.ref t==Value.none)=true then _ else _) _ _ s;rw[if_neg (show ¬((Value.ref t==Value.none)=true) from Ao)];show wpAny _ _ (field (.ref it) 1 >>= _) _ _ s;refine Aa (AS b hd (x:=.int i 0) rfl ?_);show wpAny _ _ (seqItems? (.ref t) >>= _) _ _ s;refine Aa (wpAny_seqItems g h ?_);simp only[Bb,hx];refine Aa (wpAny_rule (Aa (Bf b hd (by simp) ?_)));show wpAny _ _ (newExc (.type "StopIteration") [] >>= _) _ _ _;refine Aa ?_;simp only[newExc,newTuple];refine Aa (AE ?_ (by size_fits));refine Aa (m:=firstArgMember _ _) (wpAny_of_eq (a:=Value.none) (by first|rfl|(simp only[firstArgMember];rfl)) ?_);refine AE ?_ (by size_fits);simp only[raiseNew];refine Aa (wpAny_handled ?_)
 first|rw[show A.in1.handled=none from f]|rw[f]
 refine Aa (Ac (wpAny_throw ?_));exact l _ _ (((AR ..).extBut.push _).push _) ⟨_,Ak _ rfl,rfl⟩
end
def IR{h h':Heap}{a:Addr}{b:Array Value}(x:h.IsTuple a b)(e:∀o,h.get? a=some o->h'.get? a=some o):h'.IsTuple a b:=let ⟨o,ho,r⟩:=x;⟨o,e o ho,r⟩
def Dr{prog:Program}{w:World}{A:Around}(j:A.handled=none)(it t:Addr)(b:t≠it)(a:Array Value):Draws prog w A it [it,t] a.size (fun i v=>a[i]?=some v) (fun i h=>h.IsTupleIter it t i/\h.IsTuple t a) where
 live:=fun _ _ st=>let ⟨o,ho,_⟩:=st.1;⟨o,ho⟩
 frame:=fun _ _ _ st hk=>⟨st.1.at fun o e=>hk it (by simp) o e,IR st.2 fun o e=>hk t (by simp) o e⟩
 item:=fun i s Q E hi st d=>by
  refine IP st.1 st.2 (x:=a[i]) (by simp[hi]) fun h' f c=>?_;exact d _ h' s.toks (by simp[hi]) ⟨f,st.2.extBut c.extBut b⟩ c
 done:=fun s Q E st g=>IQ j st.1 st.2 (by simp) g
structure Apart(z TI TO i1 i2:Addr)(cA cu:List Addr):Prop where
 z1:z∉cA
 z2:z∉cu
 o1:TO∉cA
 o2:TO∉cu
 m1:i1∈cA
 m2:i2∈cu
 x12:i1∉cu
 x21:i2∉cA
 TIz:TI≠z
 TOz:TO≠z
 TITO:TI≠TO
 TIi1:TI≠i1
 TIi2:TI≠i2
section
variable{prog:Program}{w:World}{A:Around}{E:Ω}{s:Shared}{z TI TO i1 i2:Addr}{cA cu:List Addr}{n1 n2 i:Nat}{P1 P2:Nat->Value->Prop}{S1 S2:Nat->Heap->Prop}{a b:Value}
def IS{Q:Ω}(D1:Draws prog w A i1 cA n1 P1 S1)(D2:Draws prog w A i2 cu n2 P2 S2)(D:Apart z TI TO i1 i2 cA cu)(l:IsZip s.heap z TI TO .none)(eJ:IsPair s.heap TI (.ref i1) (.ref i2))(eI:IsPair s.heap TO a b)(h1:S1 i s.heap)(h2:S2 i s.heap)(l1:i<n1)(l2:i<n2)(hQ:∀x y h' tk,P1 i x->P2 i y->IsZip h' z TI TO (rawInt s⁻¹)->IsPair h' TO x y->S1 (i+1) h'->S2 (i+1) h'->IsPair h' s⁻¹ x y->h'.objs.size=s⁻¹+1->
   (∀c o,c≠z->c≠TO->c≠i1->c≠i2->s.heap.get? c=some o->h'.get? c=some o)->Q (.ref s⁻¹) {s with heap:=h',toks:=tk}):
  wpAny (model prog w) A (Builtin.«zip.__next__» ⟨[.ref z],[]⟩) (fun fin s'=>∃v,fin=.done (.ret v)/\Q v s') E s:=by
 have g:∀c∈cA,c≠z:=fun c hc e=>D.z1 (e▸hc);have L:∀c∈cu,c≠z:=fun c hc e=>D.z2 (e▸hc);have M:∀c∈cA,c≠TO:=fun c hc e=>D.o1 (e▸hc);have N:∀c∈cu,c≠TO:=fun c hc e=>D.o2 (e▸hc);have l9:∀c∈cu,c≠i1:=fun c hc e=>D.x12 (e▸hc);have rV:∀c∈cA,c≠i2:=fun c hc e=>D.x21 (e▸hc);have lA:i1≠z:=g _ D.m1;have oF:i2≠z:=L _ D.m2;have iS:TO≠i1:=(M _ D.m1).symm;have nj:TO≠i2:=(N _ D.m2).symm;show wpAny _ _ (field (.ref z) 2 >>= _) _ _ _;refine Aa (AS l rfl (x:=.bool false) rfl ?_);show wpAny _ _ (field (.ref z) 3 >>= _) _ _ _;refine Aa (AS l rfl (x:=.ref TI) rfl ?_);refine Aa (wpAny_seqItems eJ rfl ?_);show wpAny _ _ (Builtin.SmallTypes.ownedTupleIsFree (.ref z) >>= _) _ _ _;refine Aa ?_;unfold Builtin.SmallTypes.ownedTupleIsFree;refine Aa (AS l rfl (x:=.none) rfl (Ac ?_));simp only[if_true];refine Aa (wpAny_rule ?_);refine Aa (AS l rfl (x:=.ref TO) rfl ?_);refine Aa (wpAny_setField_rec l (by simp) fun g1 d k1=>?_);replace d:IsZip g1 z TI TO .ellipsis:=d;refine Aa ?_;simp only[List.zipIdx_cons,List.zipIdx_nil,List.forIn_cons,List.forIn_nil];refine Aa (Aa (wpAny_onRaise ?_));show wpAny _ _ (Builtin.SmallTypes.nextOf (.ref i1) >>= _) _ _ _;refine Aa (D1.item i _ _ _ l1 (D1.frame _ _ _ h1 fun c hc o e=>k1.extBut c o (g c hc) e) fun x g2 lI X Y k2=>Ac ?_);have O:IsPair g2 TO a b:=k2.extBut _ _ iS (k1.extBut _ _ D.TOz eI);refine Aa (wpAny_seqItems O rfl ?_);refine Aa (wpAny_updateSeq_pair O fun g3 C k3=>?_);replace C:IsPair g3 TO x b:=C;refine Aa (wpAny_letGo (Ac ?_));refine Aa (Aa (wpAny_onRaise ?_));show wpAny _ _ (Builtin.SmallTypes.nextOf (.ref i2) >>= _) _ _ _;refine Aa (D2.item i _ _ _ l2 (D2.frame _ _ _ h2 fun c hc o e=>k3.extBut c o (N c hc) (k2.extBut c o (l9 c hc) (k1.extBut c o (L c hc) e))) fun y g4 BT Z s4 h=>Ac ?_);have P:IsPair g4 TO x b:=h.extBut _ _ nj C;refine Aa (wpAny_seqItems P rfl ?_);refine Aa (wpAny_updateSeq_pair P fun g5 p k5=>?_);replace p:IsPair g5 TO x y:=p;refine Aa (wpAny_letGo (Ac (Ac ?_)));refine Aa (wpAny_seqItems p rfl ?_);refine Aa (wpAny_newTuple ?_);have hsz:g5.objs.size=s⁻¹:=by rw[k5.1,h.1,k3.1,k2.1,k1.1]
 have S:IsZip g5 z TI TO .ellipsis:=k5.extBut _ _ D.TOz.symm (h.extBut _ _ oF.symm (k3.extBut _ _ D.TOz.symm (k2.extBut _ _ lA.symm d)));have kk:∀c o,c≠z->c≠TO->c≠i1->c≠i2->s.heap.get? c=some o->g5.get? c=some o:=fun c o f q F G e=>
  k5.extBut _ _ q (h.extBut _ _ G (k3.extBut _ _ q (k2.extBut _ _ F (k1.extBut _ _ f e))))
 have d1:S1 (i+1) g5:=D1.frame _ _ _ Y fun c hc o e=>k5.extBut c o (M c hc) (h.extBut c o (rV c hc) (k3.extBut c o (M c hc) e));have d2:S2 (i+1) g5:=D2.frame _ _ _ s4 fun c hc o e=>k5.extBut c o (N c hc) e;have T:z<g5.objs.size:=Al S;have e1:∀c∈cA,∀o,g5.get? c=some o->c<g5.objs.size:=fun c _ o e=>Al e;show wpAny _ _ (Builtin.SmallTypes.ownedTupleHandOut (.ref z) (.ref g5.objs.size) >>= _) _ _ _;refine Aa ?_;unfold Builtin.SmallTypes.ownedTupleHandOut;have z6:IsZip (g5.push {cls:=.type "tuple",data:=.seq #[x,y]}) z TI TO .ellipsis:=Ae _ S;refine Aa (wpAny_setField_rec z6 (by simp) fun g7 H I=>?_);replace H:IsZip g7 z TI TO (rawInt g5.objs.size):=H;refine wpAny_setField_rec H (by simp) fun j r J=>?_;replace r:IsZip j z TI TO (rawInt g5.objs.size):=r;have u:∀c o,c≠z->g5.get? c=some o->j.get? c=some o:=fun c o f e=>J.extBut _ _ f (I.extBut _ _ f (Ae _ e));have W:IsPair j g5.objs.size x y:=J.extBut _ _ (Nat.ne_of_gt T) (I.extBut _ _ (Nat.ne_of_gt T) (Ak _ rfl));have U:j.objs.size=g5.objs.size+1:=by rw[J.1,I.1,Heap.size_push]
 rw[hsz] at r W U;refine Ac ⟨_,rfl,?_⟩;show Q (.ref g5.objs.size) _;rw[hsz];exact hQ x y j _ X Z r (u _ _ D.TOz p) (D1.frame _ _ _ d1 fun c hc o e=>u c o (g c hc) e) (D2.frame _ _ _ d2 fun c hc o e=>u c o (L c hc) e) W U fun c o f q F G e=>u c o f (kk c o f q F G e)
def IT{Q:Fin->Shared->Prop}(D1:Draws prog w A i1 cA n1 P1 S1)(D2:Draws prog w A i2 cu n2 P2 S2)(D:Apart z TI TO i1 i2 cA cu)(l:IsZip s.heap z TI TO .none)(U:IsPair s.heap TI (.ref i1) (.ref i2))(W:IsPair s.heap TO a b)(h1:S1 i s.heap)(h2:S2 i s.heap)(L:i=n1\/(i<n1/\i=n2))(H:∀h' e tk,(∀c o,c≠z->c≠TO->c≠i1->c≠i2->s.heap.get? c=some o->h'.get? c=some o)->(∃o,h'.get? e=some o/\o.cls=.type "StopIteration")->E (.ref e) {s with heap:=h',toks:=tk}):wpAny (model prog w) A (Builtin.«zip.__next__» ⟨[.ref z],[]⟩) Q E s:=by
 have j:∀c∈cA,c≠z:=fun c hc e=>D.z1 (e▸hc);have y:∀c∈cu,c≠z:=fun c hc e=>D.z2 (e▸hc);have N:∀c∈cA,c≠TO:=fun c hc e=>D.o1 (e▸hc);have O:∀c∈cu,c≠TO:=fun c hc e=>D.o2 (e▸hc);have P:∀c∈cu,c≠i1:=fun c hc e=>D.x12 (e▸hc);have C:i1≠z:=j _ D.m1;have S:i2≠z:=y _ D.m2;have T:TO≠i1:=(N _ D.m1).symm;show wpAny _ _ (field (.ref z) 2 >>= _) _ _ _;refine Aa (AS l rfl (x:=.bool false) rfl ?_);show wpAny _ _ (field (.ref z) 3 >>= _) _ _ _;refine Aa (AS l rfl (x:=.ref TI) rfl ?_);refine Aa (wpAny_seqItems U rfl ?_);show wpAny _ _ (Builtin.SmallTypes.ownedTupleIsFree (.ref z) >>= _) _ _ _;refine Aa ?_;unfold Builtin.SmallTypes.ownedTupleIsFree;refine Aa (AS l rfl (x:=.none) rfl (Ac ?_));simp only[if_true];refine Aa (wpAny_rule ?_);refine Aa (AS l rfl (x:=.ref TO) rfl ?_);refine Aa (wpAny_setField_rec l (by simp) fun g1 d k1=>?_);replace d:IsZip g1 z TI TO .ellipsis:=d;refine Aa ?_;simp only[List.zipIdx_cons,List.zipIdx_nil,List.forIn_cons,List.forIn_nil];refine Aa (Aa (wpAny_onRaise ?_));have f1:=D1.frame _ _ _ h1 fun c hc o e=>k1.extBut c o (j c hc) e;rcases L with q|⟨M,q⟩
 ·show wpAny _ _ (Builtin.SmallTypes.nextOf (.ref i1) >>= _) _ _ _
  refine Aa (D1.done _ _ _ (q▸f1) fun g2 e k2 he=>?_);obtain⟨r,f,h⟩:=he;have z2:IsZip g2 z TI TO .ellipsis:=k2 _ _ C.symm d;have u:e≠z:=fun x=>by subst x;rw[z2] at f;cases f;simp at h
  refine wpAny_setField_rec z2 (by simp) fun g3 _ k3=>H g3 e _ (fun c o g _ p _ x=>k3.extBut _ _ g (k2 _ _ p (k1.extBut _ _ g x))) ⟨r,k3.extBut _ _ u f,h⟩
 ·show wpAny _ _ (Builtin.SmallTypes.nextOf (.ref i1) >>= _) _ _ _
  refine Aa (D1.item i _ _ _ M f1 fun x g2 X Y Z k2=>Ac ?_);have F:IsPair g2 TO a b:=k2.extBut _ _ T (k1.extBut _ _ D.TOz W);refine Aa (wpAny_seqItems F rfl ?_);refine Aa (wpAny_updateSeq_pair F fun g3 t3 k3=>?_);refine Aa (wpAny_letGo (Ac ?_));refine Aa (Aa (wpAny_onRaise ?_));have f2:S2 i g3:=D2.frame _ _ _ h2 fun c hc o e=>k3.extBut c o (O c hc) (k2.extBut c o (P c hc) (k1.extBut c o (y c hc) e));show wpAny _ _ (Builtin.SmallTypes.nextOf (.ref i2) >>= _) _ _ _;refine Aa (D2.done _ _ _ (q▸f2) fun g4 e v he=>?_);obtain⟨r,f,h⟩:=he;have G:IsZip g4 z TI TO .ellipsis:=v _ _ S.symm (k3.extBut _ _ D.TOz.symm (k2.extBut _ _ C.symm d));have u:e≠z:=fun x=>by subst x;rw[G] at f;cases f;simp at h
  refine wpAny_setField_rec G (by simp) fun g5 _ k5=>H g5 e _ (fun c o g I p J x=>k5.extBut _ _ g (v _ _ J (k3.extBut _ _ I (k2.extBut _ _ p (k1.extBut _ _ g x))))) ⟨r,k5.extBut _ _ u f,h⟩
end
def IU{prog:Program}{w:World}{A:Around}{z TI TO i1 i2:Addr}{cA cu:List Addr}{n1 n2:Nat}{P1 P2:Nat->Value->Prop}{S1 S2:Nat->Heap->Prop}(D1:Draws prog w A.in1 i1 cA n1 P1 S1)(D2:Draws prog w A.in1 i2 cu n2 P2 S2)(D:Apart z TI TO i1 i2 cA cu):WalksT prog w A z (z::TI::TO::(cA++cu)) [z,TO,i1,i2] (min n1 n2) (fun i vals=>∃x y,P1 i x/\P2 i y/\vals=#[x,y])
   (fun i h=>IsZip h z TI TO .none/\IsPair h TI (.ref i1) (.ref i2)/\(∃a b,IsPair h TO a b)/\S1 i h/\S2 i h)
   (fun i T h=>IsZip h z TI TO (rawInt T)/\IsPair h TI (.ref i1) (.ref i2)/\(∃a b,IsPair h TO a b)/\S1 (i+1) h/\S2 (i+1) h/\T≠z/\T≠TO/\T≠i1/\T≠i2) where
 sub:=fun c hc=>by
  simp at hc ⊢;rcases hc with rfl|rfl|rfl|rfl
  ·simp
  ·simp
  ·exact .inr (.inr (.inr (.inl D.m1)))
  ·exact .inr (.inr (.inr (.inr D.m2)))
 frame:=fun i h h' d hk=>by
  obtain⟨f,j,⟨a,b,l⟩,h1,h2⟩:=d;exact⟨hk z (by simp) _ f,hk TI (by simp) _ j,⟨a,b,hk TO (by simp) _ l⟩,D1.frame _ _ _ h1 fun c hc o e=>hk c (by simp[hc]) o e,D2.frame _ _ _ h2 fun c hc o e=>hk c (by simp[hc]) o e⟩
 item:=fun i s Q E hi d p=>by
  obtain⟨f,j,⟨a,b,l⟩,h1,h2⟩:=d;have g:s.TypeIs (.ref z) "zip":=⟨_,f,rfl⟩;unfold pyNext;refine Aa (wpAny_attempt (AT (name:=Str.ofString "__next__") g F.slot_zip_next (AF F.slot_zip_next g F.entry_zip_next
   (IS D1 D2 D f j l h1 h2 (AB hi (Nat.min_le_left ..)) (AB hi (Nat.min_le_right ..)) fun x y h' tk u v C G H I J Y hk=>Ac ?_) (F.args_zip_next_1 _))))
  have lt:∀{c o},s.heap.get? c=some o->s⁻¹≠c:=fun e=>Nat.ne_of_gt (Al e);obtain⟨Z,M⟩:=D1.live _ _ h1;obtain⟨o2,N⟩:=D2.live _ _ h2;exact p s⁻¹ #[x,y] h' tk ⟨_,_,u,v,rfl⟩ (Ag _) ⟨_,J,rfl,_,rfl⟩ ⟨C,hk _ _ D.TIz D.TITO D.TIi1 D.TIi2 j,⟨_,_,G⟩,H,I,lt f,lt l,lt M,lt N⟩
   fun c o hc e=>hk c o (fun x=>hc (by simp[x])) (fun x=>hc (by simp[x])) (fun x=>hc (by simp[x])) (fun x=>hc (by simp[x])) e
 go:=fun bO k pos i T s Q E hm p=>by
  obtain⟨f,j,⟨a,b,l⟩,h1,h2,_⟩:=hm;refine wpAny_letOwnedTupleGo_zip f fun h' L r=>p h' ⟨L,r.extBut _ _ D.TIz j,⟨a,b,r.extBut _ _ D.TOz l⟩,
   D1.frame _ _ _ h1 fun c hc o e=>r.extBut c o (fun q=>D.z1 (q▸hc)) e,D2.frame _ _ _ h2 fun c hc o e=>r.extBut c o (fun q=>D.z2 (q▸hc)) e⟩ fun c o hc e=>r.extBut _ _ (fun x=>hc (by simp[x])) e
 apart:=fun i T h hm g=>by
  obtain⟨_,_,_,_,_,O,P,S,U⟩:=hm;simp at g;rcases g with rfl|rfl|rfl|rfl
  ·exact O rfl
  ·exact P rfl
  ·exact S rfl
  ·exact U rfl
 done:=fun s Q E d p=>by
  obtain⟨f,j,⟨a,b,l⟩,h1,h2⟩:=d;have g:s.TypeIs (.ref z) "zip":=⟨_,f,rfl⟩;have X:min n1 n2=n1\/(min n1 n2<n1/\min n1 n2=n2):=ω
  unfold pyNext;refine Aa (wpAny_attempt (AT (name:=Str.ofString "__next__") g F.slot_zip_next
   (AF F.slot_zip_next g F.entry_zip_next (IT D1 D2 D f j l h1 h2 X fun h' e tk hk he=>?_) (F.args_zip_next_1 _))))
  obtain⟨o,W,hc⟩:=he;refine Aa (Bg (T:="StopIteration") (b:=true) ⟨o,W,hc⟩ isSubtype_stop ?_);exact Ac (p _ tk fun c o hc e=>hk c o (fun x=>hc (by simp[x])) (fun x=>hc (by simp[x])) (fun x=>hc (by simp[x])) (fun x=>hc (by simp[x])) e)
 self:=fun i s Q E d p=>wpAny_pyIter_zip d.1 p
end Zp
end
section
namespace L2
open PySem PySem.Spec PyProof.Rows
section
variable{X:Cx}{aa:Ψ}{σ:St}{H:Hp}{s:Shared}{h':Heap}
def Inv.turneds{t':Nat}{ch:List Addr}(I:Inv X aa σ H s)(hf:∀b∈ch,bh X aa H b)(k:∀b o,b∉ch->s.heap.get? b=some o->h'.get? b=some o):Inv X aa σ H {s with heap:=h',toks:=t'}:=by
 have a:∀b u,H b=some u->b∉ch:=fun b u e z=>by have:=(hf b z).1;rw[this] at e;cases e
 refine I.step (g':=s.gens) (d':=s.drawn) (ch:=ch) (fun b hb=>?_) (fun b o _ _ hc e _=>k b o hc e) (fun b o _ _ hc e _=>⟨o.slots,k b o hc e⟩) (fun _ _ _ _ n=>n)
  (fun b o hc e=>⟨o,k b o hc e⟩) (fun _ _ e=>e) (fun _ _ _ e=>e) (fun b ps e=>⟨#[],by rw[e];simp⟩) (fun m hm=>?_) (fun b u e=>?_) I.bare
 ·obtain⟨f0,f1,f2,f3,f4,f5⟩:=hf b hb
  exact⟨f3,f1,f4,f5⟩
 ·obtain⟨o,es,ep,d,r⟩:=hm
  exact⟨o,es,ep,k _ o (fun z=>(hf _ z).2.1 rfl) d,r⟩
 ·refine(I.hok b u e).stay (fun c v hc q=>k c v ?_ q) (fun _ q=>q) fun _ _ q=>q
  rcases hc with z|z
  ·rw[z];exact a b u e
  ·exact a c _ z
def Inv.adopt{a:Addr}{o:HO}(I:Inv X aa σ H s)(d:H a=none)(h1:X.s₀⁻¹<=a)(h2:a≠X.env.locals)(f:∀x c,X.env.cells.lookup x=some c->c≠a)(g:∀p∈X.pn++aa,p.1≠a)(new:zC X.prog X.w (upd H a o) s.heap a o):Inv X aa σ (upd H a o) s:=by
 refine I.step (h':=s.heap) (g':=s.gens) (t':=s.toks) (d':=s.drawn) (ch:=[a]) (fun b hb=>?_) (fun b o _ _ hc e _=>e) (fun b o _ _ hc e _=>⟨o.slots,e⟩) (fun b o hc e n=>?_)
  (fun b o hc e=>⟨o,e⟩) (fun b xs e=>?_) (fun b o u e=>?_) (fun b ps e=>⟨#[],?_⟩) (fun m hm=>hm) (fun b u e=>?_) I.bare
 ·have e:b=a:=by simpa using hb
  subst e;exact⟨.inr h1,h2,f,g⟩
 ·rw[zj (fun z=>hc (by simp[z]))];exact n
 ·rw[zj (zh e d)];exact e
 ·rw[zj (zh e d)];exact e
 ·rw[zj (zh e d),e];simp
 ·by_cases hb:b=a
  ·subst hb;rw[ak] at e;cases e;exact new
  ·rw[zj hb] at e
   exact(I.hok b u e).stay (fun _ _ _ q=>q) (fun c q=>by rw[zj (zh q d)];exact q) fun c xs q=>by rw[zj (zh q d)];exact q
def Inv.grown{t':Nat}{ch:List Addr}{a:Addr}{o:HO}(I:Inv X aa σ H s)(hf:∀b∈ch,bh X aa H b)(k:∀b o,b∉ch->s.heap.get? b=some o->h'.get? b=some o)(hp:s⁻¹<=a)(new:zC X.prog X.w (upd H a o) h' a o):Inv X aa σ (upd H a o) {s with heap:=h',toks:=t'}:=by
 have I1:Inv X aa σ H {s with heap:=h',toks:=t'}:=I.turneds hf k;obtain⟨f0,f1,f2,f3,f4,f5⟩:=I.fpOk hp (I.hok.fresh hp);exact I1.adopt f0 (AQ I.sz hp) f1 f4 f5 new
def Ds{b t:Addr}{o:Obj}(I:Inv X aa σ H s)(f:bh X aa H b)(hk:X.K.lookup t=some o):t≠b:=by
 intro z;subst z;have e:=I.ok.mod.kin t o hk;rcases f.2.2.2.1 with q|q
 ·exact I.ok.noex t o e q
 ·exact absurd (AB (Al (I.ok.bs t o e).1) q) (Nat.lt_irrefl _)
def Dt{b t:Addr}{xs:List V}(I:Inv X aa σ H s)(f:bh X aa H b)(h:SqT X.K H t xs):t≠b:=by
 rcases h with (h|⟨o,h⟩)|⟨o,_,_,hk,_⟩
 ·exact zh h f.1
 ·exact zh h f.1
 ·exact Ds I f hk
def IV{b t:Addr}{xs:List V}(I:Inv X aa σ H s)(f:bh X aa H b)(h:SqL X.K H t xs):t≠b:=by
 rcases h with (h|⟨o,h⟩)|⟨o,_,_,hk,_⟩
 ·exact zh h f.1
 ·exact zh h f.1
 ·exact Ds I f hk
end
def Du{P:Program}{w:World}{K:Ad}{J:It}{fp wr:List Addr}{it:Addr}{a:Nat->Heap->Prop}{bO:List Expr}{k:Nat}{pos:Pos}(mem:it∈fp)(obj:∀i h,a i h->∀b∈fp,∃o,h.get? b=some o/\∀v,o.data≠.cell v)(keep:∀i h h',a i h->(∀b∈fp,∀o,h.get? b=some o->h'.get? b=some o)->a i h')(hw:∀b∈wr,b∈fp)(W:∀(X:Cx),X.prog=P->X.w=w->X.K=K->X.calm=true->∀(i:Nat)(aa:Ψ)(s:Shared)(σ:St)(H:Hp),Inv X aa σ H s->(∀b∈fp,bh X aa H b)->a i s.heap->(J.go i H\/J.stop i H)->
   ∃(y:List Addr)(n:Nat)(u:Nat->Array Value->Prop)(S:Nat->Heap->Prop)(z:Nat->Addr->Heap->Prop),WalksT P w X.A it y wr n u S z/\S i s.heap/\(∀j h,S j h->a j h)/\
    (J.go i H->i<n/\∀vals,u i vals->∃xs:List V,Vals xs vals.toList/\xs.length<=sizeLine/\∀p,H p=none->J.yld i H (.ref p) (upd H p (.tup xs)))/\(J.stop i H->i=n))
  (self:∀(A:Around)(i:Nat)(s:Shared)(Q:Ω)(E:Ω),a i s.heap->Q (.ref it) s->wpAny (model P w) A (pyIter (.ref it)) Q E s) :
  Turn P w K (.Tuple bO k pos) J fp it a where
 mem:=mem
 obj:=obj
 keep:=keep
 item:=by
  intro X c d f hc i aa s σ H E I hf st l;obtain⟨y,n,u,S,z,WT,C,D,g,_⟩:=W X c d f hc i aa s σ H I hf st (.inl l);obtain⟨hi,N⟩:=g l;subst c d f;refine WT.item i s _ _ hi C fun T vals h' tk hp x F hm hk=>⟨.ref T,rfl,?_⟩;obtain⟨xs,O,U,hy⟩:=N vals hp;have I1:Inv X aa σ (upd H T (.tup xs)) {s with heap:=h',toks:=tk}:=I.grown (ch:=wr) (fun b hb=>hf b (hw b hb)) hk x (show zC X.prog X.w _ h' T (.tup xs) from⟨U,vals.toList,O,by have q:IsTup h' T vals:=F;simpa using q⟩);have Y:∀b∈fp,b≠T:=fun b hb=>by
   obtain⟨o,e,_⟩:=obj i _ st b hb;exact Aq (AB (Al e) x)
  have r:∀b∈fp,bh X aa (upd H T (.tup xs)) b:=fun b hb=>by
   obtain⟨f0,fr⟩:=hf b hb;exact⟨by rw[zj (Y b hb)];exact f0,fr⟩
  refine WT.go bO k pos i T _ _ _ hm fun G L M=>?_;have Z:Inv X aa σ (upd H T (.tup xs)) {s with heap:=G,toks:=tk}:=I1.turneds (s:={s with heap:=h',toks:=tk}) (t':=tk) (ch:=wr) (fun b hb=>r b (hw b hb)) M;exact⟨.ref T,_,Z,rfl,hy T (I.hok.fresh x),D _ _ L,fun b hb=>(r b hb).1⟩
 done:=by
  intro X c d f hc i aa s σ H E I hf st l;obtain⟨y,n,u,S,z,WT,C,D,_,g⟩:=W X c d f hc i aa s σ H I hf st (.inr l);subst c d f;have e:=g l;subst e;exact WT.done s _ _ C fun h' tk hk=>⟨rfl,I.turneds (ch:=wr) (fun b hb=>hf b (hw b hb)) hk⟩
 self:=self
def wn(K:Ad)(a b:Addr):It:=
 ⟨fun i H=>∃xs ys,SqT K H a xs/\SqT K H b ys/\i<min xs.length ys.length,
  fun i H v H'=>∃p x y,v=.ref p/\H p=none/\H'=upd H p (.tup [x,y])/\(∀xs,SqT K H a xs->xs[i]?=some x)/\∀ys,SqT K H b ys->ys[i]?=some y,
  fun i H=>∃xs ys,SqT K H a xs/\SqT K H b ys/\i=min xs.length ys.length⟩
def ei:(2:Nat)<=sizeLine:=by rw[sizeLine_eq];decide
def IW{P:Program}{w:World}{K:Ad}{bO:List Expr}{k:Nat}{pos:Pos}(N O z TI TO i1 i2:Addr)(hd:TI≠z/\TO≠z/\TI≠TO/\TI≠i1/\TI≠i2/\z≠i1/\z≠i2/\TO≠i1/\TO≠i2/\i1≠i2):Turn P w K (.Tuple bO k pos) (wn K N O) [z,TI,TO,i1,i2] z (fun i h=>IsZip h z TI TO .none/\IsPair h TI (.ref i1) (.ref i2)/\(∃a b,IsPair h TO a b)/\h.IsTupleIter i1 N i/\h.IsTupleIter i2 O i):=by
 obtain⟨d1,d2,d3,d4,d5,d6,d7,d8,d9,lw⟩:=hd;refine Du (wr:=[z,TO,i1,i2]) (by simp) (fun i h st b hb=>?_) (fun i h h' st c=>?_) (fun b hb=>?_) (fun X hP hw hK hc i aa s σ H I hf st n6=>?_) fun A i s Q E st h=>wpAny_pyIter_zip st.1 h
 ·obtain⟨d,l,⟨a,b',q⟩,⟨o4,r,_,S⟩,⟨o5,C,_,e5⟩⟩:=st
  simp at hb;rcases hb with rfl|rfl|rfl|rfl|rfl
  ·exact⟨_,d,fun v z=>by cases z⟩
  ·exact⟨_,l,fun v z=>by cases z⟩
  ·exact⟨_,q,fun v z=>by cases z⟩
  ·exact⟨_,r,fun v z=>by rw[S] at z;cases z⟩
  ·exact⟨_,C,fun v z=>by rw[e5] at z;cases z⟩
 ·obtain⟨d,l,⟨a,b',q⟩,r,C⟩:=st
  exact⟨c z (by simp) _ d,c TI (by simp) _ l,⟨a,b',c TO (by simp) _ q⟩,r.at fun o e=>c i1 (by simp) o e,C.at fun o e=>c i2 (by simp) o e⟩
 ·simp at hb ⊢
  rcases hb with rfl|rfl|rfl|rfl<;>simp
 ·subst hP hw hK
  have hd:∃xs ys,SqT X.K H N xs/\SqT X.K H O ys:=by
   rcases n6 with ⟨xs,ys,a,b,_⟩|⟨xs,ys,a,b,_⟩
   ·exact⟨xs,ys,a,b⟩
   ·exact⟨xs,ys,a,b⟩
  obtain⟨xs,ys,D,F⟩:=hd;obtain⟨us,r1,p1,_⟩:=I.tuple D;obtain⟨ws,r2,p2,_⟩:=I.tuple F;have L:=r1.length;have M:=r2.length;have hh:=I.ok.hd hc;obtain⟨d,l,q,r,C⟩:=st;have f:=fun b hb=>Dt I (hf b hb) D;have T:=fun b hb=>Dt I (hf b hb) F;have AP:Zp.Apart z TI TO i1 i2 [i1,N] [i2,O]:=by
   refine⟨?_,?_,?_,?_,by simp,by simp,?_,?_,d1,d2,d3,d4,d5⟩
   ·simp;exact⟨d6,(f z (by simp)).symm⟩
   ·simp;exact⟨d7,(T z (by simp)).symm⟩
   ·simp;exact⟨d8,(f TO (by simp)).symm⟩
   ·simp;exact⟨d9,(T TO (by simp)).symm⟩
   ·simp;exact⟨lw,(T i1 (by simp)).symm⟩
   ·simp;exact⟨lw.symm,(f i2 (by simp)).symm⟩
  have WZ:=Zp.IU (prog:=X.prog) (w:=X.w) (A:=X.A) (Zp.Dr (A:=X.A.in1) hh i1 N (f i1 (by simp)) us.toArray) (Zp.Dr (A:=X.A.in1) hh i2 O (T i2 (by simp)) ws.toArray) AP;refine⟨_,_,_,_,_,WZ,⟨d,l,q,⟨r,p1⟩,⟨C,p2⟩⟩,fun j h st=>⟨st.1,st.2.1,st.2.2.1,st.2.2.2.1.1,st.2.2.2.2.1⟩,fun g=>?_,fun g=>?_⟩
  ·obtain⟨G,J,W,Y,hi⟩:=g
   have e1:=I.tuple_inj W D;have e2:=I.tuple_inj Y F;subst e1 e2;refine⟨by simpa[<-L,<-M] using hi,fun vals hp=>?_⟩;obtain⟨x,y,px,py,rfl⟩:=hp;have o6:us[i]?=some x:=by simpa using px
   have Z:ws[i]?=some y:=by simpa using py
   have lx:i<G.length:=ω
   have ly:i<J.length:=ω
   have gx:G[i]?=some G[i]:=by simp[lx]
   have gy:J[i]?=some J[i]:=by simp[ly]
   obtain⟨u,e3,ru⟩:=r1.get gx;obtain⟨u',S,c9⟩:=r2.get gy;rw[o6] at e3;cases e3;rw[Z] at S;cases S;refine⟨[G[i],J[i]],.cons ru (.cons c9 .nil),ei,fun p hp=>⟨p,_,_,rfl,hp,rfl,fun zs U=>?_,fun zs U=>?_⟩⟩
   ·rw[I.tuple_inj U D];exact gx
   ·rw[I.tuple_inj U F];exact gy
  ·obtain⟨G,J,W,Y,hi⟩:=g
   have e1:=I.tuple_inj W D;have e2:=I.tuple_inj Y F;subst e1 e2
   simpa[<-L,<-M] using hi
def IX(b e:Addr)(xs ys:Array Value):Meets (Builtin.«zip.__new__» ⟨[.type "zip",.ref b,.ref e],[]⟩) (fun _ R s=>s.heap.IsTuple b xs/\s.heap.IsTuple e ys/\
   ∀h',IsZip h' (s⁻¹+4) (s⁻¹+2) (s⁻¹+3) .none->IsPair h' (s⁻¹+2) (.ref s⁻¹) (.ref (s⁻¹+1))->
   IsPair h' (s⁻¹+3) .none .none->h'.IsTupleIter s⁻¹ b 0->h'.IsTupleIter (s⁻¹+1) e 0->
   (∀c o,s.heap.get? c=some o->h'.get? c=some o)->R (.ok (.ret (.ref (s⁻¹+4)))) {s with heap:=h'}):=
 .of_wp fun prog w A R s h=>by
  obtain⟨hp,g,d,tk,os⟩:=s;obtain⟨f,i,h⟩:=h;have p:=sub_zip;have j:Heap.IsTuple (Shared.heap ⟨hp,g,d,tk,os⟩) b xs:=f;have l:Heap.IsTuple (Shared.heap ⟨hp.push {cls:=.type "tuple_iterator",data:=.fields #[.ref b,.int 0 0]},g,d,tk,os⟩) e ys:=Heap.IsTuple.push i _
  wp_walk using wpAny_pyIter_tuple j,wpAny_pyIter_tuple l
  refine⟨_,rfl,?_⟩;dsimp only at h ⊢;have a:∀(h:Heap)(o:Obj),(h.push o).objs.size=h.objs.size+1:=fun h o=>Heap.size_push ..;simp only[a,Nat.add_assoc,Nat.reduceAdd];refine h _ ?_ ?_ ?_ ?_ ?_ fun c o x=>Ae _ (Ae _ (Ae _ (Ae _ (Ae _ x))))
  ·exact Heap.get?_push_at (by simp only[a]) rfl
  ·exact Ae _ (Ae _ (Heap.get?_push_at (by simp only[a]) rfl))
  ·exact Ae _ (Heap.get?_push_at (by simp only[a]) rfl)
  ·exact⟨_,Ae _ (Ae _ (Ae _ (Ae _ (Ak _ rfl)))),rfl,rfl⟩
  ·exact⟨_,Ae _ (Ae _ (Ae _ (Heap.get?_push_at (by simp only[a]) rfl))),rfl,rfl⟩
section
variable{X:Cx}{bO:List Expr}{k:Nat}{fe:Pos}
def wq(K:Ad)(ta:TA):TI:=fun σ H R=>ta σ H fun vs H1=>∃a b,vs=[.ref a,.ref b]/\(∃xs,SqT K H1 a xs)/\(∃ys,SqT K H1 b ys)/\R (wn K a b) H1
def IY{a b:Expr}{ta:TA}{p pos:Pos}(J:Gl X "zip")(hm:X.mg "zip"=none)(L:AU "zip"=some (.type "zip"))(M:PA X [a,b] ta)(hs:starEach [a,b] X.env=[(false,eval a X.env),(false,eval b X.env)]:=by rfl)(l:starEach [b] X.env=[(false,eval b X.env)]:=by rfl):PI X (.Tuple bO k fe) (.Call (.Name "zip" p) [a,b] [] pos) (wq X.K ta):=by
 intro aa s σ H R I h;refine Call_ (iM I J hm L (PyProof.Rows.callWith_type1 (aD (M pos aa s σ H _ I h) fun us c ⟨vs,H1,I1,o,f⟩=>?_) (by rw[hs,l]) (by rw[l];rfl)));obtain⟨i,j,e,⟨xs,f⟩,⟨ys,A⟩,q⟩:=f;subst e;obtain⟨u,O,rfl,C,D⟩:=vals2 o;cases C;cases D;obtain⟨E,_,p1,_⟩:=I1.tuple f;obtain⟨G,_,p2,_⟩:=I1.tuple A;refine callType_new F.called_zip ξ (F.typeCall_zip_2 _ _) (F.newCall_zip_2 _ _) (fun obj=>F.args_object_init_3 obj _ _) F.entry_zip_new (IX i j E.toArray G.toArray) ⟨p1,p2,fun h' g r v w x y=>?_⟩;refine⟨⟨_,g,rfl⟩,wpAny_pyIter_zip g ?_⟩;have N:Inv X aa σ H1 {c with heap:=h'}:=I1.kept (t':=c.toks) y;refine⟨c⁻¹+4,[c⁻¹+4,c⁻¹+2,c⁻¹+3,c⁻¹,c⁻¹+1],_,_,H1,rfl,N,IW i j _ _ _ _ _ (by refine⟨?_,?_,?_,?_,?_,?_,?_,?_,?_,?_⟩<;>(intro z;have P:(_:Nat)=_:=z;omega)),⟨g,r,⟨_,_,v⟩,w,x⟩,fun b hb=>?_,q⟩;have d:c⁻¹<=b:=by
  simp only[List.mem_cons,List.not_mem_nil,or_false] at hb;rcases hb with rfl|rfl|rfl|rfl|rfl
  ·exact Nat.le_add_right _ _
  ·exact Nat.le_add_right _ _
  ·exact Nat.le_add_right _ _
  ·exact Ag _
  ·exact Nat.le_add_right _ _
 exact I1.fpOk d (I1.hok.fresh d)
end
def Dv(K:Ad)(a:Addr):It:=
 ⟨fun i H=>∃xs,SqL K H a xs/\i<xs.length,
  fun i H v H'=>∃p x,v=.ref p/\H p=none/\H'=upd H p (.tup [.int i,x])/\∀xs,SqL K H a xs->xs[i]?=some x,
  fun i H=>∃xs,SqL K H a xs/\i=xs.length⟩
def IZ{P:Program}{w:World}{K:Ad}{bO:List Expr}{k:Nat}{pos:Pos}(a e it:Addr)(hd:e≠it):Turn P w K (.Tuple bO k pos) (Dv K a) [e,it] e (fun i h=>(∃d,IsEnum h e it i d)/\h.IsListIter it a i):=by
 refine Du (wr:=[e,it]) (by simp) (fun i h st b hb=>?_) (fun i h h' st G=>?_) (fun b hb=>hb) (fun X M hw N hc i aa s σ H I hf st O=>?_) fun A i s Q E st h=>?_
 ·obtain⟨⟨d,c⟩,⟨o4,l,_,T⟩⟩:=st
  simp at hb;rcases hb with rfl|rfl
  ·exact⟨_,c,fun v z=>by cases z⟩
  ·exact⟨_,l,fun v z=>by rw[T] at z;cases z⟩
 ·obtain⟨⟨d,c⟩,l⟩:=st
  exact⟨⟨d,G e (by simp) _ c⟩,l.at fun o q=>G it (by simp) o q⟩
 ·subst M hw N
  have F:∃xs,SqL X.K H a xs:=by
   rcases O with ⟨xs,q,_⟩|⟨xs,q,_⟩
   ·exact⟨xs,q⟩
   ·exact⟨xs,q⟩
  obtain⟨xs,r⟩:=F;obtain⟨us,J,p1,_⟩:=I.list r;have y:=J.length;have Y:=I.ok.hd hc;obtain⟨c,l⟩:=st;have f:=fun b hb=>IV I (hf b hb) r;have WZ:=WalksT.enumerateD (prog:=X.prog) (w:=X.w) (A:=X.A) (Draws.list (A:=X.A.in1) Y it a (f it (by simp)) us.toArray) e hd (by simp;exact⟨hd,(f e (by simp)).symm⟩) (by simp);refine⟨_,_,_,_,_,WZ,⟨c,l,p1.isList⟩,fun j h st=>⟨st.1,st.2.1⟩,fun g=>?_,fun g=>?_⟩
  ·obtain⟨C,D,hi⟩:=g
   have e1:=I.list_inj D r;subst e1;refine⟨by simpa[<-y] using hi,fun vals hp=>?_⟩;obtain⟨t,x,U,rfl⟩:=hp;have Z:us[i]?=some x:=by simpa using U
   have L:C[i]?=some C[i]:=by simp[hi]
   obtain⟨u,e3,W⟩:=J.get L;rw[Z] at e3;cases e3;refine⟨[.int i,C[i]],.cons ⟨_,rfl⟩ (.cons W .nil),ei,fun p hp=>⟨p,_,rfl,hp,rfl,fun zs S=>?_⟩⟩;rw[I.list_inj S r];exact L
  ·obtain⟨C,D,hi⟩:=g
   have e1:=I.list_inj D r;subst e1
   simpa[<-y] using hi
 ·obtain⟨⟨d,c⟩,_⟩:=st
  exact wpAny_pyIter_enum c h
section
variable{X:Cx}{bO:List Expr}{k:Nat}{fe:Pos}
def I0(K:Ad)(ta:TA):TI:=fun σ H R=>ta σ H fun vs H1=>∃a,vs=[.ref a]/\(∃xs,SqL K H1 a xs)/\R (Dv K a) H1
def I_{a:Expr}{ta:TA}{p pos:Pos}(v:Gl X "enumerate")(hm:X.mg "enumerate"=none)(w:AU "enumerate"=some (.type "enumerate"))(x:PA X [a] ta)(hs:starEach [a] X.env=[(false,eval a X.env)]:=by rfl):PI X (.Tuple bO k fe) (.Call (.Name "enumerate" p) [a] [] pos) (I0 X.K ta):=by
 intro aa s σ H R I h;refine Call_ (iM I v hm w (PyProof.Rows.callWith_type1 (aD (x pos aa s σ H _ I h) fun us c ⟨vs,H1,I1,i,f⟩=>?_) hs rfl));obtain⟨o,e,⟨xs,f⟩,q⟩:=f;subst e;obtain⟨u,rfl,r⟩:=vals1 i;cases r;obtain⟨C,_,p1,_⟩:=I1.list f;refine call_enumerate_list p1.isList fun h' g j A l=>?_;refine wpAny_pyIter_enum g ?_;have y:Inv X aa σ H1 {c with heap:=h'}:=I1.kept (t':=c.toks) l;refine⟨c⁻¹+1,[c⁻¹+1,c⁻¹],_,_,H1,rfl,y,IZ o _ _ (by intro z;have D:(_:Nat)=_:=z;omega),⟨⟨_,g⟩,j⟩,fun b hb=>?_,q⟩;have d:c⁻¹<=b:=by
  simp only[List.mem_cons,List.not_mem_nil,or_false] at hb;rcases hb with rfl|rfl
  ·exact Nat.le_add_right _ _
  ·exact Ag _
 exact I1.fpOk d (I1.hok.fresh d)
def ej:∀{bs:List Bool}{us:List Value},Vals (bs.map V.bl) us->LSm.BoolsAre us bs
 |[],_,.nil=>.nil
 |b::bs,_,.cons r t=>by cases r;exact .cons b (ej t)
def kI(hc:X.calm=true):z0 X (.builtin "all") (fun xs H Q=>∃(l:Addr)(bs:List Bool),xs=[.ref l]/\SqL X.K H l (bs.map V.bl)/\Q (.bl (bs.all id)) H):=by
 intro aa s σ H xs us Q I r h;obtain⟨l,bs,rfl,hq,q⟩:=h;obtain⟨u,rfl,j⟩:=vals1 r;cases j;obtain⟨a,o,p1,_⟩:=I.list hq;have p:=I.ok.hd hc;have c:=p1.isList;have hb:=ej o;have d:l<s⁻¹:=by obtain⟨_,e,_⟩:=c;exact Al e
 refine call_all_walk (wpAny_pyIter_list c ?_);refine⟨s⁻¹,[s⁻¹,l],[s⁻¹],a.toArray.size,_,_,fun i=>(bs[i]?).getD true,rfl,Walks.list (A:=X.A.in1) p _ l (Aq d) a.toArray,
  ⟨⟨_,Ak _ rfl,rfl,rfl⟩,c.push _⟩,fun i v s' w x g f=>?_,fun h' tk hk=>?_⟩
 ·obtain⟨b,e,rfl⟩:=hb.get i v (by simpa using g)
  simp only[e,Option.getD_some] at f;exact wpAny_truthy_bool f
 ·have e:((Bc a.toArray.size).all fun i=>(bs[i]?).getD true)=bs.all id:=by
   rw[Ai,hb.length];exact LSm.range_all bs
  rw[e];exact⟨.bl _,H,I.kept (LSm.kept_iter hk),rfl,q⟩
end
section
variable{K:Ad}{a:Addr}{xs:List V}{g:TG}{tc:TT}{te:TE}{σ:St}{H1:Hp}{Q:VK}{D:Addr}
def ww(n:Nat)(a:Nat->St->List V->Hp->Prop)(i m:Nat)(σ:St)(H:Hp):Prop:=m=n-i/\i<=n/\∃ys,ys.length<=i/\a i σ ys H
def eO(n:Nat)(d:Nat->St->List V->Hp->Prop)(D:Addr)(i:Nat)(c:St):VK:=fun y b=>∃ys a,b D=some (.lst ys)/\ys.length<sizeLine/\a<n-i/\ww n d (i+1) a c (upd b D (.lst (ys++[y])))
def df(n:Nat)(c:Nat->St->List V->Hp->Prop)(i:Nat)(b:St)(d:Hp):Prop:=∃a,a<n-i/\ww n c (i+1) a b d
def bu{n:Nat}{c:Nat->St->List V->Hp->Prop}{i:Nat}{b:St}{ys:List V}{y:V}{a:Hp}(d:n<=sizeLine)(hi:i<n)(f:ys.length<=i)(e:a D=some (.lst ys))(p:c (i+1) b (ys++[y]) (upd a D (.lst (ys++[y])))):eO n c D i b y a:=
 ⟨ys,n-(i+1),e,ω,ω,rfl,hi,ys++[y],by simp;omega,p⟩
def eu{n:Nat}{b:Nat->St->List V->Hp->Prop}{i:Nat}{a:St}{ys:List V}{c:Hp}(hi:i<n)(d:ys.length<=i)(p:b (i+1) a ys c):df n b i a c:=
 ⟨n-(i+1),ω,rfl,hi,ys,ω,p⟩
def jG{J:It}(n:Nat)(a:Nat->St->List V->Hp->Prop)(l:a 0 σ [] (upd H1 D (.lst [])))(o:∀σ ys H,a n σ ys H->J.stop n H)(q:∀i σ ys H,i<n->a i σ ys H->J.go i H)(hs:∀i σ ys H x H',i<n->ys.length<=i->a i σ ys H->J.yld i H x H'->g x σ H' fun d r=>tc d r fun b h=>if b=true then te d h (eO n a D i d) else df n a i d h)(hd:∀σ ys H,a n σ ys H->Q (.ref D) H):cX J g tc te σ H1 D Q:=by
 refine⟨ww n a,⟨n,by simp,AK _,[],Ag _,l⟩,?_⟩;rintro i m f H2 ⟨rfl,hi,ys,j,p⟩
 by_cases c:i<n
 ·exact .inr ⟨q i f ys H2 c p,fun x s y=>hs i f ys H2 x s c j p y⟩
 ·have e:i=n:=ω
  subst e;exact .inl ⟨o f ys H2 p,hd f ys H2 p⟩
def zM(c:Nat->St->List V->Hp->Prop)(j:c 0 σ [] (upd H1 D (.lst [])))(f:∀i σ ys H,c i σ ys H->SqL K H a xs)(hs:∀i σ ys H x,xs[i]?=some x->i<xs.length->ys.length<=i->c i σ ys H->g x σ H fun d l=>tc d l fun b h=>if b=true then te d h (eO xs.length c D i d) else df xs.length c i d h)(hd:∀σ ys H,c xs.length σ ys H->Q (.ref D) H):cX (dH K a) g tc te σ H1 D Q:=by
 refine jG xs.length c j (fun σ ys H p=>⟨xs,f _ _ _ _ p,Ag _⟩) (fun i σ ys H hi p=>⟨xs,xs[i],f _ _ _ _ p,by simp[hi]⟩) (fun i σ ys H x H' hi hy p y=>?_) hd;obtain⟨e,y⟩:=y;subst e;exact hs i σ ys _ x (y xs (f _ _ _ _ p)) hi hy p
def Dw(c:Nat->St->List V->Hp->Prop)(j:c 0 σ [] (upd H1 D (.lst [])))(f:∀i σ ys H,c i σ ys H->SqT K H a xs)(hs:∀i σ ys H x,xs[i]?=some x->i<xs.length->ys.length<=i->c i σ ys H->g x σ H fun d l=>tc d l fun b h=>if b=true then te d h (eO xs.length c D i d) else df xs.length c i d h)(hd:∀σ ys H,c xs.length σ ys H->Q (.ref D) H):cX (iO K a) g tc te σ H1 D Q:=by
 refine jG xs.length c j (fun σ ys H p=>⟨xs,f _ _ _ _ p,Ag _⟩) (fun i σ ys H hi p=>⟨xs,xs[i],f _ _ _ _ p,by simp[hi]⟩) (fun i σ ys H x H' hi hy p y=>?_) hd;obtain⟨e,y⟩:=y;subst e;exact hs i σ ys _ x (y xs (f _ _ _ _ p)) hi hy p
def Ja{e f:Addr}{ys:List V}(a:Nat->St->List V->Hp->Prop)(r:a 0 σ [] (upd H1 D (.lst [])))(c:∀i σ zs H,a i σ zs H->SqT K H e xs/\SqT K H f ys)(hs:∀i σ zs H p x y,xs[i]?=some x->ys[i]?=some y->i<min xs.length ys.length->zs.length<=i->a i σ zs H->H p=none->g (.ref p) σ (upd H p (.tup [x,y])) fun d s=>tc d s fun b h=>if b=true then te d h (eO (min xs.length ys.length) a D i d) else df (min xs.length ys.length) a i d h)(hd:∀σ zs H,a (min xs.length ys.length) σ zs H->Q (.ref D) H):cX (wn K e f) g tc te σ H1 D Q:=by
 refine jG (min xs.length ys.length) a r (fun σ zs H p=>⟨xs,ys,(c _ _ _ _ p).1,(c _ _ _ _ p).2,rfl⟩) (fun i σ zs H hi p=>⟨xs,ys,(c _ _ _ _ p).1,(c _ _ _ _ p).2,hi⟩) (fun i σ zs H v H' hi hy p y=>?_) hd;obtain⟨j,x,l,rfl,hp,rfl,o,q⟩:=y;exact hs i σ zs H j x l (o xs (c _ _ _ _ p).1) (q ys (c _ _ _ _ p).2) hi hy p hp
end
end L2
end
section
namespace Dk
open PySem PySem.Spec PyProof.Rows
def IsD(h:Heap)(d:Addr)(es:Array DictEntry)(ep:Nat):Prop:=∃o,h.get? d=some o/\o.ExactDict/\o.data=.dict es ep
def IsD.at{h h':Heap}{d:Addr}{es:Array DictEntry}{ep:Nat}(x:IsD h d es ep)(k:∀o,h.get? d=some o->h'.get? d=some o):IsD h' d es ep:=let ⟨o,ho,r⟩:=x;⟨o,k o ho,r⟩
def IsD.lt{h:Heap}{d:Addr}{es:Array DictEntry}{ep:Nat}(x:IsD h d es ep):d<h.objs.size:=let ⟨_,ho,_⟩:=x;Al ho
section
variable{prog:Program}{w:World}{A:Around}{E:Ω}{s:Shared}{it d:Addr}{i ep:Nat}{es:Array DictEntry}
def IsD.typeIs(x:IsD s.heap d es ep):s.TypeIs (.ref d) "dict":=let ⟨o,ho,r⟩:=x;⟨o,ho,r.1.1⟩
def iter{Q:Ω}(hd:(d==A2)=false)(hm:IsD s.heap d es ep)(e:Q (.ref s⁻¹) {s with heap:=s.heap.push {cls:=.type "dict_keyiterator",data:=.fields #[.ref d,.int 0 0,.int es.size 0,.int ep 0]}}):wpAny (model prog w) A (pyIter (.ref d)) Q E s:=by
 have a:=hm.typeIs;obtain⟨o,b,hc,c⟩:=id hm;refine wpAny_pyIter_slot a PySem.F.slot_dict_iter (AF PySem.F.slot_dict_iter a PySem.F.entry_dict_iter ?_ (PySem.F.args_dict_iter_1 _));unfold Builtin.«dict.__iter__»;refine Aa ?_;unfold Builtin.Dict.dictSlotNone;refine Aa (wpAny_notOrdered_dict a ?_);show wpAny _ _ (pure (Value.ref d)) _ _ s;refine Ac ?_;show wpAny _ _ (Builtin.Dict.showsAll d >>= _) _ _ s;unfold Builtin.Dict.showsAll;rw[if_neg (by rw[hd];exact Ao)];refine Aa (Ac ?_);refine Aa (AO b c ?_);refine Aa (wpAny_dictEpoch b c ?_);refine Aa (AE (Ac ⟨_,rfl,"dict_keyiterator",_,⟨_,Ak _ rfl,rfl⟩,PySem.F.slot_dict_keyiterator_next.lookup,?_⟩))
 simpa[rawInt] using e
def item{Q:Option Value->Shared->Prop}(a:s.heap.IsKeyIter it d i es.size ep)(hm:IsD s.heap d es ep)(hx:i<es.size)(h:∀h',h'.IsKeyIter it d (i+1) es.size ep->AN it s.heap h'->Q (some es[i].key) {s with heap:=h'}):wpAny (model prog w) A (pyNext (.ref it)) Q E s:=by
 obtain⟨o,b,hc,hd⟩:=id a;obtain⟨j,c,l,e⟩:=id hm;unfold pyNext;refine Aa (wpAny_attempt (AT (name:=Str.ofString "__next__") a.typeIs PySem.F.slot_dict_keyiterator_next
  (AF PySem.F.slot_dict_keyiterator_next a.typeIs PySem.F.entry_dict_keyiterator_next ?_ (PySem.F.args_dict_keyiterator_next_1 _))))
 refine Aa (Ac ?_);refine Aa ?_;refine Aa ?_
 first|refine Aa (wpAny_typeNameOfWhole_keyiter a.typeIs (Ac ?_))|refine Aa (wpAny_typeNameOf_keyiter a.typeIs (Ac ?_))
 refine Aa (wpAny_fieldsOf b hd ?_);have g:Builtin.Dict_items.ownsTuple "dict_keyiterator"=false:=ξ
 simp only[g,Ah,if_false];show wpAny _ _ (if(Value.ref d==Value.none)=true then _ else _) _ _ s;rw[if_neg (show ¬((Value.ref d==Value.none)=true) from Ao)];refine Aa (Ac ?_);refine Aa (AO c e ?_);rw[if_neg (by simp)];refine Aa (Ac ?_);refine Aa (wpAny_dictEpoch c e ?_);rw[if_neg (by simp)];refine Ac ?_;simp only[show ¬((i:Int)<0) from ω,if_false,Bb,Array.getElem?_eq_getElem hx];refine Aa ?_
 first|refine Aa (wpAny_typeNameOfWhole_keyiter a.typeIs (Ac ?_))|refine Aa (wpAny_typeNameOf_keyiter a.typeIs (Ac ?_))
 refine Aa (wpAny_isOneOf_keyiter a.typeIs ?_);show wpAny _ _ (setField (.ref it) 1 (rawInt ((i:Int)+1)) >>= _) _ _ s;refine Aa (Bf b hd (by simp) ?_);have f:(s.heap.update it (Obj.mapFields (·.setIfInBounds 1 (rawInt ((i:Int)+1))))).IsKeyIter it d (i+1) es.size ep:=
  ⟨_,Heap.get?_update_self _ b (Obj.isFreed_of_fields (AX hd _)),(Obj.cls_mapFields ..).trans hc,by rw[AX hd];simp[rawInt]⟩
 refine Aa (AA ?_);refine Aa (wpAny_isOneOf_keyiter (s:={s with heap:=s.heap.update it (Obj.mapFields (·.setIfInBounds 1 (rawInt ((i:Int)+1))))}) f.typeIs ?_);show wpAny _ _ (pure es[i].key) _ _ _;exact Ac (Ac ⟨_,rfl,Ac (h _ f (AR ..))⟩)
def done{Q:Option Value->Shared->Prop}(i:A.handled=none)(c:s.heap.IsKeyIter it d es.size es.size ep)(hm:IsD s.heap d es ep)(j:∀h',Heap.ExtBut it s.heap h'->Q none {s with heap:=h'}):wpAny (model prog w) A (pyNext (.ref it)) Q E s:=by
 obtain⟨o,e,hc,hd⟩:=id c;obtain⟨l,f,p,g⟩:=id hm;unfold pyNext;refine Aa (wpAny_attempt (AT (name:=Str.ofString "__next__") c.typeIs PySem.F.slot_dict_keyiterator_next
  (AF PySem.F.slot_dict_keyiterator_next c.typeIs PySem.F.entry_dict_keyiterator_next ?_ (PySem.F.args_dict_keyiterator_next_1 _))))
 refine Aa (Ac ?_);refine Aa ?_;refine Aa ?_
 first|refine Aa (wpAny_typeNameOfWhole_keyiter c.typeIs (Ac ?_))|refine Aa (wpAny_typeNameOf_keyiter c.typeIs (Ac ?_))
 refine Aa (wpAny_fieldsOf e hd ?_);have h:Builtin.Dict_items.ownsTuple "dict_keyiterator"=false:=ξ
 simp only[h,Ah,if_false];show wpAny _ _ (if(Value.ref d==Value.none)=true then _ else _) _ _ s;rw[if_neg (show ¬((Value.ref d==Value.none)=true) from Ao)];refine Aa (Ac ?_);refine Aa (AO f g ?_);rw[if_neg (by simp)];refine Aa (Ac ?_);refine Aa (wpAny_dictEpoch f g ?_);rw[if_neg (by simp)];refine Ac ?_;simp only[show ¬((es.size:Int)<0) from ω,if_false,Bb,Array.getElem?_eq_none (Ag es.size)];refine Aa ?_
 first|refine Aa (wpAny_typeNameOfWhole_keyiter c.typeIs (Ac ?_))|refine Aa (wpAny_typeNameOf_keyiter c.typeIs (Ac ?_))
 show wpAny _ _ (setField (.ref it) 0 .none >>= _) _ _ s;refine Aa (Bf e hd (by simp) ?_);show wpAny _ _ (newExc (.type "StopIteration") [] >>= _) _ _ _;refine Aa ?_;simp only[newExc,newTuple];refine Aa (AE ?_ (by size_fits));refine Aa (m:=firstArgMember _ _) (wpAny_of_eq (a:=Value.none) (by first|rfl|(simp only[firstArgMember];rfl)) ?_);refine AE ?_ (by size_fits);simp only[raiseNew];refine Aa (wpAny_handled ?_);rw[show A.in1.handled=none from i];refine Aa (Ac (wpAny_throw ?_));refine Aa (Bg (T:="StopIteration") (b:=true) ⟨_,Ak _ rfl,rfl⟩ isSubtype_stop ?_);exact Ac (j _ (((AR ..).extBut.push _).push _))
def walks(l:A.handled=none)(I d:Addr)(c:d≠I)(es:Array DictEntry)(ep:Nat):Walks prog w A I [I,d] [I] es.size (fun i v=>∃e,es[i]?=some e/\v=e.key) (fun i h=>h.IsKeyIter I d i es.size ep/\IsD h d es ep) where
 sub:=fun b hb=>by simp at hb ⊢;exact .inl hb
 frame:=fun i h h' st k=>⟨let ⟨o,ho,r⟩:=st.1;⟨o,k I (by simp) o ho,r⟩,st.2.at fun o e=>k d (by simp) o e⟩
 item:=fun i s Q E hi st a=>item st.1 st.2 hi fun h' g f=>a _ h' s.toks ⟨es[i],by simp[hi],rfl⟩ ⟨g,st.2.at fun o e=>(f.2 d c).trans e⟩ fun b o hb e=>(f.2 b (fun z=>hb (by simp[z]))).trans e
 done:=fun s Q E st a=>done l st.1 st.2 fun h' j=>a h' s.toks fun b o hb e=>j b o (fun z=>hb (by simp[z])) e
 self:=fun i s Q E st a=>wpAny_pyIter_keyiter st.1 a
def src(lo:(d==A2)=false):PySem.W.KdlSrc prog w "dict" d d es.size (fun i v=>∃e,es[i]?=some e/\v=e.key) (fun h=>IsD h d es ep) where
 type:=fun _ hm=>hm.typeIs
 there:=fun _ hm=>⟨hm.lt,hm.lt⟩
 keep:=fun _ _ hm hk=>hm.at fun o e=>hk d (.inl rfl) o e
 notList:=ξ
 notTuple:=ξ
 hint:=fun _ _ _ _ hm hq=>PySem.W.kdl_hint_dict hm.typeIs hq
 iter:=fun _ s a hm=>⟨_,_,(fun _ _ hq=>iter lo hm hq),walks a _ d (Aq hm.lt) es ep,⟨⟨_,Ak _ rfl,rfl,rfl⟩,hm.at fun o e=>Ae _ e⟩⟩
end
end Dk
namespace L2
open PySem PySem.Spec PyProof.Rows
section
variable{X:Cx}
def wC{P:Program}{w:World}{k:Key}{u:Value}(h:(zw P w).is k u=true):RelV (kV k) u:=by
 rcases aA h with ⟨i,t,rfl,rfl⟩|⟨x,t,rfl,rfl⟩
 ·exact⟨t,rfl⟩
 ·exact⟨t,rfl⟩
def Dx(hc:X.calm=true):z0 X (.type "list") (fun xs H Q=>∃a kvs,xs=[.ref a]/\H a=some (.dT kvs)/\
  ∀(bs:List Addr),Paired (fun(p:List Key×V) b=>H b=some (.tup (p.1.map kV))) kvs bs->∀l,H l=none->Q (.ref l) (upd H l (.lst (bs.map V.ref)))):=by
 intro aa s σ H xs us Q I r h;obtain⟨a,kvs,rfl,hq,q⟩:=h;obtain⟨u,rfl,v⟩:=vals1 r;cases v;obtain⟨z,y,ys,c,o,es,ep,h1,h2,x,d,F⟩:=(show zC X.prog X.w H s.heap a (.dT kvs) from I.hok a _ hq);have f:es.size=kvs.length:=by
  have:=congrArg List.length d;rw[Ab,<-A4 c] at this
  simpa using this
 refine PySem.W.kdl_call (Dk.src (ep:=ep) (es:=es) y) (I.ok.hd hc) ⟨o,h1,h2,x⟩ (by rw[f];exact z) fun h' tk acc g j e it=>?_;obtain⟨n1,n2⟩:=it;have C:Paired (fun(p:List Key×V) b=>H b=some (.tup (p.1.map kV))) kvs (ys.map (·.2.1)):=by
  have:∀{l:List (List Key×V)}{m:List (List Key×Addr×Value)},KT H l m->Paired (fun(p:List Key×V) b=>H b=some (.tup (p.1.map kV))) l (m.map (·.2.1)):=by
   intro l m q
   induction q with
   |nil=>exact .nil
   |cons hq t ih=>exact .cons hq.2.1 ih
  exact this c
 have D:acc.toList=(ys.map (·.2.1)).map Value.ref:=by
  apply List.ext_getElem?;intro i;have hy:ys.length=acc.size:=by rw[n1,f];exact(A4 c).symm
  by_cases hi:i<acc.size
  ·obtain⟨A,g1,g2⟩:=n2 i acc[i] (by simp[hi])
   have g3:es.toList[i]?=some A:=by simpa using g1
   rw[d,Aj] at g3;have g4:ys[i]?=some ys[i]:=by simp[hy,hi]
   rw[g4] at g3;simp only[A1,A9] at g3;simp only[Aj,g4,A1,AD,Array.getElem?_eq_getElem hi];rw[g2,<-g3]
   rfl
  ·have g1:acc.toList.length<=i:=by simp;omega
   have g2:((ys.map (·.2.1)).map Value.ref).length<=i:=by simp[hy];omega
   rw[List.getElem?_eq_none g1,List.getElem?_eq_none g2]
 have E:Vals ((ys.map (·.2.1)).map V.ref) acc.toList:=by
  rw[D];generalize ys.map (·.2.1)=bs
  induction bs with
  |nil=>exact .nil
  |cons b bs ih=>exact .cons rfl ih
 refine⟨.ref s⁻¹,_,I.laid j (Ag _) (show zC X.prog X.w _ h' _ (.lst ((ys.map (·.2.1)).map V.ref)) from⟨?_,acc.toList,g,E,by simpa using e⟩),rfl,q _ C _ (I.hok.fresh (Ag _))⟩;simp only[Ab];rw[<-A4 c];exact z
def kK(hc:X.calm=true):z0 X (.type "list") (fun xs H Q=>∃a kvs,xs=[.ref a]/\H a=some (.dK kvs)/\∀l,H l=none->Q (.ref l) (upd H l (.lst (kvs.map fun kv=>kV kv.1)))):=by
 intro aa s σ H xs us Q I r h;obtain⟨a,kvs,rfl,hq,q⟩:=h;obtain⟨u,rfl,f⟩:=vals1 r;cases f;obtain⟨z,y,vs,b,dd⟩:=p_ I.hok hq;obtain⟨ep,dd⟩:=dd.dictAt;have g:=b.length;refine PySem.W.kdl_call (PySem.W.kdl_dict (knd:=zw X.prog X.w) (kvs:=vs) (ep:=ep) y) (I.ok.hd hc) dd (by rw[<-g];exact z) fun h' tk acc c d e it=>?_;obtain⟨n1,n2⟩:=it;have j:Vals (kvs.map fun kv=>kV kv.1) acc.toList:=by
  have key:∀{l:List (Key×V)}{m:List (Key×Value)}{as:List Value},KV l m->as.length=m.length->(∀(i:Nat) v,as[i]?=some v->∃k x,m[i]?=some (k,x)/\(zw X.prog X.w).is k v=true)->Vals (l.map fun kv=>kV kv.1) as:=by
   intro l m as q
   induction q generalizing as with
   |nil=>intro h1 _;cases as with
    |nil=>exact .nil
    |cons _ _=>simp at h1
   |@cons p q' ps qs hq t ih=>
    intro h1 h2;cases as with
    |nil=>simp at h1
    |cons v as=>
     obtain⟨k,x,g1,g2⟩:=h2 0 v rfl;simp only[List.getElem?_cons_zero,A9] at g1;refine .cons ?_ (ih (by simpa using h1) fun i v e=>by simpa using h2 (i+1) v (by simpa using e));have:p.1=k:=by rw[hq.1,g1]
     show RelV (kV p.1) v;rw[this];exact wC g2
  exact key b (by simpa using n1) fun i v e=>n2 i v (by simpa using e)
 refine⟨.ref s⁻¹,_,I.laid d (Ag _) (show zC X.prog X.w _ h' _ (.lst (kvs.map fun kv=>kV kv.1)) from⟨?_,acc.toList,c,j,by simpa using e⟩),rfl,q _ (I.hok.fresh (Ag _))⟩
 simpa using z
end
end L2
end
section
namespace L2
open PySem PySem.Spec PyProof.Rows
def Tp(H:Hp)(a:Addr)(ps:List Int):Prop:=H a=some (.tup (ps.map V.int))
abbrev Tps(H:Hp)(as:List Addr)(pss:Ξ):Prop:=Paired (fun a ps=>Tp H a ps) as pss
def Same.tp{H H':Hp}{a:Addr}{ps:List Int}(e:Same H H')(h:Tp H a ps):Tp H' a ps:=e _ _ h
def Same.tps{H H':Hp}{as:List Addr}{pss:Ξ}(e:Same H H')(h:Tps H as pss):Tps H' as pss:=Paired.mapP h fun _ _ q=>e.tp q
def Same.new{H:Hp}{a:Addr}{o:HO}(h:H a=none):Same H (upd H a o):=fun b u e=>by rw[zj (zh e h)];exact e
def Same.then{H H1:Hp}{a:Addr}{o:HO}(e:Same H H1)(h:H a=none):Same H (upd H1 a o):=fun b u q=>by rw[zj (zh q h)];exact e b u q
def Tps.length{H:Hp}{as:List Addr}{pss:Ξ}(h:Tps H as pss):as.length=pss.length:=A4 h
def Tps.get{H:Hp}:∀{as:List Addr}{pss:Ξ}{i:Nat}{a:Addr},Tps H as pss->as[i]?=some a->∃ps,pss[i]?=some ps/\Tp H a ps
 |_,_,_,_,.nil,e=>by simp at e
 |_,_,0,_,.cons r _,e=>by simp at e;subst e;exact⟨_,rfl,r⟩
 |_,_,i+1,a,.cons _ t,e=>by
  obtain⟨u,h1,h2⟩:=Tps.get (i:=i) (a:=a) t (by simpa using e);exact⟨u,by simpa using h1,h2⟩
def Tps.snoc{H:Hp}{as:List Addr}{pss:Ξ}{a:Addr}{ps:List Int}(h:Tps H as pss)(q:Tp H a ps):Tps H (as++[a]) (pss++[ps]):=by
 induction h with
 |nil=>exact .cons q .nil
 |cons r t ih=>exact .cons r ih
def Tps.append{H:Hp}{as bs:List Addr}{pss ae:Ξ}(h:Tps H as pss)(q:Tps H bs ae):Tps H (as++bs) (pss++ae):=by
 induction h with
 |nil=>exact q
 |cons r t ih=>exact .cons r ih
def Tps.take{H:Hp}:∀{as:List Addr}{pss:Ξ}(n:Nat),Tps H as pss->Tps H (as.take n) (pss.take n)
 |_,_,0,_=>.nil
 |_,_,_+1,.nil=>.nil
 |_,_,n+1,.cons r t=>.cons r (Tps.take n t)
def Tps.drop{H:Hp}:∀{as:List Addr}{pss:Ξ}(n:Nat),Tps H as pss->Tps H (as.drop n) (pss.drop n)
 |_,_,0,r=>r
 |_,_,_+1,.nil=>.nil
 |_,_,n+1,.cons _ t=>Tps.drop n t
def aM:∀{as:List Addr}{us:List Value},Vals (as.map V.ref) us->us=as.map Value.ref
 |[],_,.nil=>rfl
 |a::as,_,.cons r t=>by cases r;rw[aM t];rfl
def wI{b:Type}(f:b->Addr):∀l:List b,Vals (l.map fun q=>V.ref (f q)) (l.map fun q=>Value.ref (f q))
 |[]=>.nil
 |a::l=>.cons rfl (wI f l)
section
variable{X:Cx}
def Dy{prog:Program}{w:World}{h:Heap}{c:Addr}{cs:List Value}{a:List Int}(hc:IsTup h c cs.toArray)(hi:IntsAre cs a):AH (zw prog w) h (a.map Sum.inl) c:=by
 obtain⟨o,e,b,k,d⟩:=hc;refine⟨o,cs.toArray,k,e,b,d,?_⟩;have:∀{cs:List Value}{a:List Int},IntsAre cs a->ItemsAre (zw prog w) (a.map Sum.inl) cs:=by
  intro cs a hi
  induction hi with
  |nil=>exact .nil
  |cons n t h ih=>exact .cons (sQ prog w n t) ih
 simpa using this hi
def gX{ps a:List Int}:(ps.map Sum.inl:List Key)=a.map Sum.inl↔ps=a:=
 ⟨fun z=>(List.map_inj_right (f:=(Sum.inl:Int->Key)) (fun x y h=>Sum.inl.inj h)).mp z,fun z=>by rw[z]⟩
def Jb{aa:Ψ}{σ:St}{H:Hp}{s:Shared}{A:Around}{a b:Addr}{ps c:List Int}(I:Inv X aa σ H s)(f:Tp H a ps)(hb:Tp H b c)(hu:A.units<cLine):SeqAt.EqAt A s (.ref a) (.ref b) (decide (ps=c)):=by
 intro prog w E Q h;obtain⟨g,d,p1,_⟩:=I.tuple (SqT.of f);obtain⟨i,e,p2,_⟩:=I.tuple (SqT.of hb);refine wpAny_eqBool_tuple (knd:=zw prog w) hu (Dy p1 (intsAre_of d)) (Dy p2 (intsAre_of e)) ?_;rw[show decide ((ps.map Sum.inl:List Key)=c.map Sum.inl)=decide (ps=c) from by simp only[gX]];exact h
def Dz:R2:=fun x y H Q=>∃a b xs ys,x=.ref a/\y=.ref b/\H a=some (.tup xs)/\H b=some (.tup ys)/\xs.length+ys.length<=sizeLine/\∀p H',Same H H'->H' p=some (.tup (xs++ys))->Q (.ref p) H'
def DA:ci X (binaryOp .Add) Dz:=by
 intro aa s σ H x y v u Q I p r h;obtain⟨a,b,xs,ys,rfl,rfl,e,hb,f,q⟩:=h;cases p;cases r;obtain⟨E,c,p1,_⟩:=I.tuple (SqT.of e);obtain⟨w,d,p2,_⟩:=I.tuple (SqT.of hb)
 by_cases hx:xs=[]
 ·subst hx
  have e1:=c.nil_iff.mpr rfl;subst e1;obtain⟨⟨cls,dd,data,A⟩,g,hc,n,hd⟩:=id p1;obtain⟨⟨G,C,data2,D⟩,i,j,n2,l⟩:=id p2;simp only at hc hd j l;subst hc hd j l;exact concat_meets ⟨_,g,rfl⟩ ⟨_,i,rfl⟩ noFill_tuple_add seq_tuple_add PySem.F.slot_tuple_add PySem.F.entry_tuple_add (PySem.F.args_tuple_add_2 _ _)
   (tuple_addW0 a b (List.toArray []) w.toArray n n2 dd C A D (by simp)) ⟨g,i,.ref b,H,I,rfl,q b H (Same.refl H) (by simpa using hb)⟩
 ·refine HT.Hz p1 p2 (fun z=>hx (c.nil_iff.mp z)) (fun z=>⟨.ref a,H,I,rfl,q a H (Same.refl H) ?_⟩) (fun z=>?_) (by rw[<-c.length,<-d.length];exact f)
  ·rw[d.nil_iff.mp z,List.append_nil];exact e
  ·have hf:=I.hok.fresh (Ag s⁻¹)
   refine⟨.ref s⁻¹,_,I.laid (t':=s.toks) (o:=.tup (xs++ys)) (fun b ob q=>Ae _ q) (Ag _) ?_,rfl,q _ _ (Same.new hf) ak⟩;exact⟨by rw[Aw];exact f,_,c.append d,IsTup.new _ _⟩
def im(neg:Bool)(K:Ad):R2:=fun x y H Q=>∃a l ps as pss,x=.ref a/\y=.ref l/\Tp H a ps/\SqL K H l (as.map V.ref)/\Tps H as pss/\Q (.bl (if neg then !decide (ps∈pss) else decide (ps∈pss))) H
def ip(H:Hp)(ps:List Int)(u:Value):Bool:=match u with
 |.ref b=>(match H b with|some (.tup xs)=>decide (xs=ps.map V.int)|_=>false)
 |_=>false
def Jc{ps a:List Int}:(ps.map V.int:List V)=a.map V.int↔ps=a:=
 ⟨fun z=>(List.map_inj_right (f:=V.int) (fun x y h=>V.int.inj h)).mp z,fun z=>by rw[z]⟩
def DB{H:Hp}{b:Addr}{ps a:List Int}(h:Tp H b a):ip H ps (.ref b)=decide (a=ps):=by
 show(match H b with|some (.tup xs)=>decide (xs=ps.map V.int)|_=>false)=_;rw[show H b=some (.tup (a.map V.int)) from h];simp only[Jc]
def DC{H:Hp}{ps:List Int}{as:List Addr}{pss:Ξ}(h:Tps H as pss):(as.map Value.ref).any (ip H ps)=decide (ps∈pss):=by
 induction h with
 |nil=>simp
 |@cons a qs as pss r t ih=>
  rw[Ar,List.any_cons,ih,DB r]
  by_cases e:qs=ps
  ·subst e;simp
  ·have:¬ps=qs:=fun z=>e z.symm
   simp[e,this]
def DE{aa:Ψ}{σ:St}{H:Hp}{s:Shared}{A:Around}{a:Addr}{ps:List Int}(I:Inv X aa σ H s)(c:Tp H a ps)(hu:A.units<cLine):∀{as:List Addr}{pss:Ξ},Tps H as pss->∀u∈as.map Value.ref,SeqAt.EqAt A s u (.ref a) (ip H ps u):=by
 intro as pss h
 induction h with
 |nil=>intro u hu;simp at hu
 |@cons b qs as pss r t ih=>
  intro u hm;rw[Ar] at hm;rcases List.mem_cons.mp hm with rfl|hm
  ·rw[DB r];exact Jb I r c hu
  ·exact ih u hm
def DF(hu:X.A.in1.units<cLine):ci X (compareOp .In) (im false X.K):=by
 intro aa s σ H x y v u Q I b c h;obtain⟨a,l,ps,as,pss,rfl,rfl,d,e,hp,q⟩:=h;cases b;cases c;obtain⟨g,r,f,i⟩:=I.list e;obtain rfl:=aM r;refine SeqAt.in_listAt (ip H ps) f.isList (fun w hw=>DE I d hu hp w (by simpa using hw)) ⟨.bl _,H,I,rfl,?_⟩;rw[show(as.map Value.ref).toArray.any (ip H ps)=(as.map Value.ref).any (ip H ps) by simp,DC hp];exact q
def Jd(hu:X.A.in1.units<cLine):ci X (compareOp .NotIn) (im true X.K):=by
 intro aa s σ H x y v u Q I b c h;obtain⟨a,l,ps,as,pss,rfl,rfl,d,e,hp,q⟩:=h;cases b;cases c;obtain⟨g,r,f,i⟩:=I.list e;obtain rfl:=aM r;refine SeqAt.notIn_listAt (ip H ps) f.isList (fun w hw=>DE I d hu hp w (by simpa using hw)) ⟨.bl _,H,I,rfl,?_⟩;rw[show(as.map Value.ref).toArray.any (ip H ps)=(as.map Value.ref).any (ip H ps) by simp,DC hp];exact q
def wJ{aa:Ψ}{σ:St}{H:Hp}{s:Shared}{a:Addr}{ps:List Int}(I:Inv X aa σ H s)(c:Tp H a ps):Reads s.heap (.ref a) (.tuple (ps.map Be)) []:=by
 obtain⟨d,r,p,_⟩:=I.tuple (SqT.of c);obtain⟨o,b,hc,n,hd⟩:=id p;exact .tuple b hc hd ((PySem.W.ke_carried (intsAre_of r)).reads s.heap)
def Je{aa:Ψ}{σ:St}{H:Hp}{s:Shared}(I:Inv X aa σ H s):∀{as:List Addr}{pss:Ξ},Tps H as pss->ReadsAll s.heap (as.map Value.ref) (pss.map fun ps=>PyData.tuple (ps.map Be)) []:=by
 intro as pss h
 induction h with
 |nil=>exact .nil
 |cons r t ih=>exact .cons (as:=[]) (bs:=[]) (wJ I r) ih
def qw{aa:Ψ}{σ:St}{H:Hp}{s:Shared}{l:Addr}{as:List Addr}{pss:Ξ}(I:Inv X aa σ H s)(b:SqL X.K H l (as.map V.ref))(h:Tps H as pss):Reads s.heap (.ref l) (.list (pss.map fun ps=>PyData.tuple (ps.map Be))) [l]:=by
 obtain⟨c,r,p,_⟩:=I.list b;obtain rfl:=aM r;obtain⟨o,a,hc,n,hd⟩:=p.isList;exact .list a hc hd (by simpa using Je I h)
def DG(ps:List Int):PyData.canLay0 (.tuple (ps.map Be))=true:=by simp[PyData.canLay0,PySem.W.ke_canLayAll0]
def DH(ps:List Int):PyData.depth (.tuple (ps.map Be))=1:=by simp[PyData.depth,PySem.W.ke_depthAll]
def DI(ps:List Int):SeqAt.shaped (.tuple (ps.map Be))=true:=by
 simp[SeqAt.shaped,DG,DH]
def DJ:∀pss:Ξ,PyData.canLayAll0 (pss.map fun ps=>PyData.tuple (ps.map Be))=true
 |[]=>rfl
 |ps::r=>by rw[Ar,PyData.canLayAll0,DG,DJ r];rfl
def DK:∀pss:Ξ,PyData.depthAll (pss.map fun ps=>PyData.tuple (ps.map Be))<=1
 |[]=>AK _
 |ps::r=>by rw[Ar,PyData.depthAll,DH];exact Nat.max_le.mpr ⟨Ag _,DK r⟩
def xg(pss:Ξ):SeqAt.shaped (.list (pss.map fun ps=>PyData.tuple (ps.map Be)))=true:=by
 have:=DK pss;have e:PyData.depth (.list (pss.map fun ps=>PyData.tuple (ps.map Be)))<=64:=by rw[PyData.depth];omega
 unfold SeqAt.shaped;rw[decide_eq_true e,PyData.canLay0,DJ]
 rfl
def xi:∀pss ae:Ξ,sameAll (pss.map fun ps=>PyData.tuple (ps.map Be)) (ae.map fun ps=>PyData.tuple (ps.map Be))=decide (pss=ae)
 |[],[]=>by simp[sameAll]
 |[],_::_=>by simp[sameAll]
 |_::_,[]=>by simp[sameAll]
 |a::r,b::t=>by
  simp only[Ar,sameAll,same,PySem.W.ke_sameAll,xi r t]
  by_cases h:a=b<;>by_cases h':r=t<;>simp[h,h']
def DL(ps:List Int):(Shape.tuples .int).has (.tuple (ps.map Be))=true:=by simp[Shape.has]
def qx(pss:Ξ):(Shape.list (.tuples .int)).has (.list (pss.map fun ps=>PyData.tuple (ps.map Be)))=true:=by simp[Shape.has]
def jH(neg:Bool)(K:Ad):R2:=fun x y H Q=>(∃a b ps c,x=.ref a/\y=.ref b/\Tp H a ps/\Tp H b c/\Q (.bl (if neg then !decide (ps=c) else decide (ps=c))) H) \/
 (∃l m as bs pss ae,x=.ref l/\y=.ref m/\SqL K H l (as.map V.ref)/\Tps H as pss/\SqL K H m (bs.map V.ref)/\Tps H bs ae/\Q (.bl (if neg then !decide (pss=ae) else decide (pss=ae))) H)
def Jf(hu:X.A.units+64<cLine):ci X (compareOp .NotEq) (jH true X.K):=by
 intro aa s σ H x y v u Q I d e h;rcases h with ⟨a,b,ps,c,rfl,rfl,f,hb,q⟩|⟨l,m,as,bs,pss,ae,rfl,rfl,g,hp,hm,hq,q⟩
 ·cases d
  cases e;refine ne_dataH_same (wJ I f) (wJ I hb) (DI _) (DI _) hu (SeqAt.noMix_of_shape (.tuples .int) rfl _ _ (DL _) (DL _)) ?_;rw[show same (.tuple (ps.map Be)) (.tuple (c.map Be))=decide (ps=c) from by simp only[same];exact PySem.W.ke_sameAll ps c];exact⟨.bl _,H,I,rfl,q⟩
 ·cases d
  cases e;refine ne_dataH_same (qw I g hp) (qw I hm hq) (xg _) (xg _) hu (SeqAt.noMix_of_shape (.list (.tuples .int)) rfl _ _ (qx _) (qx _)) ?_;rw[show same (.list (pss.map fun ps=>PyData.tuple (ps.map Be))) (.list (ae.map fun ps=>PyData.tuple (ps.map Be)))=decide (pss=ae) from by simp only[same];exact xi pss ae];exact⟨.bl _,H,I,rfl,q⟩
def znf:V->List V->Hp->VK->Prop:=fun x vs H Q=>∃l xs i y,x=.ref l/\vs=[.int i,y]/\H l=some (.lst xs)/\0<=i/\i<=xs.length/\xs.length<sizeLine/\Q .non (upd H l (.lst (xs.take i.toNat++y::xs.drop i.toNat)))
def Jg:kA X "list.insert" znf:=by
 intro aa s σ H x vs v us Q I d f h;obtain⟨l,xs,i,y,rfl,rfl,b,o,hi,p,q⟩:=h;cases d;obtain⟨u,c,rfl,g,j⟩:=f.two;obtain⟨t,rfl⟩:=g;obtain⟨z,a,n,r,w,e⟩:=I.lstM b;have A:sizeLine<2 ^ 62:=by rw[sizeLine_eq];decide
 have hf:Builtin.List.listFitsIndex i=true:=by
  unfold Builtin.List.listFitsIndex;simp only[AC,decide_eq_true_eq];constructor<;>omega
 refine call_meets F.slot_list_insert ⟨_,e,rfl⟩ F.entry_list_insert (F.args_list_insert_3 _ _ _) (PySem.AutoSeq1.list_insert_list_int_val_1 l a.toArray n i t c (by simp[hf]) (by rw[Ai];omega)) ⟨e,?_⟩;refine⟨.non,_,I.lset (its':=a.take i.toNat++c::a.drop i.toNat) (t':=s.toks) b e ?_ ((r.take _).append (.cons j (r.drop _))) ?_,rfl,q⟩
 ·have hk:(if i<0 then(i+(a.toArray.size:Int)).toNat else min i.toNat a.toArray.size)=i.toNat:=by
   rw[if_neg ω,Ai];omega
  dsimp only;rw[hk];simp;exact Az (by rw[List.length_drop];exact Ag _)
 ·rw[Aw,Au,AJ,List.length_drop]
  omega
def Jh:z0 X (.type "int") (fun xs H Q=>∃x n,xs=[.str x]/\PySem.intText? x=some n/\x.length<=640/\Q (.int n) H):=by
 intro aa s σ H xs us Q I r h;obtain⟨x,n,rfl,a,b,q⟩:=h;obtain⟨u,rfl,t,rfl⟩:=vals1 r;exact PySem.W.KIN.call_text a b ⟨.int n,H,I.tok _,⟨_,rfl⟩,q⟩
end
section
variable{X:Cx}{aa:Ψ}{σ:St}{H:Hp}{s:Shared}
def DO{A:Around}(h:A.units+64<cLine):A.in1.in1.units<cLine:=by show A.units+1+1<cLine;omega
def in1_units{A:Around}(h:A.units+64<cLine):A.in1.units<cLine:=by show A.units+1<cLine;omega
def xk:z0 X (.builtin "sorted") (fun xs H Q=>∃(l:Addr)(ns:List Int),xs=[.ref l]/\SqL X.K H l (ns.map V.int)/\ns.length<64/\∀(D:Addr)(ms:List Int),ms.Perm ns->ms.Pairwise (·<=·)->H D=none->Q (.ref D) (upd H D (.lst (ms.map V.int)))):=by
 intro aa s σ H xs us Q I r h;obtain⟨l,ns,rfl,hq,v,q⟩:=h;obtain⟨u,rfl,x⟩:=vals1 r;cases x;obtain⟨d,f,p1,g⟩:=I.list hq;have hi:IntsAre d ns:=intsAre_of f;have a:=f.length;rw[Ab] at a g;refine br.Dn (ls:=ns.map fun n=>[n]) (good:=fun _=>True) p1.isList (br.wf hi) (fun _ _=>trivial) ω ω fun out b=>?_;obtain⟨ps,hp,b,hs⟩:=b;have all:∀p∈ps,∃n t,p.1=[n]/\p.2=Value.int n t:=fun p o=>by
  obtain⟨i,e⟩:=List.mem_iff_getElem?.mp (hp.mem_iff.mp o);rw[br.bN,Aj] at e;cases e1:ns[i]? with
  |none=>rw[e1] at e;simp at e
  |some n=>
   obtain⟨t,e2⟩:=hi.get i n e1;rw[e1,e2] at e;simp only[A1,Option.bind_some,A9] at e;subst e;exact⟨n,t,rfl,rfl⟩
 have y:∀ps:List (List Int×Value),(∀p∈ps,∃n t,p.1=[n]/\p.2=Value.int n t)->Vals ((ps.map fun p=>p.1.headD 0).map V.int) (ps.map (·.2)):=by
  intro ps
  induction ps with
  |nil=>intro _;exact .nil
  |cons p ps ih=>
   intro h;obtain⟨n,t,e1,e2⟩:=h p Av;refine .cons ?_ (ih fun q hq=>h q (Ax _ hq));show RelV (V.int (p.1.headD 0)) p.2;rw[e1,e2];exact⟨t,rfl⟩
 have j:(ps.map fun p=>p.1.headD 0).Perm ns:=by
  have h1:=hp.map (fun p:List Int×Value=>p.1.headD 0);have e:((ns.map fun n=>[n]).zip d).map (fun p:List Int×Value=>p.1.headD 0)=ns:=by
   rw[show(fun p:List Int×Value=>p.1.headD 0)=(fun l:List Int=>l.headD 0) ∘ Prod.fst from rfl,<-As,List.map_fst_zip (by rw[Ab];omega),As];exact List.map_id' ns
  rw[e] at h1;exact h1
 have z:(ps.map fun p=>p.1.headD 0).Pairwise (·<=·):=by
  rw[Bi];refine hs.imp_of_mem fun{p q} h1 h2 c=>?_;obtain⟨n,t,e1,_⟩:=all p h1;obtain⟨m,t',e2,_⟩:=all q h2;rw[e1,e2,HT.zI] at c;rw[e1,e2];show n<=m
  by_cases e:m=n
  ·omega
  ·rw[if_neg e] at c
   have:=of_decide_eq_false c;omega
 obtain⟨e,he⟩:=sortedAll_at s.heap d out;refine⟨.ref (s⁻¹+1),_,I.laid (t':=s.toks) (fun _ _=>sortedAll_old) (Nat.le_succ _) (show zC X.prog X.w _ _ _ (.lst ((ps.map fun p=>p.1.headD 0).map V.int)) from⟨?_,out.toList,e,?_,?_⟩),rfl,q _ _ j z (I.hok.fresh (Nat.le_succ _))⟩
 ·rw[Ab,j.length_eq];exact g
 ·rw[b];exact y ps all
 ·simpa using he
def nf(H:Hp)(p:Addr)(l:List Int):Prop:=∃n b ps,l=n::ps/\H p=some (.tup [.int n,.ref b])/\Tp H b ps
def DP{p:Addr}{l:List Int}(I:Inv X aa σ H s)(h:nf H p l):br.IsPr s.heap (.ref p) l:=by
 obtain⟨n,b,ps,rfl,h1,h2⟩:=h;obtain⟨f,a,p1,_⟩:=I.tuple (SqT.of (K:=X.K) h1);obtain⟨u,g,rfl,⟨t,rfl⟩,c⟩:=vals2 a;cases c;obtain⟨d,e,p2,_⟩:=I.tuple (SqT.of (K:=X.K) h2);exact⟨p,b,n,t,d,ps,rfl,rfl,p1,p2,intsAre_of e⟩
def Ji{h h':Heap}{u:Value}{l:List Int}(k:∀b o,h.get? b=some o->h'.get? b=some o)(x:br.IsPr h u l):br.IsPr h' u l:=by
 obtain⟨a,b,n,t,d,ps,e1,e2,⟨o,e,hc⟩,⟨o',c,hc'⟩,i⟩:=x;exact⟨a,b,n,t,d,ps,e1,e2,⟨o,k _ _ e,hc⟩,⟨o',k _ _ c,hc'⟩,i⟩
def qB{a b:Type}{R:a->b->Prop}{l:List a}{m:List b}(p:Paired R l m):∀(i:Nat) x y,l[i]?=some x->m[i]?=some y->R x y:=by
 induction p with
 |nil=>intro i x y h;simp at h
 |cons r t ih=>
  intro i x y h1 h2;cases i with
  |zero=>simp at h1 h2;subst h1 h2;exact r
  |succ i=>exact ih i x y (by simpa using h1) (by simpa using h2)
def addrOf:Value->Addr
 |.ref a=>a
 |_=>0
def Jj(hu:X.A.units+64<cLine):z0 X (.builtin "sorted") (fun xs H Q=>∃(l:Addr)(as:List Addr)(ls:Ξ),xs=[.ref l]/\SqL X.K H l (as.map V.ref)/\Paired (nf H) as ls/\ls.length<64/\
  ∀(D:Addr)(j:List (List Int×Addr)),j.Perm (ls.zip as)->j.Pairwise (fun a b=>HT.lexLt b.1 a.1=false)->H D=none->Q (.ref D) (upd H D (.lst (j.map fun q=>V.ref q.2)))):=by
 intro aa s σ H xs us Q I r h;obtain⟨l,as,ls,rfl,hq,hp,z,q⟩:=h;obtain⟨u,rfl,C⟩:=vals1 r;cases C;obtain⟨G,v,p1,x⟩:=I.list hq;have d:=v.length;obtain rfl:=aM v;rw[Ab] at d x;have E:=A4 hp;have F:∀h:Heap,(∀b o,s.heap.get? b=some o->h.get? b=some o)->∀(i:Nat) u l,(as.map Value.ref)[i]?=some u->ls[i]?=some l->br.IsPr h u l:=fun h hk i u l h1 h2=>by
  rw[Aj] at h1;cases e:as[i]? with
  |none=>rw[e] at h1;simp at h1
  |some a=>
   rw[e] at h1;obtain rfl:=An h1;exact Ji hk (DP I (qB hp i a l e h2))
 refine br.Dn (ls:=ls) (good:=fun h=>∀b o,s.heap.get? b=some o->h.get? b=some o) p1.isList (br.Dl (by rw[Ab];exact E) (DO hu) ⟨s.heap,fun _ _ e=>e⟩ F) (fun h' hk=>hk) (by rw[Ab];exact x) (by rw[Ab];omega) fun out f=>?_;obtain⟨ps,c,f,hs⟩:=f;have all:∀p∈ps,p.2=Value.ref (addrOf p.2):=fun p g=>by
  have:=(List.of_mem_zip (c.mem_iff.mp g:(p.1,p.2)∈ls.zip (as.map Value.ref))).2;obtain⟨a,_,e⟩:=List.mem_map.mp this;rw[<-e];rfl
 have y:(ps.map fun p=>(p.1,addrOf p.2)).Perm (ls.zip as):=by
  have h1:=c.map (fun p:List Int×Value=>(p.1,addrOf p.2));have e:(ls.zip (as.map Value.ref)).map (fun p:List Int×Value=>(p.1,addrOf p.2))=ls.zip as:=by
   rw[List.zip_map_right,As];exact(AY fun p _=>rfl).trans (List.map_id' _)
  rw[e] at h1;exact h1
 obtain⟨e,he⟩:=sortedAll_at s.heap (as.map Value.ref) out;have ex:out.toList=((ps.map fun p=>(p.1,addrOf p.2)).map fun q=>Value.ref q.2):=by
  rw[f,As];exact AY fun p g=>all p g
 refine⟨.ref (s⁻¹+1),_,I.laid (t':=s.toks) (fun _ _=>sortedAll_old) (Nat.le_succ _) (show zC X.prog X.w _ _ _ (.lst ((ps.map fun p=>(p.1,addrOf p.2)).map fun q=>V.ref q.2)) from⟨?_,out.toList,e,?_,?_⟩),rfl,q _ _ y ?_ (I.hok.fresh (Nat.le_succ _))⟩
 ·rw[Ab,y.length_eq,List.length_zip];omega
 ·rw[ex]
  exact wI (fun q:List Int×Addr=>q.2) _
 ·simpa using he
 ·rw[Bi];exact hs
def qD:Sp:=fun vs H Q _=>∃a ps,vs=[.ref a]/\Tp H a ps/\∀p,H p=none->Q (.ref p) (upd H p (.tup [.int ps.length,.ref a]))
def DQ{b:Addr}(h:bh X aa H b):∀c∈[b],bh X aa H c:=fun c hc=>by rw[List.mem_singleton.mp hc];exact h
def ng{H':Hp}{b:Addr}(f:bh X aa H b)(a:H' b=none):bh X aa H' b:=⟨a,f.2⟩
def DR{b:Addr}(I:Inv X aa σ H s)(f:bh X aa H b):b∉frs X.stack:=fun hb=>by
 rcases List.mem_cons.mp (I.stkSub b hb) with e|e
 ·exact f.2.1 e
 ·exact f.2.2.1 e
def Jk{k:Nat}{f l:Addr}{fd:FuncData}{as:List Addr}{pss:Ξ}{x:Str}{Q:Ω}(F:FnOk X.prog X.w X.K X.mg X.base az k f fd [x] qD)(hr:Room (k+2) X.A)(hb:Binds X.K fd [x] [])(I:Inv X aa σ H s)(hl:SqL X.K H l (as.map V.ref))(ht:Tps H as pss)(h64:pss.length<64)(h:∀D H'(C:List (List Int×Addr)) s',Inv X aa σ H' s'->Same H H'->H D=none->H' D=some (.lst (C.map fun q=>V.ref q.2))->C.Perm (pss.zip as)->
   C.Pairwise (fun a b=>HT.lexLt ((b.1.length:Int)::b.1) ((a.1.length:Int)::a.1)=false)->Q (.ref D) s'):
  wpAny (model X.prog X.w) X.A (call (.builtin "sorted") [.ref l] [(Str.ofString "key",.ref f)]) Q X.xe s:=by
 have hu:X.A.units+64<cLine:=hr.units;obtain⟨af,r1,p1,hz⟩:=I.list hl;have hlen:=r1.length;obtain rfl:=aM r1;have aL:=ht.length;rw[Ab] at hlen hz;have P:(as.map Value.ref).length<=sizeLine:=by rw[Ab];exact hz
 generalize hvs:as.map Value.ref=vs at p1 P;have qa:vs.length=as.length:=by rw[<-hvs,Ab]
 refine call_function_entry_kw kind_sorted plain_sorted entry_sorted (ksk_s1 _ _) ?_;unfold Builtin.«sorted»;refine Aa (m:=checkCount "sorted" 1 1 _) (Ac ?_);refine Aa (collect_list p1.isList ?_ P);refine Aa (wpAny_newList ?_ P);have hsz:((s.heap.push (seqObj "list" #[] 0)).update s⁻¹ (AG (·++vs.toArray))).objs.size=s⁻¹+1:=by
  rw[A8,size_push']
 have g:(((s.heap.push (seqObj "list" #[] 0)).update s⁻¹ (AG (·++vs.toArray))).push (seqObj "list" vs.toArray 0)).get? (s⁻¹+1)=some (seqObj "list" vs.toArray 0):=by
  rw[<-hsz];exact Ak _ rfl
 have keep:∀b o,s.heap.get? b=some o->(((s.heap.push (seqObj "list" #[] 0)).update s⁻¹ (AG (·++vs.toArray))).push (seqObj "list" vs.toArray 0)).get? b=some o:=fun b o q=>by
  have L:b<s⁻¹:=Al q;rw[Heap.get?_push_ne _ _ _ (by rw[hsz];exact Aq (Ba L)),Heap.get?_update_ne _ _ _ _ (Aq L),Heap.get?_push_ne _ _ _ (Aq L)];exact q
 show wpAny _ _ _ _ _ {s with heap:=((s.heap.push (seqObj "list" #[] 0)).update s⁻¹ (AG (·++vs.toArray))).push (seqObj "list" vs.toArray 0)};rw[hsz];generalize hA:((s.heap.push (seqObj "list" #[] 0)).update s⁻¹ (AG (·++vs.toArray))).push (seqObj "list" vs.toArray 0)=d at g keep ⊢;have I1:Inv X aa σ H {s with heap:=d}:=I.kept (t':=s.toks) keep;have S:bh X aa H (s⁻¹+1):=I.fpOk (Nat.le_succ _) (I.hok.fresh (Nat.le_succ _));generalize hD:s⁻¹+1=D at g S ⊢;have xf:D<d.objs.size:=Al g;refine Aa (AA (wpAny_call_entry_kw slot_list_sort ⟨_,g,rfl⟩ entry_list_sort ?body (ksk_l1 _ _)))
 case body=>
  show wpAny (model X.prog X.w) X.A.in1.in1 (Builtin.«list.sort» ⟨[.ref D],[(Str.ofString "key",.ref f)]⟩) _ _ _;rw[ksk_t1];unfold ksk_tree;refine Aa (listItems_at g rfl ?_);refine Aa (listUpdate_at g rfl ?_ (by rw[Ai];exact P) (AK _));obtain⟨e1,cS⟩:∃e1,(d.update D (AG fun _=>(#[]:Array Value))).get? D=some (seqObj "list" #[] e1):=⟨_,get?_update_seq g fun _=>#[]⟩;refine Aa (seqEpoch_at cS rfl ?_);refine Aa (wpAny_newTuple ?_ (by show vs.length<=_;exact P));refine Aa (wpAny_newList ?_ (AK _));refine AA ?_;have I2:Inv X aa σ H {s with heap:=d.update D (AG fun _=>(#[]:Array Value))}:=
   Inv.turneds (s:={s with heap:=d}) (t':=s.toks) (ch:=[D]) I1 (DQ S) fun b o hb q=>by rw[Heap.get?_update_ne _ _ _ _ (fun z=>hb (by simp[z]))];exact q
  have I3:Inv X aa σ H {s with heap:=((d.update D (AG fun _=>(#[]:Array Value))).push (seqObj "tuple" vs.toArray 0))}:=I2.kept (t':=s.toks) fun b u q=>Ae _ q;have kY:bh X aa H ((d.update D (AG fun _=>(#[]:Array Value))).push (seqObj "tuple" vs.toArray 0)).objs.size:=I3.fpOk (Ag _) (I3.hok.fresh (Ag _));have lW:((d.update D (AG fun _=>(#[]:Array Value))).push (seqObj "tuple" vs.toArray 0)).objs.size≠D:=by
   rw[size_push',A8];omega
  have I4:Inv X aa σ H {s with heap:=(((d.update D (AG fun _=>(#[]:Array Value))).push (seqObj "tuple" vs.toArray 0)).push (seqObj "list" #[] 0))}:=I3.kept (t':=s.toks) fun b u q=>Ae _ q;have tX:(((d.update D (AG fun _=>(#[]:Array Value))).push (seqObj "tuple" vs.toArray 0)).push (seqObj "list" #[] 0)).get? ((d.update D (AG fun _=>(#[]:Array Value))).push (seqObj "tuple" vs.toArray 0)).objs.size=some (seqObj "list" #[] 0):=Ak _ rfl;have aZ:(((d.update D (AG fun _=>(#[]:Array Value))).push (seqObj "tuple" vs.toArray 0)).push (seqObj "list" #[] 0)).get? D=some (seqObj "list" #[] e1):=Ae _ (Ae _ cS);show wpAny (model X.prog X.w) X.A.in1.in1 (ksk_rest D (.ref f) false vs.toArray e1 (.ref ((d.update D (AG fun _=>(#[]:Array Value))).push (seqObj "tuple" vs.toArray 0)).objs.size)) _ _ {s with heap:=((d.update D (AG fun _=>(#[]:Array Value))).push (seqObj "tuple" vs.toArray 0)).push (seqObj "list" #[] 0)};generalize ((d.update D (AG fun _=>(#[]:Array Value))).push (seqObj "tuple" vs.toArray 0)).objs.size=kS at *;generalize ((d.update D (AG fun _=>(#[]:Array Value))).push (seqObj "tuple" vs.toArray 0)).push (seqObj "list" #[] 0)=f_ at *;unfold ksk_rest;refine Aa (wpAny_rule ?_)
  first
   |rw[List.forIn_toArray]
   |(rw[<-Array.forIn_toList];simp only[List.toList_toArray])
  refine Aa (ksk_fold (fun i s'=>∃y E e ks,Inv X aa σ y s'/\Same H y/\y D=none/\y kS=none/\s'.heap.get? kS=some (seqObj "list" E e)/\s'.heap.get? D=some (seqObj "list" #[] e1)/\E.toList=ks.map Value.ref/\ks.length=i/\
    ∀(j:Nat) p,ks[j]?=some p->∃a ps,as[j]?=some a/\pss[j]?=some ps/\y p=some (.tup [.int ps.length,.ref a])) vs 0 _
   ⟨H,#[],0,[],I4,Same.refl H,S.1,kY.1,tX,aZ,rfl,rfl,fun j p e=>by simp at e⟩ ?step ?done)
  case step=>
   rintro j v s' hv ⟨y,E,e,ks,Ik,N,O,T,U,na,lh,J,bL⟩;simp only[Nat.zero_add] at J ⊢;have de:j<as.length:=by rw[<-qa];exact(List.getElem?_eq_some_iff.mp hv).1
   have Z:as[j]?=some as[j]:=Af de;obtain⟨ps,aV,a7⟩:=ht.get Z;have ev:v=.ref as[j]:=by
    rw[<-hvs,Aj,Z] at hv;exact(An hv).symm
   subst ev;refine Aa (wpAny_attempt (wpAny_call (codeAny_mono (F.run X.A.in1.in1 X.stack s' y ⟨[.ref as[j]],[]⟩ [.ref as[j]] [.ref as[j]] (fun v H'=>∃p,v=.ref p/\y p=none/\H'=upd y p (.tup [.int ps.length,.ref as[j]])) E0
    (Room.in1 (Room.in1 hr)) Ik.env0.in1.in1 (hb s' [.ref as[j]] Ik.kIn rfl) (.cons rfl .nil) ⟨as[j],ps,rfl,N.tp a7,fun p hp=>⟨p,rfl,hp,rfl⟩⟩) fun r M hq=>?_)))
   cases r with
   |error e=>exact False.elim hq
   |ok fl=>
    cases fl with
    |next=>exact False.elim hq
    |brk=>exact False.elim hq
    |cont=>exact False.elim hq
    |ret u=>
     obtain⟨v,H',os,W,un,hok,ru,p,rfl,hp,rfl⟩:=hq;cases ru;have I5:Inv X aa σ (upd y p (.tup [.int ps.length,.ref as[j]])) M:=Ik.call' os un hok W (fun b z=>nomatch z);have fD:=ng S O;have fK:=ng kY T;have uA:=un.keep D _ na O (DR Ik fD) (by simp);have pM:=un.keep kS _ U T (DR Ik fK) (by simp);have iy:=un.free D _ na O (by simp);have qK:=un.free kS _ U T (by simp)
     try dsimp only
     have hkz:E.size=j:=by rw[<-Ay,lh,Ab,J]
     obtain⟨c2,cT⟩:∃c2,(M.heap.update kS (AG (·.push (.ref p)))).get? kS=some (seqObj "list" (E.push (.ref p)) c2):=⟨_,get?_update_seq pM (·.push (.ref p))⟩;have s1:=AR M.heap kS (AG (·.push (.ref p)));have uG:=ng kY qK;have I6:Inv X aa σ (upd y p (.tup [.int ps.length,.ref as[j]])) {M with heap:=M.heap.update kS (AG (·.push (.ref p)))}:=
      I5.turneds (t':=M.toks) (ch:=[kS]) (DQ uG) fun b o hb q=>(s1.2 b (fun z=>hb (by simp[z]))).trans q
     refine Aa (listUpdate_at pM rfl ?_ ω (AQ (Nat.le_of_eq (Array.size_push ..)) ω));refine Ac ⟨rfl,_,E.push (.ref p),c2,ks++[p],I6,N.then (by exact N.free hp),iy,qK,cT,(s1.2 D lW.symm).trans uA,by rw[Array.toList_push,lh,Am];rfl,by rw[Aw,J];rfl,fun i p' G=>?_⟩
     by_cases hi:i<ks.length
     ·rw[List.getElem?_append_left hi] at G
      obtain⟨a,iP,x1,x2,x3⟩:=bL i p' G;exact⟨a,iP,x1,x2,by rw[zj (zh x3 hp)];exact x3⟩
     ·rw[List.getElem?_append_right ω] at G
      have h0:i-ks.length=0:=by
       rcases Nat.eq_zero_or_pos (i-ks.length) with z|z
       ·exact z
       ·rw[List.getElem?_eq_none (by simp only[Au,List.length_nil];omega)] at G;cases G
      rw[h0] at G;obtain rfl:p=p':=by simpa using G
      have hij:i=j:=ω
      subst hij;exact⟨_,ps,Z,aV,ak⟩
  case done=>
   rintro s' ⟨y,E,e,ks,Ik,N,O,T,U,na,lh,J,bL⟩;simp only[Nat.zero_add] at J
   try dsimp only
   refine Aa (listItems_at U rfl ?_);unfold ksk_end
   try dsimp only
   simp only[Ah,if_false];have vn:E=(ks.map Value.ref).toArray:=by rw[<-lh,Array.toArray_toList]
   subst vn;have nz:∀(i:Nat) u l,(ks.map Value.ref)[i]?=some u->(pss.map fun ps=>(ps.length:Int)::ps)[i]?=some l->br.IsPr s'.heap u l:=fun i u l h1 h2=>by
    rw[Aj] at h1 h2;cases ek:ks[i]? with
    |none=>rw[ek] at h1;simp at h1
    |some p=>
     obtain⟨a,ps,x1,x2,x3⟩:=bL i p ek;rw[ek] at h1;rw[x2] at h2;obtain rfl:=An h1;obtain rfl:=An h2;obtain⟨iP,y1,y2⟩:=ht.get x1;rw[x2] at y1;obtain rfl:=An y1;exact DP Ik ⟨_,a,ps,rfl,x3,N.tp y2⟩
   refine br.Dm (us:=ks.map Value.ref) (vs:=vs) (ls:=pss.map fun ps=>(ps.length:Int)::ps) (good:=fun h=>h=s'.heap) (br.Dl (by rw[Ab,Ab,J,qa];exact aL) (DO hu) ⟨_,rfl⟩ (by rintro h rfl;exact nz)) (by rw[Ab,J]) ω rfl fun ai ho hst hf=>?_;refine br.IL (ls:=pss.map fun ps=>(ps.length:Int)::ps) (vs:=vs) U na lW (by rw[Ai,Ab];omega) ho hst P hf fun h' out c kk iE Bw mH vK=>⟨_,rfl,?_⟩;refine Ac ⟨_,rfl,?_⟩;obtain⟨ps,Y,bG,hs⟩:=mH;subst hvs;have I7:Inv X aa σ y {s' with heap:=h'}:=Ik.turneds (t':=s'.toks) (ch:=[kS,D]) (fun b hb=>by
     simp only[List.mem_cons,List.not_mem_nil,or_false] at hb;rcases hb with rfl|rfl
     ·exact ng kY T
     ·exact ng S O) fun b o hb q=>kk b o (fun z=>hb (by simp[z])) (fun z=>hb (by simp[z])) q
   have all:∀p∈ps,∃a C,p.2=Value.ref a/\p.1=((C:List Int).length:Int)::C:=fun p bJ=>by
    obtain⟨h1,h2⟩:=List.of_mem_zip (Y.mem_iff.mp bJ:(p.1,p.2)∈_);obtain⟨a,_,Z⟩:=List.mem_map.mp h2;obtain⟨C,_,eq⟩:=List.mem_map.mp h1;exact⟨a,C,Z.symm,eq.symm⟩
   have pm:(ps.map fun p=>(p.1.tail,addrOf p.2)).Perm (pss.zip as):=by
    have h1:=Y.map (fun p:List Int×Value=>(p.1.tail,addrOf p.2));have e:((pss.map fun ps=>(ps.length:Int)::ps).zip (as.map Value.ref)).map (fun p:List Int×Value=>(p.1.tail,addrOf p.2))=pss.zip as:=by
     rw[List.zip_map,As];exact(AY fun p _=>rfl).trans (List.map_id' _)
    rw[e] at h1;exact h1
   have ex:out.toList=((ps.map fun p=>(p.1.tail,addrOf p.2)).map fun q=>Value.ref q.2):=by
    rw[bG,As];refine AY fun p bJ=>?_;obtain⟨a,C,e1,_⟩:=all p bJ;show p.2=Value.ref (addrOf p.2);rw[e1];rfl
   have vv:Vals ((ps.map fun p=>(p.1.tail,addrOf p.2)).map fun q=>V.ref q.2) out.toList:=by
    rw[ex];exact wI (fun q:List Int×Addr=>q.2) _
   obtain⟨f0,f1,f2,f3,f4,f5⟩:=S;have rQ:X.s₀⁻¹<=D:=by rw[<-hD];exact AQ I.sz (Nat.le_succ _)
   have I8:Inv X aa σ (upd y D (.lst ((ps.map fun p=>(p.1.tail,addrOf p.2)).map fun q=>V.ref q.2))) {s' with heap:=h'}:=by
    refine I7.adopt O rQ f1 f4 f5 ⟨?_,out.toList,c,vv,?_⟩
    ·rw[Ab,pm.length_eq,List.length_zip];omega
    ·simpa using iE
   refine h D _ _ _ I8 (N.then f0) f0 ak pm ?_;rw[Bi];refine hs.imp_of_mem fun{p q} h1 h2 h3=>?_;obtain⟨_,C,_,e1⟩:=all p h1;obtain⟨_,uM,_,e2⟩:=all q h2;rw[e1,e2] at h3;rw[e1,e2];exact h3
end
section
variable{X:Cx}{a:Expr}{ta:TA}{p p2 pos jA:Pos}{k:Nat}{f:Addr}{fd:FuncData}{x y:Str}
def Jl(K:Ad)(ta:TA):TE:=fun σ H Q=>ta σ H fun vs H1=>∃(l:Addr)(as:List Addr)(pss:Ξ),vs=[.ref l]/\SqL K H1 l (as.map V.ref)/\Tps H1 as pss/\pss.length<64/\
 ∀D H2(c:List (List Int×Addr)),Same H1 H2->H1 D=none->H2 D=some (.lst (c.map fun q=>V.ref q.2))->c.Perm (pss.zip as)->c.Pairwise (fun a b=>HT.lexLt ((b.1.length:Int)::b.1) ((a.1.length:Int)::a.1)=false)->Q (.ref D) H2
def Jm(F:FnOk X.prog X.w X.K X.mg X.base az k f fd [x] qD)(hr:Room (k+2) X.A)(hb:Binds X.K fd [x] [])(E:Gl X "sorted")(hm:X.mg "sorted"=none)(G:AU "sorted"=some (.builtin "sorted"))(J:Gl X y)(L:X.mg y=some (.ref f))(M:PA X [a] ta)(N:(y==("__debug__":Str))=false:=by decide)(he:starEach [a] X.env=[(false,eval a X.env)]:=by rfl):PE X (.Call (.Name "sorted" p) [a] [⟨some "key",.Name y p2,jA⟩] pos) (Jl X.K ta):=by
 intro aa s σ H Q I h;refine wpAny_Call_Name_kw (iM I E hm G ?_);refine callWith_kw ?_ (by rw[he];rfl) (by rw[he];rfl) rfl rfl;refine aD (M pos aa s σ H _ I h) fun us d ⟨vs,H1,c,e,g⟩=>?_;obtain⟨l,as,pss,rfl,v,z,b,q⟩:=g;obtain⟨u,rfl,C⟩:=vals1 e;cases C;refine kws_cons (lG c J L (kws_nil ?_) N);show wpAny (model X.prog X.w) X.A (call (.builtin "sorted") [.ref l] [(Str.ofString "key",.ref f)]) _ _ d;exact Jk F hr hb c v z b fun D H' i s' O j o r hp hs=>⟨.ref D,H',O,rfl,q D H' i j o r hp hs⟩
end
end L2
end
section
namespace STb
open PySem PySem.SetTable
def Ris(xs:Array Nat):Prop:=∀(i j a b:Nat),xs[i]?=some a->xs[j]?=some b->i<j->a<b
def Ris.inj{xs:Array Nat}(h:Ris xs){i j a:Nat}(h1:xs[i]?=some a)(h2:xs[j]?=some a):i=j:=by
 rcases Nat.lt_trichotomy i j with q|q|q
 ·exact absurd (h i j a a h1 h2 q) (Nat.lt_irrefl _)
 ·exact q
 ·exact absurd (h j i a a h2 h1 q) (Nat.lt_irrefl _)
def xo{xs:Array Nat}{j:Nat}(hr:Ris xs):∀(fuel lo hi:Nat),hi-lo<=fuel->lo<=hi->hi<=xs.size->(∀i a,xs[i]?=some a->i<lo->a<j)->(∀i a,xs[i]?=some a->hi<=i->j<=a)->
  below.go xs j fuel lo hi<=xs.size/\(∀i a,xs[i]?=some a->i<below.go xs j fuel lo hi->a<j)/\(∀i a,xs[i]?=some a->below.go xs j fuel lo hi<=i->j<=a)
 |0,lo,hi,h0,h1,h2,h3,h4=>by
  have e:lo=hi:=ω
  subst e;exact⟨h2,h3,h4⟩
 |fuel+1,lo,hi,h0,h1,h2,h3,h4=>by
  have d:below.go xs j (fuel+1) lo hi=if lo<hi then(if xs.getD ((lo+hi) / 2) j<j then below.go xs j fuel ((lo+hi) / 2+1) hi else below.go xs j fuel lo ((lo+hi) / 2)) else lo:=rfl;rw[d]
  by_cases c:lo<hi
  ·rw[if_pos c]
   have hm:(lo+hi) / 2<xs.size:=ω
   have em:xs[(lo+hi) / 2]?=some xs[(lo+hi) / 2]:=getElem?_pos xs _ hm;have f:xs.getD ((lo+hi) / 2) j=xs[(lo+hi) / 2]:=by simp[Array.getD,hm]
   rw[f]
   by_cases hc:xs[(lo+hi) / 2]<j
   ·rw[if_pos hc]
    refine xo hr fuel _ _ ω ω h2 (fun i a e b=>?_) h4;rcases Nat.lt_or_eq_of_le (Nat.lt_succ_iff.mp b) with q|q
    ·exact Nat.lt_trans (hr _ _ _ _ e em q) hc
    ·subst q;rw[em] at e;cases e;exact hc
   ·rw[if_neg hc]
    refine xo hr fuel _ _ ω ω ω h3 (fun i a e b=>?_);rcases Nat.lt_or_eq_of_le b with q|q
    ·have:=hr _ _ _ _ em e q
     omega
    ·subst q;rw[em] at e;cases e;omega
  ·rw[if_neg c]
   have e:lo=hi:=ω
   subst e;exact⟨h2,h3,h4⟩
def ni{xs:Array Nat}(hr:Ris xs)(j:Nat):below xs j<=xs.size/\(∀i a,xs[i]?=some a->i<below xs j->a<j)/\(∀i a,xs[i]?=some a->below xs j<=i->j<=a):=
 xo hr xs.size 0 xs.size ω ω (Ag _) (fun _ _ _ h=>absurd h (Nat.not_lt_zero _)) (fun i a e h=>by have:=(Array.getElem?_eq_some_iff.mp e).1;omega)
def below_at{xs:Array Nat}(hr:Ris xs){i j:Nat}(e:xs[i]?=some j):below xs j=i:=by
 obtain⟨h1,h2,a⟩:=ni hr j;rcases Nat.lt_trichotomy (below xs j) i with q|q|q
 ·have hb:below xs j<xs.size:=Nat.lt_trans q (Array.getElem?_eq_some_iff.mp e).1
  have e2:=getElem?_pos xs (below xs j) hb;have b:=a _ _ e2 (Ag _);have c:=hr _ _ _ _ e2 e q;omega
 ·exact q
 ·exact absurd (h2 i j e q) (Nat.lt_irrefl _)
def e_{a:Type}(xs:Array a)(p:Nat)(x:a)(hp:p<=xs.size)(i:Nat):(insertAt xs p x)[i]?=if i<p then xs[i]? else if i=p then some x else xs[i-1]?:=by
 unfold insertAt;have hs:((xs.extract 0 p).push x).size=p+1:=by rw[Array.size_push,Array.size_extract];omega
 by_cases h1:i<p
 ·rw[if_pos h1,Array.getElem?_append_left ω,Array.getElem?_push_lt (by rw[Array.size_extract];omega)]
  simp[Array.getElem_extract,h1]
 ·rw[if_neg h1]
  by_cases h2:i=p
  ·subst h2
   rw[if_pos rfl,Array.getElem?_append_left ω];have e:(xs.extract 0 i).size=i:=by rw[Array.size_extract];omega
   have:=Array.getElem?_push_size (xs:=xs.extract 0 i) (x:=x);rw[e] at this;exact this
  ·rw[if_neg h2,Array.getElem?_append_right ω,hs,Array.getElem?_extract]
   by_cases b:i-(p+1)<xs.size-p
   ·rw[if_pos ω]
    congr 1
    omega
   ·rw[if_neg ω]
    exact(Array.getElem?_eq_none ω).symm
def nk{a:Type}(xs:Array a)(p:Nat)(x:a)(hp:p<=xs.size):(insertAt xs p x).size=xs.size+1:=by
 unfold insertAt;rw[Array.size_append,Array.size_push,Array.size_extract,Array.size_extract];omega
def Jn{xs:Array Nat}(hr:Ris xs){j:Nat}(p:∀i:Nat,xs[i]?≠some j):Ris (insertAt xs (below xs j) j):=by
 obtain⟨h1,h2,o⟩:=ni hr j;intro a b x y d c e;rw[e_ _ _ _ h1] at d c
 by_cases f:a<below xs j
 ·rw[if_pos f] at d
  by_cases g:b<below xs j
  ·rw[if_pos g] at c;exact hr _ _ _ _ d c e
  ·rw[if_neg g] at c
   by_cases h:b=below xs j
   ·rw[if_pos h] at c;cases c;exact h2 _ _ d f
   ·rw[if_neg h] at c;exact hr _ _ _ _ d c ω
 ·rw[if_neg f] at d
  rw[if_neg ω] at c
  by_cases l:a=below xs j
  ·rw[if_pos l] at d;cases d
   rw[if_neg ω] at c;have:=o _ _ c ω;rcases Nat.lt_or_eq_of_le this with q|q
   ·exact q
   ·subst q;exact absurd c (p _)
  ·rw[if_neg l] at d
   rw[if_neg ω] at c;exact hr _ _ _ _ d c ω
def fm(mask:Nat)(p:Probe):Probe:=
 if p.more>0 then {p with j:=p.j+1,more:=p.more-1} else
 {p with j:=(leap mask p.i p.perturb).1,more:=runEnd mask (leap mask p.i p.perturb).1-(leap mask p.i p.perturb).1,i:=(leap mask p.i p.perturb).1,perturb:=(leap mask p.i p.perturb).2}
def first(mask:Nat)(h:Int):Probe:={j:=bits h%(mask+1),more:=runEnd mask (bits h%(mask+1))-bits h%(mask+1),i:=bits h%(mask+1),perturb:=bits h,dummy:=none}
def pr(mask:Nat)(h:Int):Nat->Probe
 |0=>first mask h
 |n+1=>fm mask (pr mask h n)
def pos(mask:Nat)(h:Int)(n:Nat):Nat:=(pr mask h n).j
def DS(mask:Nat)(h:Int):∀n,(pr mask h n).dummy=none
 |0=>rfl
 |n+1=>by
  show(fm mask (pr mask h n)).dummy=none;unfold fm;split<;>exact DS mask h n
def lp(mask:Nat)(h:Int):Nat->Nat×Nat
 |0=>(bits h%(mask+1),bits h)
 |r+1=>leap mask (lp mask h r).1 (lp mask h r).2
def Jo(mask i:Nat):runEnd mask i-i<=9:=by unfold runEnd;split<;>omega
def qE(mask:Nat)(h:Int){n r:Nat}(e:pr mask h n={j:=(lp mask h r).1,more:=runEnd mask (lp mask h r).1-(lp mask h r).1,i:=(lp mask h r).1,perturb:=(lp mask h r).2,dummy:=none}):∀k,k<=runEnd mask (lp mask h r).1-(lp mask h r).1->pr mask h (n+k)={j:=(lp mask h r).1+k,more:=runEnd mask (lp mask h r).1-(lp mask h r).1-k,i:=(lp mask h r).1,perturb:=(lp mask h r).2,dummy:=none}
 |0,_=>e
 |k+1,hk=>by
  have a:=qE mask h e k ω;show fm mask (pr mask h (n+k))=_;rw[a];unfold fm;rw[if_pos (by show runEnd mask (lp mask h r).1-(lp mask h r).1-k>0;omega)]
  congr 1
def DT(mask:Nat)(h:Int):∀r,∃n,n<=10*r/\pr mask h n={j:=(lp mask h r).1,more:=runEnd mask (lp mask h r).1-(lp mask h r).1,i:=(lp mask h r).1,perturb:=(lp mask h r).2,dummy:=none}
 |0=>⟨0,Ag _,rfl⟩
 |r+1=>by
  obtain⟨n,a,e⟩:=DT mask h r;have b:=Jo mask (lp mask h r).1;refine⟨n+(runEnd mask (lp mask h r).1-(lp mask h r).1)+1,ω,?_⟩;show fm mask (pr mask h (n+(runEnd mask (lp mask h r).1-(lp mask h r).1)))=_;rw[qE mask h e _ (Ag _)];unfold fm;rw[if_neg (by show ¬(runEnd mask (lp mask h r).1-(lp mask h r).1-(runEnd mask (lp mask h r).1-(lp mask h r).1)>0);omega)]
  rfl
def Jp(h:Int):bits h<2 ^ 64:=by
 unfold bits;have h1:(0:Int)<=h%(2 ^ 64:Int):=Int.emod_nonneg _ ξ;have h2:h%(2 ^ 64:Int)<2 ^ 64:=Int.emod_lt_of_pos _ ξ;omega
def DU(mask:Nat)(h:Int):∀r,(lp mask h r).2=bits h / 32 ^ r
 |0=>by simp[lp]
 |r+1=>by
  show(lp mask h r).2 / 32=_;rw[DU mask h r,Nat.div_div_eq_div_mul,Nat.pow_succ]
def Jq(mask:Nat)(h:Int){r:Nat}(hr:13<=r):(lp mask h r).2=0:=by
 rw[DU];have h1:=Jp h;have h2:32 ^ 13<=32 ^ r:=Nat.pow_le_pow_right ξ hr;exact Nat.div_eq_of_lt (AB h1 (AQ ξ h2))
def DW(mask:Nat)(h:Int):∀r,(lp mask h r).1<=mask
 |0=>Nat.lt_succ_iff.mp (Nat.mod_lt _ (Nat.succ_pos _))
 |r+1=>Nat.lt_succ_iff.mp (Nat.mod_lt _ (Nat.succ_pos _))
def f5(mask x:Nat):Nat:=(x*5+1)%(mask+1)
def fc(mask:Nat):Nat->Nat->Nat
 |0,x=>x
 |k+1,x=>f5 mask (fc mask k x)
def xy(mask:Nat)(h:Int):∀k,(lp mask h (13+k)).1=fc mask k (lp mask h 13).1
 |0=>rfl
 |k+1=>by
  show((lp mask h (13+k)).1*5+1+(lp mask h (13+k)).2 / 32)%(mask+1)=f5 mask (fc mask k (lp mask h 13).1);rw[Jq mask h ω,xy mask h k]
  rfl
def eH(mask:Nat):Prop:=∀i s,i<=mask->s<=mask->∃k,k<=mask/\fc mask k i=s
def kM(mask:Nat):Nat->Nat->List Nat
 |0,_=>[]
 |n+1,x=>x::kM mask n (f5 mask x)
def DX(mask:Nat):∀(n x k:Nat),k<n->(kM mask n x)[k]?=some (fc mask k x)
 |0,_,_,h=>absurd h (Nat.not_lt_zero _)
 |n+1,x,0,_=>rfl
 |n+1,x,k+1,h=>by
  have a:=DX mask n (f5 mask x) k ω;show(kM mask n (f5 mask x))[k]?=_;rw[a]
  congr 1
  have b:∀k x,fc mask k (f5 mask x)=f5 mask (fc mask k x):=by
   intro k
   induction k with
   |zero=>intro x;rfl
   |succ k a=>intro x;show f5 mask (fc mask k (f5 mask x))=_;rw[a];rfl
  exact b k x
def xC(mask:Nat):∀n x,(kM mask n x).length=n
 |0,_=>rfl
 |n+1,x=>by show(kM mask n (f5 mask x)).length+1=_;rw[xC mask n]
def qI(mask:Nat):∀(a b x:Nat),fc mask (a+b) x=fc mask a (fc mask b x)
 |0,b,x=>by rw[Nat.zero_add];rfl
 |a+1,b,x=>by
  rw[Nat.add_right_comm];show f5 mask (fc mask (a+b) x)=_;rw[qI mask a b x]
  rfl
def kO{mask:Nat}(h:((Bc (mask+1)).all fun s=>(kM mask (mask+1) 0).contains s)=true)(hp:fc mask (mask+1) 0=0):eH mask:=by
 have all:∀s,s<=mask->∃k,k<=mask/\fc mask k 0=s:=fun s hs=>by
  have h2:=List.all_eq_true.mp h s (List.mem_range.mpr ω);obtain⟨k,hk,e⟩:=List.mem_iff_getElem.mp (List.contains_iff_mem.mp h2);rw[xC] at hk;refine⟨k,ω,?_⟩;have e2:=DX mask (mask+1) 0 k hk;rw[Af (by rw[xC];exact hk),e] at e2;exact(An e2).symm
 intro i s hi hs;obtain⟨a,f,c⟩:=all i hi;obtain⟨b,hb,d⟩:=all s hs;rcases Nat.lt_or_ge b a with q|q
 ·refine⟨mask+1-a+b,ω,?_⟩
  rw[<-c,<-qI,show mask+1-a+b+a=b+(mask+1) from ω,qI,hp,d]
 ·refine⟨b-a,ω,?_⟩
  rw[<-c,<-qI,show b-a+a=b from ω,d]
def xL:eH 7:=kO δ δ
def gd:eH 31:=kO δ δ
def ny:eH 15:=kO δ δ
def i9:eH 63:=kO δ δ
def jI:eH 255:=kO δ δ
def ge:eH 127:=kO δ δ
def nA{mask:Nat}(hc:eH mask)(h:Int){x:Nat}(hx:x<=mask):∃n,n<10*turns mask/\pos mask h n=x:=by
 obtain⟨k,hk,e⟩:=hc (lp mask h 13).1 x (DW mask h 13) hx;obtain⟨n,a,e2⟩:=DT mask h (13+k);refine⟨n,by unfold turns;omega,?_⟩;show(pr mask h n).j=x;rw[e2];show(lp mask h (13+k)).1=x;rw[xy,e]
def eR(mask:Nat)(h:Int)(n:Nat):pos mask h n<=mask:=by
 have key:∀n,(pr mask h n).i<=mask/\(pr mask h n).j+(pr mask h n).more<=mask:=by
  intro n;have a:∀i,i<=mask->i+(runEnd mask i-i)<=mask:=fun i hi=>by unfold runEnd;split<;>omega
  induction n with
  |zero=>
   have q:bits h%(mask+1)<=mask:=Nat.lt_succ_iff.mp (Nat.mod_lt _ (Nat.succ_pos _));exact⟨q,a _ q⟩
  |succ n ih=>
   show(fm mask (pr mask h n)).i<=mask/\(fm mask (pr mask h n)).j+(fm mask (pr mask h n)).more<=mask;unfold fm;split
   ·exact⟨ih.1,by show(pr mask h n).j+1+((pr mask h n).more-1)<=mask;omega⟩
   ·have q:(leap mask (pr mask h n).i (pr mask h n).perturb).1<=mask:=Nat.lt_succ_iff.mp (Nat.mod_lt _ (Nat.succ_pos _))
    exact⟨q,a _ q⟩
 have:=(key n).2;unfold pos;omega
structure Tb(t:SetTable)(hs:Array Int):Prop where
 ris:Ris t.place
 dum:t.dummies=#[]
 size:t.place.size=hs.size
 le:∀(i j:Nat),t.place[i]?=some j->j<=t.mask
 cov:eH t.mask
 odd:t.mask%2=1
 room:hs.size<=t.mask
 path:∀(k j:Nat)(h:Int),hs[k]?=some h->t.place[k]?=some j->∃n,pos t.mask h n=j/\∀m,m<n->∃k':Nat,t.place[k']?=some (pos t.mask h m)
def eK(t:SetTable)(j:Nat):Prop:=∃i:Nat,t.place[i]?=some j
section
variable{t:SetTable}{hs:Array Int}
def kR(T:Tb t hs){i j:Nat}(e:t.place[i]?=some j):t.slot j=.live i:=by
 show(if(t.place[below t.place j]?==some j)=true then Slot.live (below t.place j) else _)=_;rw[below_at T.ris e,e,if_pos (by simp)]
def Jr(T:Tb t hs){j:Nat}(e:¬eK t j):t.slot j=.empty:=by
 show(if(t.place[below t.place j]?==some j)=true then Slot.live (below t.place j) else if has t.dummies j=true then Slot.dummy else Slot.empty)=_;have h1:¬(t.place[below t.place j]?==some j)=true:=by
  intro q;exact e ⟨_,eq_of_beq q⟩
 have h2:has t.dummies j=false:=by
  unfold has;rw[T.dum]
  rfl
 rw[if_neg h1,h2]
 rfl
def Js(T:Tb t hs):∃x,x<=t.mask/\¬eK t x:=by
 apply Classical.byContradiction;intro a;have all:∀x,x<=t.mask->eK t x:=fun x hx=>Classical.byContradiction fun q=>a ⟨x,hx,q⟩;have sub:Bc (t.mask+1) ⊆ t.place.toList:=fun x hx=>by
  obtain⟨i,e⟩:=all x (Nat.lt_succ_iff.mp (List.mem_range.mp hx));rw[<-AD] at e;exact Ap e
 have:=(List.nodup_range (n:=t.mask+1)).length_le_of_subset sub;rw[List.length_range,Ay,T.size] at this;have:=T.room;omega
def least{P:Nat->Prop}(n:Nat)(h:P n):∃m,m<=n/\P m/\∀k,k<m->¬P k:=by
 induction n using Nat.strongRecOn with
 |ind n ih=>
  by_cases q:∃k,k<n/\P k
  ·obtain⟨k,hk,a⟩:=q
   obtain⟨m,h1,h2,b⟩:=ih k hk a;exact⟨m,ω,h2,b⟩
  ·exact⟨n,Ag _,h,fun k hk a=>q ⟨k,hk,a⟩⟩
def xO(T:Tb t hs)(h:Int):∃ne,ne<10*turns t.mask/\¬eK t (pos t.mask h ne)/\∀m,m<ne->eK t (pos t.mask h m):=by
 obtain⟨x,hx,fx⟩:=Js T;obtain⟨n,b,e⟩:=nA T.cov h hx;obtain⟨m,h1,h2,a⟩:=least (P:=fun m=>¬eK t (pos t.mask h m)) n (by rw[e];exact fx);exact⟨m,ω,h2,fun k hk=>Classical.byContradiction fun q=>a k hk q⟩
def xR(T:Tb t hs){hashAt:Nat->Int}{h:Int}:∀(d fuel n:Nat),(∀m,n<=m->m<n+d->∃i:Nat,t.place[i]?=some (pos t.mask h m)/\hashAt i≠h)->probe.go t hashAt h (fuel+d) (pr t.mask h n)=probe.go t hashAt h fuel (pr t.mask h (n+d))
 |0,fuel,n,_=>rfl
 |d+1,fuel,n,hm=>by
  obtain⟨i,e1,e2⟩:=hm n (Ag _) ω;have es:t.slot (pr t.mask h n).j=.live i:=kR T e1;have a:=xR T d fuel (n+1) (fun m h1 h2=>hm m ω ω);rw[show fuel+(d+1)=(fuel+d)+1 from ω,show n+(d+1)=n+1+d from ω,<-a];show(match t.slot (pr t.mask h n).j with
   |.empty=>some (Met.empty (pr t.mask h n).j (pr t.mask h n).dummy)
   |.dummy=>probe.go t hashAt h (fuel+d) (t.advance {(pr t.mask h n) with dummy:=some (pr t.mask h n).j})
   |.live i=>if hashAt i==h then some (Met.candidate (pr t.mask h n).j i (t.advance (pr t.mask h n))) else probe.go t hashAt h (fuel+d) (t.advance (pr t.mask h n)))=_
  rw[es];dsimp only;rw[if_neg (by simpa using e2)]
  rfl
def probe_spec(T:Tb t hs){hashAt:Nat->Int}{h:Int}{ne n:Nat}(v:ne<10*turns t.mask)(he:¬eK t (pos t.mask h ne))(hm:∀m,m<ne->eK t (pos t.mask h m))(w:n<=ne):(t.probe hashAt h (pr t.mask h n)=some (.empty (pos t.mask h ne) none)/\∀m i,n<=m->m<ne->t.place[i]?=some (pos t.mask h m)->hashAt i≠h) \/
  ∃(N i:Nat),n<=N/\N<ne/\t.place[i]?=some (pos t.mask h N)/\hashAt i=h/\t.probe hashAt h (pr t.mask h n)=some (.candidate (pos t.mask h N) i (pr t.mask h (N+1)))/\∀m f,n<=m->m<N->t.place[f]?=some (pos t.mask h m)->hashAt f≠h:=by
 by_cases q:∃N,n<=N/\N<ne/\∃i:Nat,t.place[i]?=some (pos t.mask h N)/\hashAt i=h
 ·right
  obtain⟨p,r⟩:=q;obtain⟨N,h1,⟨h2,s,i,l,o⟩,u⟩:=least (P:=fun N=>n<=N/\N<ne/\∃i:Nat,t.place[i]?=some (pos t.mask h N)/\hashAt i=h) p r;have g:∀m f,n<=m->m<N->t.place[f]?=some (pos t.mask h m)->hashAt f≠h:=fun m f a b c d=>u m b ⟨a,ω,f,c,d⟩;refine⟨N,i,h2,s,l,o,?_,g⟩;obtain⟨fuel,hf⟩:∃fuel,10*turns t.mask=(fuel+1)+(N-n):=⟨10*turns t.mask-(N-n)-1,ω⟩;unfold SetTable.probe;rw[hf,xR T (N-n) (fuel+1) n (fun m a b=>?_),show n+(N-n)=N from ω]
  ·show(match t.slot (pr t.mask h N).j with
    |.empty=>some (Met.empty (pr t.mask h N).j (pr t.mask h N).dummy)
    |.dummy=>probe.go t hashAt h fuel (t.advance {(pr t.mask h N) with dummy:=some (pr t.mask h N).j})
    |.live i=>if hashAt i==h then some (Met.candidate (pr t.mask h N).j i (t.advance (pr t.mask h N))) else probe.go t hashAt h fuel (t.advance (pr t.mask h N)))=_
   rw[show t.slot (pr t.mask h N).j=.live i from kR T l];dsimp only;rw[if_pos (by simpa using o)]
   rfl
  ·obtain⟨f,e⟩:=hm m ω
   exact⟨f,e,g m f a ω e⟩
 ·left
  have g:∀m i,n<=m->m<ne->t.place[i]?=some (pos t.mask h m)->hashAt i≠h:=fun m i a b c d=>q ⟨m,a,b,i,c,d⟩;refine⟨?_,g⟩;obtain⟨fuel,hf⟩:∃fuel,10*turns t.mask=(fuel+1)+(ne-n):=⟨10*turns t.mask-(ne-n)-1,ω⟩;unfold SetTable.probe;rw[hf,xR T (ne-n) (fuel+1) n (fun m a b=>?_),show n+(ne-n)=ne from ω]
  ·show(match t.slot (pr t.mask h ne).j with
    |.empty=>some (Met.empty (pr t.mask h ne).j (pr t.mask h ne).dummy)
    |.dummy=>probe.go t hashAt h fuel (t.advance {(pr t.mask h ne) with dummy:=some (pr t.mask h ne).j})
    |.live i=>if hashAt i==h then some (Met.candidate (pr t.mask h ne).j i (t.advance (pr t.mask h ne))) else probe.go t hashAt h fuel (t.advance (pr t.mask h ne)))=_
   rw[show t.slot (pr t.mask h ne).j=.empty from Jr T he];dsimp only;rw[DS]
   rfl
  ·obtain⟨f,e⟩:=hm m ω
   exact⟨f,e,g m f a ω e⟩
def Jt(T:Tb t hs){h:Int}{ne k j:Nat}(he:¬eK t (pos t.mask h ne))(hk:hs[k]?=some h)(a:t.place[k]?=some j):∃N,N<ne/\pos t.mask h N=j:=by
 obtain⟨n,e,hm⟩:=T.path k j h hk a;refine⟨n,?_,e⟩;rcases Nat.lt_trichotomy n ne with q|q|q
 ·exact q
 ·subst q;exact absurd ⟨k,by rw[e];exact a⟩ he
 ·exact absurd (hm ne q) he
def DY(T:Tb t hs){h:Int}{ne:Nat}(he:¬eK t (pos t.mask h ne))(hm:∀m,m<ne->eK t (pos t.mask h m))(hr:hs.size+1<=t.mask):(t.put (pos t.mask h ne)).2<=hs.size/\(t.put (pos t.mask h ne)).1.mask=t.mask/\Tb (t.put (pos t.mask h ne)).1 (insertAt hs (t.put (pos t.mask h ne)).2 h):=by
 have s:∀i:Nat,t.place[i]?≠some (pos t.mask h ne):=fun i e=>he ⟨i,e⟩;obtain⟨f,u,v⟩:=ni T.ris (pos t.mask h ne);have hb:below t.place (pos t.mask h ne)<=hs.size:=by rw[<-T.size];exact f
 have g:(t.put (pos t.mask h ne)).1.place=insertAt t.place (below t.place (pos t.mask h ne)) (pos t.mask h ne):=rfl;have mk:(t.put (pos t.mask h ne)).1.mask=t.mask:=rfl;have d:∀j,eK t j->∃r:Nat,(t.put (pos t.mask h ne)).1.place[r]?=some j:=fun j ⟨i,e⟩=>by
  by_cases q:i<below t.place (pos t.mask h ne)
  ·exact⟨i,by rw[g,e_ _ _ _ f,if_pos q];exact e⟩
  ·exact⟨i+1,by rw[g,e_ _ _ _ f,if_neg ω,if_neg ω,Nat.add_sub_cancel];exact e⟩
 refine⟨hb,mk,⟨?_,?_,?_,fun i j e=>?_,T.cov,T.odd,?_,fun k j h' e1 e2=>?_⟩⟩
 ·rw[g];exact Jn T.ris s
 ·show(if has t.dummies (pos t.mask h ne)=true then _ else t.dummies)=#[]
  rw[T.dum]
  rfl
 ·rw[g,nk _ _ _ f]
  show _=(insertAt hs (below t.place (pos t.mask h ne)) h).size;rw[nk _ _ _ hb,T.size]
 ·rw[g,e_ _ _ _ f] at e
  rw[mk]
  by_cases o:i<below t.place (pos t.mask h ne)
  ·rw[if_pos o] at e;exact T.le _ _ e
  ·rw[if_neg o] at e
   by_cases p:i=below t.place (pos t.mask h ne)
   ·rw[if_pos p] at e;cases e;exact eR _ _ _
   ·rw[if_neg p] at e;exact T.le _ _ e
 ·show(insertAt hs (below t.place (pos t.mask h ne)) h).size<=t.mask
  rw[nk _ _ _ hb];exact hr
 ·have c:(insertAt hs (below t.place (pos t.mask h ne)) h)[k]?=some h':=e1
  rw[e_ _ _ _ hb] at c;rw[g,e_ _ _ _ f] at e2;rw[mk]
  by_cases o:k<below t.place (pos t.mask h ne)
  ·rw[if_pos o] at c e2
   obtain⟨n,a,b⟩:=T.path k j h' c e2;exact⟨n,a,fun m l=>d _ (b m l)⟩
  ·rw[if_neg o] at c e2
   by_cases p:k=below t.place (pos t.mask h ne)
   ·rw[if_pos p] at c e2
    cases c;cases e2;exact⟨ne,rfl,fun m l=>d _ (hm m l)⟩
   ·rw[if_neg p] at c e2
    obtain⟨n,a,b⟩:=T.path (k-1) j h' c e2;exact⟨n,a,fun m l=>d _ (b m l)⟩
end
def qJ(finger moves:Nat)(led:Bool):Tb (SetTable.fresh finger moves led) #[]:=
 ⟨fun i j a b h=>by simp[SetTable.fresh] at h,rfl,rfl,fun i j h=>by simp[SetTable.fresh] at h,xL,show 7%2=1 from rfl,show 0<=7 from AK _,fun k j h e=>by simp at e⟩
def Own(owner:Array (Option Nat))(j:Nat):Prop:=∃q,owner[j]?=some (some q)
def dr(mask:Nat)(h:Int):Nat->Nat
 |0=>0
 |r+1=>dr mask h r+(runEnd mask (lp mask h r).1-(lp mask h r).1)+1
def Ju(mask:Nat)(h:Int){r R:Nat}(hr:r<=R):dr mask h r<=dr mask h R:=by
 induction hr with
 |refl=>exact Ag _
 |step _ ih=>exact AQ ih (by show _<=dr mask h _+_+1;omega)
def xS(mask:Nat)(h:Int):∀r,pr mask h (dr mask h r)={j:=(lp mask h r).1,more:=runEnd mask (lp mask h r).1-(lp mask h r).1,i:=(lp mask h r).1,perturb:=(lp mask h r).2,dummy:=none}
 |0=>rfl
 |r+1=>by
  show fm mask (pr mask h (dr mask h r+(runEnd mask (lp mask h r).1-(lp mask h r).1)))=_;rw[qE mask h (xS mask h r) _ (Ag _)];unfold fm;rw[if_neg (by show ¬(runEnd mask (lp mask h r).1-(lp mask h r).1-(runEnd mask (lp mask h r).1-(lp mask h r).1)>0);omega)]
  rfl
def xU{owner:Array (Option Nat)}{mask j:Nat}(b:owner.size=mask+1)(d:j<=mask):(owner.getD j (some 0)).isNone=true↔¬Own owner j:=by
 have a:j<owner.size:=ω
 have e:owner.getD j (some 0)=owner[j]:=by simp[Array.getD,a]
 have e2:owner[j]?=some owner[j]:=getElem?_pos owner j a;rw[e];constructor
 ·intro h ⟨q,hq⟩
  rw[e2] at hq;rw[An hq] at h;cases h
 ·intro h
  cases c:owner[j] with
  |none=>rfl
  |some q=>exact absurd ⟨q,by rw[e2,c]⟩ h
def Jv{mask:Nat}{owner:Array (Option Nat)}(d:owner.size=mask+1)(h:Int){ne R:Nat}(he:¬Own owner (pos mask h ne))(hm:∀m,m<ne->Own owner (pos mask h m))(hR:ne<=dr mask h R):∀(fuel r:Nat),dr mask h r<=ne->R<r+fuel->layClean.free mask owner fuel (lp mask h r).1 (lp mask h r).2=some (pos mask h ne):=by
 intro fuel
 induction fuel with
 |zero=>
  intro r h1 h2;have q:=Ju mask h (r:=R+1) (R:=r) ω;have:dr mask h (R+1)=dr mask h R+(runEnd mask (lp mask h R).1-(lp mask h R).1)+1:=rfl;omega
 |succ fuel ih=>
  intro r g hr;have walk:=qE mask h (xS mask h r);have b:∀k,k<=runEnd mask (lp mask h r).1-(lp mask h r).1->pos mask h (dr mask h r+k)=(lp mask h r).1+k:=fun k hk=>by
   unfold pos;rw[walk k hk]
  have e:(lp mask h r).1<=runEnd mask (lp mask h r).1:=by unfold runEnd;split<;>omega
  have a:∀k,k<=runEnd mask (lp mask h r).1-(lp mask h r).1->(lp mask h r).1+k<=mask:=fun k hk=>by rw[<-b k hk];exact eR _ _ _
  show(match (Bc (runEnd mask (lp mask h r).1+1-(lp mask h r).1)).find? (fun k=>(owner.getD ((lp mask h r).1+k) (some 0)).isNone) with
   |some k=>some ((lp mask h r).1+k)
   |none=>layClean.free mask owner fuel (leap mask (lp mask h r).1 (lp mask h r).2).1 (leap mask (lp mask h r).1 (lp mask h r).2).2)=_
  by_cases f:ne<=dr mask h r+(runEnd mask (lp mask h r).1-(lp mask h r).1)
  ·have c:(Bc (runEnd mask (lp mask h r).1+1-(lp mask h r).1)).find? (fun k=>(owner.getD ((lp mask h r).1+k) (some 0)).isNone)=some (ne-dr mask h r):=by
    rw[List.find?_range_eq_some];refine⟨?_,List.mem_range.mpr ω,fun k hk=>?_⟩
    ·show(owner.getD ((lp mask h r).1+(ne-dr mask h r)) (some 0)).isNone=true
     rw[xU d (a _ ω),<-b _ ω,show dr mask h r+(ne-dr mask h r)=ne from ω];exact he
    ·have q:¬(owner.getD ((lp mask h r).1+k) (some 0)).isNone=true:=by
      rw[xU d (a _ ω),<-b k ω];exact fun z=>z (hm _ ω)
     rw[Bool.not_eq_true] at q;rw[q]
     rfl
   rw[c];dsimp only;rw[<-b _ ω,show dr mask h r+(ne-dr mask h r)=ne from ω]
  ·have c:(Bc (runEnd mask (lp mask h r).1+1-(lp mask h r).1)).find? (fun k=>(owner.getD ((lp mask h r).1+k) (some 0)).isNone)=none:=by
    rw[List.find?_eq_none];intro k hk;have hk':=List.mem_range.mp hk;rw[xU d (a _ ω),<-b k ω];exact fun z=>z (hm _ ω)
   rw[c];dsimp only;refine ih (r+1) ?_ ω;show dr mask h r+(runEnd mask (lp mask h r).1-(lp mask h r).1)+1<=ne;omega
structure Lay(mask:Nat)(ah:List Int)(owner:Array (Option Nat))(k:Nat):Prop where
 size:owner.size=mask+1
 all:∀q:Nat,q<k->∃j:Nat,owner[j]?=some (some q)
 back:∀j q:Nat,owner[j]?=some (some q)->q<k
 one:∀(i j q:Nat),owner[i]?=some (some q)->owner[j]?=some (some q)->i=j
 path:∀(j q:Nat)(h:Int),owner[j]?=some (some q)->ah[q]?=some h->∃n,pos mask h n=j/\∀m,m<n->Own owner (pos mask h m)
def Lay.room{mask:Nat}{h:List Int}{owner:Array (Option Nat)}{k:Nat}(L:Lay mask h owner k)(hk:k<=mask):∃x,x<=mask/\¬Own owner x:=by
 apply Classical.byContradiction;intro d;have all:∀x,x<=mask->∃q,q<k/\owner[x]?=some (some q):=fun x hx=>by
  have:Own owner x:=Classical.byContradiction fun q=>d ⟨x,hx,q⟩;obtain⟨q,e⟩:=this;exact⟨q,L.back x q e,e⟩
 have sub:((Bc (mask+1)).map fun x=>(owner.getD x none).getD 0) ⊆ Bc k:=fun y hy=>by
  obtain⟨x,hx,e⟩:=List.mem_map.mp hy;obtain⟨q,hq,e2⟩:=all x (Nat.lt_succ_iff.mp (List.mem_range.mp hx));rw[Array.getD_eq_getD_getElem?,e2] at e;subst e;exact List.mem_range.mpr hq
 have g:((Bc (mask+1)).map fun x=>(owner.getD x none).getD 0).Nodup:=by
  refine List.nodup_iff_pairwise_ne.mpr (List.pairwise_map.mpr ?_);refine List.Pairwise.imp_of_mem ?_ (List.nodup_iff_pairwise_ne.mp (List.nodup_range (n:=mask+1)));intro a b f hb c e;obtain⟨q,_,e1⟩:=all a (Nat.lt_succ_iff.mp (List.mem_range.mp f));obtain⟨p,_,e2⟩:=all b (Nat.lt_succ_iff.mp (List.mem_range.mp hb));simp only[Array.getD_eq_getD_getElem?,e1,e2,Option.getD_some] at e;subst e;exact c (L.one a b q e1 e2)
 have:=g.length_le_of_subset sub;rw[Ab,List.length_range,List.length_range] at this;omega
def Jw{owner:Array (Option Nat)}{mask j k:Nat}(a:owner.size=mask+1)(b:j<=mask)(i:Nat):(owner.setIfInBounds j (some k))[i]?=if i=j then some (some k) else owner[i]?:=by
 by_cases q:i=j
 ·subst q
  rw[if_pos rfl,Array.getElem?_setIfInBounds_self_of_lt ω]
 ·rw[if_neg q,Array.getElem?_setIfInBounds_ne (Ne.symm q)]
def Lay.step{mask:Nat}{c:List Int}{owner:Array (Option Nat)}{k:Nat}{h:Int}(hc:eH mask)(L:Lay mask c owner k)(hk:k<=mask)(r:c[k]?=some h):∃j,layClean.free mask owner (turns mask) (bits h%(mask+1)) (bits h)=some j/\Lay mask c (owner.setIfInBounds j (some k)) (k+1):=by
 obtain⟨x,hx,fx⟩:=L.room hk;obtain⟨d,hd,e⟩:=hc (lp mask h 13).1 x (DW mask h 13) hx;have o:pos mask h (dr mask h (13+d))=x:=by
  unfold pos;rw[xS];show(lp mask h (13+d)).1=x;rw[xy,e]
 obtain⟨ne,h1,h2,l⟩:=least (P:=fun m=>¬Own owner (pos mask h m)) (dr mask h (13+d)) (by rw[o];exact fx);have hm:∀m,m<ne->Own owner (pos mask h m):=fun m q=>Classical.byContradiction fun z=>l m q z;refine⟨pos mask h ne,Jv L.size h h2 hm h1 (turns mask) 0 (AK _) (by unfold turns;omega),?_⟩;have p:pos mask h ne<=mask:=eR _ _ _;have sg:=Jw (k:=k) L.size p;have own:∀i,Own owner i->Own (owner.setIfInBounds (pos mask h ne) (some k)) i:=fun i ⟨q,e⟩=>by
  by_cases z:i=pos mask h ne
  ·exact⟨k,by rw[sg,if_pos z]⟩
  ·exact⟨q,by rw[sg,if_neg z];exact e⟩
 refine⟨by rw[Array.size_setIfInBounds];exact L.size,fun q hq=>?_,fun j q e=>?_,fun i j q e1 e2=>?_,fun j q h' e1 e2=>?_⟩
 ·by_cases z:q=k
  ·exact⟨pos mask h ne,by rw[sg,if_pos rfl,z]⟩
  ·obtain⟨j,f⟩:=L.all q ω
   refine⟨j,?_⟩;rw[sg,if_neg fun w=>h2 ⟨q,by rw[<-w];exact f⟩];exact f
 ·rw[sg] at e
  by_cases z:j=pos mask h ne
  ·rw[if_pos z] at e;cases e;omega
  ·rw[if_neg z] at e;have:=L.back j q e;omega
 ·rw[sg] at e1 e2
  by_cases g:i=pos mask h ne
  ·rw[if_pos g] at e1;cases e1
   by_cases z2:j=pos mask h ne
   ·omega
   ·rw[if_neg z2] at e2;have:=L.back j k e2;omega
  ·rw[if_neg g] at e1
   by_cases z2:j=pos mask h ne
   ·rw[if_pos z2] at e2;cases e2;have:=L.back i k e1;omega
   ·rw[if_neg z2] at e2;exact L.one i j q e1 e2
 ·rw[sg] at e1
  by_cases z:j=pos mask h ne
  ·rw[if_pos z] at e1;cases e1
   rw[r] at e2;cases e2;exact⟨ne,z.symm,fun m q=>own _ (hm m q)⟩
  ·rw[if_neg z] at e1
   obtain⟨n,a,b⟩:=L.path j q h' e1 e2;exact⟨n,a,fun m q=>own _ (b m q)⟩
def Lay.nil(mask:Nat)(b:List Int):Lay mask b (Array.replicate (mask+1) none) 0:=by
 have a:∀(j q:Nat),(Array.replicate (mask+1) (none:Option Nat))[j]?=some (some q)->False:=fun j q e=>by
  rw[Array.getElem?_replicate] at e;split at e<;>cases e
 exact⟨by simp,fun q h=>absurd h (Nat.not_lt_zero _),fun j q e=>(a j q e).elim,fun i j q e=>(a i q e).elim,fun j q h e=>(a j q e).elim⟩
def Jx{mask:Nat}(hc:eH mask)(c:Array Int)(hk:c.size<=mask+1):∃owner,layClean mask c=some owner/\Lay mask c.toList owner c.size:=by
 have go:∀(rest:List Int)(owner:Array (Option Nat))(k:Nat),Lay mask c.toList owner k->c.toList.drop k=rest->
   ∃f,(rest.foldl (fun acc h=>do
    let (owner,k) <-acc
    let j <-layClean.free mask owner (turns mask) (bits h%(mask+1)) (bits h)
    pure (owner.setIfInBounds j (some k),k+1)) (some (owner,k)))=some (f,k+rest.length)/\Lay mask c.toList f (k+rest.length):=by
  intro rest
  induction rest with
  |nil=>intro owner k L _;exact⟨owner,rfl,L⟩
  |cons h rest ih=>
   intro owner k L e;have d:k<c.toList.length:=by
    rcases Nat.lt_or_ge k c.toList.length with q|q
    ·exact q
    ·rw[List.drop_eq_nil_of_le q] at e;cases e
   have i:c.toList[k]?=some h:=by
    rw[List.drop_eq_getElem_cons d] at e;injection e with e1 _
    rw[Af d,e1]
   have l:c.toList.drop (k+1)=rest:=by
    rw[List.drop_eq_getElem_cons d] at e;injection e
   rw[Ay] at d;obtain⟨j,g,p⟩:=L.step hc ω i;obtain⟨o',a,b⟩:=ih (owner.setIfInBounds j (some k)) (k+1) p l;refine⟨o',?_,?_⟩
   ·rw[List.foldl_cons]
    show List.foldl _ (layClean.free mask owner (turns mask) (bits h%(mask+1)) (bits h) >>= fun j=>pure (owner.setIfInBounds j (some k),k+1)) rest=_;rw[g];show List.foldl _ (some (owner.setIfInBounds j (some k),k+1)) rest=_;rw[a,Au,show k+1+rest.length=k+(rest.length+1) from ω]
   ·rw[Au,show k+(rest.length+1)=k+1+rest.length from ω]
    exact b
 obtain⟨o,a,b⟩:=go c.toList _ 0 (Lay.nil mask _) rfl;rw[Nat.zero_add,Ay] at a b;refine⟨o,?_,b⟩;unfold layClean;rw[<-Array.foldl_toList,a]
 rfl
def cY(owner:Array (Option Nat))(n:Nat):List (Nat×Nat):=(Bc n).filterMap fun j=>(owner.getD j none).map (j,·)
def jb{owner:Array (Option Nat)}{n:Nat}{x:Nat×Nat}:x∈cY owner n↔x.1<n/\owner[x.1]?=some (some x.2):=by
 unfold cY;rw[List.mem_filterMap];constructor
 ·rintro⟨j,a,e⟩
  rw[Option.map_eq_some_iff] at e;obtain⟨q,e1,rfl⟩:=e;refine⟨List.mem_range.mp a,?_⟩;rw[Array.getD_eq_getD_getElem?] at e1;cases c:owner[j]? with
  |none=>rw[c] at e1;cases e1
  |some v=>rw[c] at e1;simp only[Option.getD_some] at e1;rw[e1]
 ·rintro⟨h1,h2⟩
  refine⟨x.1,List.mem_range.mpr h1,?_⟩;rw[Array.getD_eq_getD_getElem?,h2]
  rfl
def DZ(owner:Array (Option Nat))(n:Nat):(cY owner n).Pairwise fun x y=>x.1<y.1:=by
 unfold cY;refine List.Pairwise.filterMap (S:=fun x y:Nat×Nat=>x.1<y.1) _ ?_ (List.pairwise_lt_range (n:=n));intro a d h b hb e c;rw[Option.map_eq_some_iff] at hb c;obtain⟨_,_,rfl⟩:=hb;obtain⟨_,_,rfl⟩:=c;exact h
def Jy{mask:Nat}{r:List Int}{owner:Array (Option Nat)}{k:Nat}(L:Lay mask r owner k):(cY owner (mask+1)).length=k/\((cY owner (mask+1)).map (·.2)).Nodup:=by
 have d:((cY owner (mask+1)).map (·.2)).Nodup:=by
  refine List.nodup_iff_pairwise_ne.mpr (List.pairwise_map.mpr ?_);refine List.Pairwise.imp_of_mem ?_ (DZ owner (mask+1));intro a b f hb g e;have h1:=(jb.mp f).2;have h2:=(jb.mp hb).2;rw[<-e] at h2;have:=L.one _ _ _ h1 h2;omega
 refine⟨?_,d⟩;have h:(cY owner (mask+1)).map (·.2) ⊆ Bc k:=fun q hq=>by
  obtain⟨x,hx,rfl⟩:=List.mem_map.mp hq;exact List.mem_range.mpr (L.back _ _ (jb.mp hx).2)
 have i:Bc k ⊆ (cY owner (mask+1)).map (·.2):=fun q hq=>by
  obtain⟨j,c⟩:=L.all q (List.mem_range.mp hq);have l:j<mask+1:=by rw[<-L.size];exact(Array.getElem?_eq_some_iff.mp c).1
  exact List.mem_map.mpr ⟨(j,q),jb.mpr ⟨l,c⟩,rfl⟩
 have o:=d.length_le_of_subset h;have p:=(List.nodup_range (n:=k)).length_le_of_subset i;rw[Ab,List.length_range] at o;rw[List.length_range,Ab] at p;omega
def D0{mask:Nat}(hc:eH mask)(H:mask%2=1)(finger moves:Nat)(led plain:Bool)(c:Array Int)(hk:c.size<=mask):∃t d,laid mask finger moves led plain c=some (t,d)/\t.mask=mask/\t.led=led/\t.plain=plain/\d.size=c.size/\d.toList.Nodup/\(∀q∈d.toList,q<c.size)/\
   Tb t (d.map fun q=>(c[q]?).getD 0):=by
 obtain⟨owner,e,L⟩:=Jx hc c ω;obtain⟨u,w⟩:=Jy L;refine⟨_,_,by unfold laid;rw[e];exact rfl,rfl,rfl,rfl,?_,?_,?_,?_⟩
 ·show((cY owner (mask+1)).map (·.2)).toArray.size=_
  rw[Ai,Ab,u]
 ·exact w
 ·intro q hq
  obtain⟨x,hx,rfl⟩:=List.mem_map.mp (show q∈(cY owner (mask+1)).map (·.2) from hq);exact L.back _ _ (jb.mp hx).2
 ·have f:∀i:Nat,(((cY owner (mask+1)).map (·.1)).toArray)[i]?=((cY owner (mask+1))[i]?).map (·.1):=fun i=>by
   rw[List.getElem?_toArray,Aj]
  have C:∀i:Nat,(((cY owner (mask+1)).map (·.2)).toArray)[i]?=((cY owner (mask+1))[i]?).map (·.2):=fun i=>by
   rw[List.getElem?_toArray,Aj]
  have p:∀j,Own owner j->∃i:Nat,(((cY owner (mask+1)).map (·.1)).toArray)[i]?=some j:=fun j ⟨q,g⟩=>by
   have o:j<mask+1:=by rw[<-L.size];exact(Array.getElem?_eq_some_iff.mp g).1
   obtain⟨i,hi,z⟩:=List.mem_iff_getElem.mp (jb.mpr ⟨o,g⟩:(j,q)∈cY owner (mask+1));exact⟨i,by rw[f,Af hi,z];rfl⟩
  refine⟨fun i j a b v hb l=>?_,rfl,?_,fun i j g=>?_,hc,H,?_,fun k j h e1 e2=>?_⟩
  ·have D:((cY owner (mask+1))[i]?).map (·.1)=some a:=by rw[<-f];exact v
   have r:((cY owner (mask+1))[j]?).map (·.1)=some b:=by rw[<-f];exact hb
   obtain⟨x,ex,rfl⟩:=Option.map_eq_some_iff.mp D;obtain⟨y,A,rfl⟩:=Option.map_eq_some_iff.mp r;obtain⟨hi,rfl⟩:=List.getElem?_eq_some_iff.mp ex;obtain⟨o,rfl⟩:=List.getElem?_eq_some_iff.mp A;exact List.pairwise_iff_getElem.mp (DZ owner (mask+1)) i j hi o l
  ·show((cY owner (mask+1)).map (·.1)).toArray.size=(Array.map _ ((cY owner (mask+1)).map (·.2)).toArray).size
   rw[AV,Ai,Ai,Ab,Ab]
  ·have E:((cY owner (mask+1))[i]?).map (·.1)=some j:=by rw[<-f];exact g
   obtain⟨x,ex,rfl⟩:=Option.map_eq_some_iff.mp E;exact Nat.lt_succ_iff.mp (jb.mp (Ap ex)).1
  ·show(Array.map _ ((cY owner (mask+1)).map (·.2)).toArray).size<=mask
   rw[AV,Ai,Ab,u];exact hk
  ·have F:((cY owner (mask+1))[k]?).map (·.1)=some j:=by rw[<-f];exact e2
   obtain⟨x,ex,rfl⟩:=Option.map_eq_some_iff.mp F;have s:(Array.map (fun q=>(c[q]?).getD 0) ((cY owner (mask+1)).map (·.2)).toArray)[k]?=some h:=e1;rw[Array.getElem?_map,C,ex] at s;have hx:=(jb.mp (Ap ex)).2;have hq:=L.back _ _ hx;have G:c.toList[x.2]?=some h:=by
    rw[AD];have:c[x.2]?=some c[x.2]:=getElem?_pos c x.2 hq;simp only[A1,this,Option.getD_some] at s;rw[this,An s]
   obtain⟨n,a,b⟩:=L.path x.1 x.2 h hx G;exact⟨n,a,fun m hm=>p _ (b m hm)⟩
section
variable{prog:Program}{w:World}{K:Type}[DecidableEq K]{knd:KeyKind prog w K}{A:Around}{E:Ω}{s:Shared}
def fits_of{t:SetTable}{es:Array (Int×Value)}(T:Tb t (es.map (·.1))):t.fits es.size=true:=by
 have h1:=T.size;have h2:=T.room;rw[AV] at h1 h2;unfold SetTable.fits SetTable.fill;rw[T.dum,h1];simp;exact h2
def Jz(n:Nat){v:Value}(h:carriedByValue v=true):ofAClassStatement n v=pure false:=by
 cases v with
 |ref a=>simp[carriedByValue] at h
 |_=>cases n<;>rfl
def D6{ks:List K}{b:Addr}{Q:Bool->Shared->Prop}(hk:AH knd s.heap ks b)(h:Q false s):wpAny (model prog w) A (ofAClassStatement 8 (.ref b)) Q E s:=by
 have f:=hk.typeIs;obtain⟨o,d,n,e,_,hd,hi⟩:=hk;unfold ofAClassStatement;refine Aa (wpAny_typeOf f ?_);show wpAny _ _ ((if("tuple" == "tuple")=true then pure true else isSubtype (.type "tuple") (.type "tuple")) >>= _) _ _ s;rw[if_pos ξ];refine Aa (Ac ?_);simp only[A5,Ah,if_false];refine Aa (wpAny_seqItems e hd ?_);refine Aa ?_;show wpAny _ _ (forIn d _ _) _ _ s;rw[<-Array.forIn_toList];refine wpAny_forIn_list _ (fun rest r s'=>r.1=none/\s'=s/\∀v∈rest,carriedByValue v=true) _ ?_ ?_ _ _ ⟨rfl,rfl,hi.byValue⟩
 ·rintro v rest r s' ⟨hr,rfl,a⟩
  rw[Jz _ (a v Av)];refine Aa (Ac ?_);simp only[Ah,if_false];exact Ac ⟨rfl,rfl,fun u c=>a u (Ax _ c)⟩
 ·rintro⟨g,i⟩ s' ⟨hr,rfl,_⟩
  simp only at hr;subst hr;exact Ac h
def JA{ks:List K}{b:Addr}{ys:List Value}{Q:Bool->Shared->Prop}(hk:AH knd s.heap ks b)(hy:∀y∈ys,∃d c,y=.ref c/\AH knd s.heap d c)(h:Q false s):wpAny (model prog w) A (searchCouldBeSeen (.ref b) ys) Q E s:=by
 unfold searchCouldBeSeen;refine Aa ?_;refine wpAny_forIn_list _ (fun rest r s'=>r.1=none/\s'=s/\∀y∈rest,∃d c,y=.ref c/\AH knd s.heap d c) _ ?_ ?_ _ _ ⟨rfl,rfl,hy⟩
 ·rintro v rest r s' ⟨hr,rfl,a⟩
  obtain⟨d,c,rfl,hc⟩:=a v Av;have nx:∀u∈rest,∃d c,u=.ref c/\AH knd s'.heap d c:=fun u e=>a u (Ax _ e);dsimp only;split
  ·exact Ac ⟨rfl,rfl,nx⟩
  ·refine Aa (wpAny_eqIsQuiet_tuple hk ?_)
   simp only[A5,Ah,if_false];refine Aa (wpAny_eqIsQuiet_tuple hc ?_);simp only[A5,Ah,if_false];refine Aa (D6 hk ?_);simp only[Ah,if_false];refine Aa (D6 hc ?_);simp only[Ah,if_false];exact Ac ⟨rfl,rfl,nx⟩
 ·rintro⟨f,g⟩ s' ⟨hr,rfl,_⟩
  simp only at hr;subst hr;exact Ac h
structure TS(knd:KeyKind prog w K)(h:Heap)(S:Addr)(o:Obj)(es:Array (Int×Value))(ep:Nat)(t:SetTable)(ks:List (List K))(B:List Addr):Prop where
 at_:h.get? S=some o
 ex:o.ExactSet
 dt:o.data=.set es ep t
 tb:Tb t (es.map (·.1))
 sz:es.size=ks.length
 nd:ks.Nodup
 el:∀e∈es.toList,∃k b,k∈ks/\e=(At knd k,Value.ref b)/\AH knd h k b
 ke:∀k∈ks,∃b,(At knd k,Value.ref b)∈es.toList/\AH knd h k b
 msk:(t.mask=7/\es.size<=4)\/(t.mask=31/\es.size<=18)\/(t.mask=127/\es.size<=76)\/(t.mask=15/\es.size<=8)\/(t.mask=63/\es.size<=37)\/(t.mask=255/\es.size<=152)
 ad:∀e∈es.toList,∃b∈B,e.2=Value.ref b
 wk:w.params.followText "set-order"=true\/(t.led=true/\t.plain=true)
def D7{B:List Addr}{S:Addr}{o:Obj}{es:Array (Int×Value)}{ep:Nat}{t:SetTable}{ks:List (List K)}(X:TS knd s.heap S o es ep t ks B)(hu:A.units<cLine){k:List K}{b:Addr}(hk:AH knd s.heap k b){ne:Nat}(F:ne<10*turns t.mask)(he:¬eK t (pos t.mask (At knd k) ne))(hm:∀m,m<ne->eK t (pos t.mask (At knd k) m)){add:Bool}{Q:SetFound->Shared->Prop}(h1:k∈ks->∀r:Option Nat,(add=false->r.isSome=true)->Q (.there r) s)(h2:k∉ks->Q (.free (pos t.mask (At knd k) ne) false) s):∀(fuel n:Nat)(f:Option Probe),ne<n+fuel->n<=ne->f.getD (t.probeStart (At knd k))=pr t.mask (At knd k) n->
   (∀(m i:Nat)(c:Addr),m<n->t.place[i]?=some (pos t.mask (At knd k) m)->es[i]?=some (At knd k,Value.ref c)->¬AH knd s.heap k c)->
   wpAny (model prog w) A (setSearchFrom S (.ref b) (At knd k) add fuel f) Q E s:=by
 have T:=X.tb;have v:=fits_of T;have Z:∀i:Nat,(es.map (·.1))[i]?=(es[i]?).map (·.1):=fun i=>Array.getElem?_map ..;intro fuel
 induction fuel with
 |zero=>intro n f L G _ _;omega
 |succ fuel ih=>
  intro n f L G M H;unfold setSearchFrom;refine Aa (AW X.at_ X.dt v ?_);dsimp only;have gw:t.gaveWay=false:=by
   unfold SetTable.gaveWay;rw[T.odd]
   rfl
  rw[gw];simp only[Ah,if_false];rw[M];rcases probe_spec T (hashAt:=fun i=>((es[i]?).map (·.1)).getD 0) F he hm G with ⟨di,none_⟩|⟨N,i,b1,b2,b3,b4,b5,b6⟩
  ·have mX:t.probe (fun i=>((es[i]?).map (·.1)).getD 0) (At knd k) (pr t.mask (At knd k) n)=some (.empty (pos t.mask (At knd k) ne) none):=di
   show wpAny _ _ (match t.probe (fun i=>((es[i]?).map (·.1)).getD 0) (At knd k) (pr t.mask (At knd k) n) with|some met=>_|_=>_) _ _ s;rw[mX];dsimp only;refine Ac (h2 fun l=>?_);obtain⟨c,O,P⟩:=X.ke k l;obtain⟨i,hi,a⟩:=List.mem_iff_getElem.mp O;have x:es[i]?=some (At knd k,.ref c):=by
    rw[<-AD,Af hi,a]
   have C:i<t.place.size:=by rw[T.size,AV];simpa using hi
   have D:t.place[i]?=some t.place[i]:=getElem?_pos t.place i C;obtain⟨N,U,J⟩:=Jt T he (k:=i) (by rw[Z,x];rfl) D;rcases Nat.lt_or_ge N n with q|q
   ·exact H N i c q (by rw[J];exact D) x P
   ·exact none_ N i q U (by rw[J];exact D) (by show((es[i]?).map (·.1)).getD 0=_;rw[x];rfl)
  ·show wpAny _ _ (match t.probe (fun i=>((es[i]?).map (·.1)).getD 0) (At knd k) (pr t.mask (At knd k) n) with|some met=>_|_=>_) _ _ s
   rw[b5];dsimp only;have hi:i<es.size:=by
    have:=(Array.getElem?_eq_some_iff.mp b3).1;rw[T.size,AV] at this;exact this
   have a:es[i]?=some es[i]:=getElem?_pos es i hi;obtain⟨h,c,hk',W,hc⟩:=X.el es[i] (by simp);rw[W] at a;have eh:At knd h=At knd k:=by
    have:((es[i]?).map (·.1)).getD 0=At knd k:=b4;rw[a] at this;exact this
   rw[eh] at a;have j:t.sameMemory t.moves t.mask=some true:=by unfold SetTable.sameMemory;rw[if_pos (by simp)]
   have d:h≠k->wpAny (model prog w) A (setSearchFrom S (.ref b) (At knd k) add fuel (some (pr t.mask (At knd k) (N+1)))) Q E s:=fun eq=>by
    refine ih (N+1) _ ω ω rfl fun m i2 p q1 u g I=>?_;rcases Nat.lt_or_ge m n with z|z
    ·exact H m i2 p z u g I
    ·rcases Nat.lt_or_ge m N with z2|z2
     ·exact b6 m i2 z z2 u (by show((es[i2]?).map (·.1)).getD 0=_;rw[g];rfl)
     ·have:m=N:=ω
      subst this;have:=T.ris.inj u b3;subst this;rw[a] at g;cases g;exact eq (IsTupleKey.inj hc I)
   cases led:t.led
   all_goals simp only[A5,Bool.not_false,Ah,if_true,if_false]
   ·refine Aa (JA hk (fun y hy=>?_) ?_)
    ·obtain⟨e,he',rfl⟩:=List.mem_map.mp hy
     rw[Array.toList_filter] at he';obtain⟨k2,p,_,e2,Y⟩:=X.el e (List.mem_filter.mp he').1;exact⟨k2,p,by rw[e2],Y⟩
    simp only[Ah,if_false];rw[a];refine Aa (AA (wpAny_eqBool_tuple hu hc hk ?_));refine Aa (AW X.at_ X.dt v ?_)
    by_cases eq:h=k
    ·subst eq
     cases add
     ·simp only[decide_true,Bool.false_and,Ah,if_false]
      rw[j];simp only[if_true];rw[kR T b3];dsimp only;rw[a];refine Aa (wpAny_isSame_ref_self (Aa (Ac ?_)));simp only[if_true];exact Ac (h1 hk' _ fun _=>rfl)
     ·simp only[decide_true,Bool.and_self,if_true]
      exact Ac (h1 hk' _ fun z=>by cases z)
    ·rw[decide_eq_false eq]
     simp only[Bool.and_false,Ah,if_false];rw[j];simp only[if_true];rw[kR T b3];dsimp only;rw[a];refine Aa (wpAny_isSame_ref_self (Aa (Ac ?_)));simp only[if_true];exact d eq
   ·rw[a]
    refine Aa (AA (wpAny_eqBool_tuple hu hc hk ?_));refine Aa (AW X.at_ X.dt v ?_)
    by_cases eq:h=k
    ·subst eq
     cases add
     ·simp only[decide_true,Bool.false_and,Ah,if_false]
      rw[j];simp only[if_true];rw[kR T b3];dsimp only;rw[a];refine Aa (wpAny_isSame_ref_self (Aa (Ac ?_)));simp only[if_true];exact Ac (h1 hk' _ fun _=>rfl)
     ·simp only[decide_true,Bool.and_self,if_true]
      exact Ac (h1 hk' _ fun z=>by cases z)
    ·rw[decide_eq_false eq]
     simp only[Bool.and_false,Ah,if_false];rw[j];simp only[if_true];rw[kR T b3];dsimp only;rw[a];refine Aa (wpAny_isSame_ref_self (Aa (Ac ?_)));simp only[if_true];exact d eq
def iq{h h':Heap}{S b:Addr}{k:List K}{o:Obj}{es ep t}(hk:AH knd h k b)(f:h.get? S=some o)(hd:o.data=.set es ep t)(hs:AN S h h'):AH knd h' k b:=by
 obtain⟨o',e,n,c,hc,a,hi⟩:=hk;have d:b≠S:=by
  rintro rfl;obtain rfl:o'=o:=An (c.symm.trans f);rw[hd] at a;exact nomatch a
 exact⟨o',e,n,(hs.2 b d).trans c,hc,a,hi⟩
def JB{ks:List K}{b:Addr}{Q:Bool->Shared->Prop}(g:∀k v n,knd.is k v=true->hashByValue n v=pure true)(hk:AH knd s.heap ks b)(h:Q true s):wpAny (model prog w) A (hashByValue 8 (.ref b)) Q E s:=by
 have f:=hk.typeIs;obtain⟨o,d,n,e,_,hd,hi⟩:=hk;unfold hashByValue;refine Aa (wpAny_specialOf f F.slot_tuple_hash.lookup ?_);dsimp only;refine Aa (wpAny_seqItems e hd ?_);refine Aa ?_;show wpAny _ _ (forIn d _ _) _ _ s;rw[<-Array.forIn_toList];refine wpAny_forIn_list _ (fun rest r s'=>r.1=none/\s'=s/\∃c,ItemsAre knd c rest) _ ?_ ?_ _ _ ⟨rfl,rfl,ks,hi⟩
 ·rintro v rest r s' ⟨hr,rfl,c,a⟩
  cases a with
  |@cons k _ ks'' _ h1 h2=>
   rw[g k v 7 h1];refine Aa (Ac ?_);simp only[A5,Ah,if_false];exact Ac ⟨rfl,rfl,ks'',h2⟩
 ·rintro⟨i,j⟩ s' ⟨hr,rfl,_⟩
  simp only at hr;subst hr;exact Ac h
def qM{h:Heap}{S:Addr}{o:Obj}{es:Array (Int×Value)}{ep:Nat}{t:SetTable}{es':Array (Int×Value)}{t':SetTable}(a:h.get? S=some o)(hd:o.data=.set es ep t):(h.update S (Obj.putSet es' t')).get? S=some {o with data:=.set es' (ep+1) t'}:=by
 have:=Heap.get?_update_self (Obj.putSet es' t') a (by rw[putSet_of es' t' hd];rfl);rw[putSet_of es' t' hd] at this;exact this
def xX{b:Type}{es:Array b}:∀{l:List Nat},(∀q∈l,q<es.size)->∃a:List b,l.filterMap (es[·]?)=a/\a.length=l.length/\(∀x∈a,x∈es.toList)/\(∀(i q:Nat),l[i]?=some q->a[i]?=es[q]?)
 |[],_=>⟨[],rfl,rfl,(fun x hx=>by cases hx),(fun i q e=>by cases i<;>simp at e)⟩
 |q::l,h=>by
  obtain⟨a,e1,e2,e3,c⟩:=xX (l:=l) fun x hx=>h x (Ax _ hx);have hq:=h q Av;refine⟨es[q]::a,?_,by rw[Au,Au,e2],fun x hx=>?_,fun i p e=>?_⟩
  ·rw[List.filterMap_cons,getElem?_pos es q hq,e1]
  ·rcases List.mem_cons.mp hx with rfl|hx
   ·simp
   ·exact e3 x hx
  ·cases i with
   |zero=>simp at e;subst e;simp[getElem?_pos es q hq]
   |succ i=>simp at e ⊢;exact c i p e
def D8{B:List Addr}{S:Addr}{o:Obj}{es:Array (Int×Value)}{ep:Nat}{t:SetTable}{ks:List (List K)}{want m2:Nat}(f:s.heap.get? S=some o)(hex:o.ExactSet)(hd:o.data=.set es ep t)(T:Tb t (es.map (·.1)))(hsz:es.size=ks.length)(P:ks.Nodup)(ad:∀e∈es.toList,∃b∈B,e.2=Value.ref b)(U:∀e∈es.toList,∃k b,k∈ks/\e=(At knd k,Value.ref b)/\AH knd s.heap k b)(W:∀k∈ks,∃b,(At knd k,Value.ref b)∈es.toList/\AH knd s.heap k b)(hw:SetTable.sizeAbove want-1=m2)(X:SetTable.sizeAbove want<=sizeLine)(hc:eH m2)(Y:m2%2=1)(hr:es.size<=m2)(hz:es.size<=1000)(Z:(m2=7/\es.size<=4)\/(m2=31/\es.size<=18)\/(m2=127/\es.size<=76)\/(m2=15/\es.size<=8)\/(m2=63/\es.size<=37)\/(m2=255/\es.size<=152))(wk:w.params.followText "set-order"=true\/(t.led=true/\t.plain=true)){Q:Unit->Shared->Prop}(h:∀h' o' es' G t',TS knd h' S o' es' G t' ks B->AN S s.heap h'->Q () {s with heap:=h'}):wpAny (model prog w) A (setRelay S want) Q E s:=by
 have N:=fits_of T;unfold setRelay;refine Aa (AW f hd N ?_);dsimp only;rw[if_neg (Nat.not_lt.mpr X)];obtain⟨d,a,e1,e2,e3,H,l,I,g,J⟩:=D0 hc Y t.finger (t.movedTo m2) t.led t.plain (es.map (·.1)) (by rw[AV];exact hr);have O:t.relaid (es.map (·.1)) want=some (d,a):=by
  unfold SetTable.relaid;rw[hw];exact e1
 rw[AV] at l g;obtain⟨c,f1,f2,f3,f4⟩:=xX (es:=es) g;have D:a.filterMap (es[·]?)=c.toArray:=by
  apply Array.toList_inj.mp;rw[Array.toList_filterMap,f1]
 have j:c.length=es.size:=by rw[f2,Ay,l]
 rw[O];refine Aa ?_;show wpAny _ _ (ite (((a.filterMap (es[·]?)).size != es.size)=true) _ _) _ _ _;rw[if_neg (by rw[D,Ai,j];simp),D];refine Ac ?_;dsimp only;have v:(c.toArray.map (·.1))=a.map fun q=>((es.map (·.1))[q]?).getD 0:=by
  apply Array.ext_getElem?;intro i;rw[Array.getElem?_map,Array.getElem?_map,List.getElem?_toArray];cases q:a[i]? with
  |none=>
   have:a.toList.length<=i:=by rw[Ay];exact Array.getElem?_eq_none_iff.mp q
   rw[List.getElem?_eq_none ω]
   rfl
  |some p=>
   have e:=f4 i p (by rw[AD];exact q);have hp:=g p (by rw[<-AD] at q;exact Ap q);rw[e,getElem?_pos es p hp];simp[hp]
 have T2:Tb d (c.toArray.map (·.1)):=by rw[v];exact J
 have y:∀q,q<es.size->q∈a.toList:=fun q hq=>Classical.byContradiction fun z=>by
  have C:(q::a.toList).Nodup:=List.nodup_cons.mpr ⟨z,I⟩;have sub:(q::a.toList) ⊆ Bc es.size:=fun x hx=>by
   rcases List.mem_cons.mp hx with rfl|hx
   ·exact List.mem_range.mpr hq
   ·exact List.mem_range.mpr (g x hx)
  have:=C.length_le_of_subset sub;rw[Au,Ay,l,List.length_range] at this;omega
 refine wpAny_storeSet_of f hd ?_ (by rw[Ai,j,sizeLine_eq];omega);refine h _ {o with data:=.set c.toArray (ep+1) d} c.toArray (ep+1) d ?_ (AR ..);have F:AN S s.heap (s.heap.update S (Obj.putSet c.toArray d)):=AR ..;refine⟨qM f hd,hex,rfl,T2,by rw[Ai,j];exact hsz,P,fun e he=>?_,fun k hk=>?_,?_,fun e he=>ad e (f3 e he),by rw[e3,H];exact wk⟩
 ·obtain⟨k,b,r,u,L⟩:=U e (f3 e he)
  exact⟨k,b,r,u,iq L f hd F⟩
 ·obtain⟨b,r,u⟩:=W k hk
  refine⟨b,?_,iq u f hd F⟩;obtain⟨q,hq,eq⟩:=List.mem_iff_getElem.mp r;rw[Ay] at hq;obtain⟨i,hi,M⟩:=List.mem_iff_getElem.mp (y q hq);have e:=f4 i q (by rw[Af hi,M]);refine Ap (i:=i) ?_;rw[e,<-eq];simp[hq]
 ·rw[e2,Ai,j]
  exact Z
def ins_map{a b:Type}(f:a->b)(xs:Array a)(p:Nat)(x:a)(hp:p<=xs.size):(insertAt xs p x).map f=insertAt (xs.map f) p (f x):=by
 apply Array.ext_getElem?;intro i;rw[Array.getElem?_map,e_ _ _ _ hp,e_ _ _ _ (by rw[AV];exact hp),Array.getElem?_map,Array.getElem?_map]
 by_cases h1:i<p
 ·rw[if_pos h1,if_pos h1]
 ·rw[if_neg h1,if_neg h1]
  by_cases h2:i=p
  ·rw[if_pos h2,if_pos h2];rfl
  ·rw[if_neg h2,if_neg h2]
def ins_mem{a:Type}{xs:Array a}{p:Nat}{x y:a}(hp:p<=xs.size):y∈(insertAt xs p x).toList↔y=x\/y∈xs.toList:=by
 constructor
 ·intro h
  obtain⟨i,hi,e⟩:=List.mem_iff_getElem.mp h;have e2:(insertAt xs p x)[i]?=some y:=by rw[<-AD,Af hi,e]
  rw[e_ _ _ _ hp] at e2
  by_cases h1:i<p
  ·rw[if_pos h1,<-AD] at e2;exact .inr (Ap e2)
  ·rw[if_neg h1] at e2
   by_cases h2:i=p
   ·rw[if_pos h2] at e2;exact .inl (An e2).symm
   ·rw[if_neg h2,<-AD] at e2;exact .inr (Ap e2)
 ·rintro(rfl|h)
  ·refine Ap (i:=p) ?_
   rw[AD,e_ _ _ _ hp,if_neg (Nat.lt_irrefl _),if_pos rfl]
  ·obtain⟨i,hi,e⟩:=List.mem_iff_getElem.mp h
   have e2:xs[i]?=some y:=by rw[<-AD,Af hi,e]
   by_cases h1:i<p
   ·refine Ap (i:=i) ?_
    rw[AD,e_ _ _ _ hp,if_pos h1];exact e2
   ·refine Ap (i:=i+1) ?_
    rw[AD,e_ _ _ _ hp,if_neg ω,if_neg ω,Nat.add_sub_cancel];exact e2
def xZ{B:List Addr}{S:Addr}{o:Obj}{es:Array (Int×Value)}{ep:Nat}{t:SetTable}{ks:List (List K)}(X:TS knd s.heap S o es ep t ks B)(hu:A.units<cLine)(hv:∀k v n,knd.is k v=true->hashByValue n v=pure true){k:List K}{b:Addr}(hk:AH knd s.heap k b)(jS:b∈B)(hn:ks.length<60){Q:Bool->Shared->Prop}(h:∀(r:Bool) h' o' es' cg t',TS knd h' S o' es' cg t' (if k∈ks then ks else ks++[k]) B->AN S s.heap h'->Q r {s with heap:=h'}):wpAny (model prog w) A (setAddHashed S (.ref b) (At knd k)) Q E s:=by
 unfold setAddHashed;refine AA ?_;have T:=X.tb;have bM:=fits_of T;have X':TS knd s.heap S o es ep t ks B:=X;unfold setAddHashedIn;refine Aa (AW (s:=s) X.at_ X.dt bM ?_);dsimp only;have nb:byScan (.ref b) es=false:=rfl;rw[nb];simp only[Ah,if_false];obtain⟨ne,G,he,hm⟩:=xO T (At knd k);refine Aa ?_;unfold setSearch;refine D7 (s:=s) X' hu hk G he hm (fun P r0 _=>?_) (fun bG=>?_) 100000 0 none ?_ (AK _) rfl (fun m i c fF=>absurd fF (Nat.not_lt_zero _))
 ·dsimp only
  refine Ac (h false s.heap o es ep t ?_ (Heap.SameBut.refl ..));rw[if_pos P];exact X
 ·dsimp only
  refine Aa (AW (s:=s) X.at_ X.dt bM ?_);dsimp only;have cG:(es.map (·.1)).size+1<=t.mask:=by
   rw[AV];rcases X.msk with ⟨a,b⟩|⟨a,b⟩|⟨a,b⟩|⟨a,b⟩|⟨a,b⟩|⟨a,b⟩<;>omega
  obtain⟨p1,p2,p3⟩:=DY T he hm cG;rw[AV] at p1;obtain⟨j,p,c0⟩:∃j p,t.put (pos t.mask (At knd k) ne)=(j,p):=⟨_,_,rfl⟩;rw[c0] at p1 p2 p3 ⊢;dsimp only at p1 p2 p3 ⊢;have Z:k∉ks:=bG;have F:(insertAt es p (At knd k,Value.ref b)).size=es.size+1:=nk _ _ _ p1;have H:=X.sz;have cO:es.size<60:=ω
  have I:∀d:SetTable,Tb d (insertAt (es.map (·.1)) p (At knd k))->d.mask=t.mask->wpAny (model prog w) A (storeSet S (insertAt es p (At knd k,Value.ref b)) d)
    (fun _ s'=>∃h',s'={s with heap:=h'}/\h'.get? S=some {o with data:=.set (insertAt es p (At knd k,Value.ref b)) (ep+1) d}/\AN S s.heap h') E s:=fun d T2 m2=>
   wpAny_storeSet_of (s:=s) X.at_ X.dt ⟨_,rfl,qM X.at_ X.dt,AR ..⟩ (by rw[F,sizeLine_eq];omega)
  have J:(insertAt es p (At knd k,Value.ref b)).map (·.1)=insertAt (es.map (·.1)) p (At knd k):=ins_map (·.1) es p _ p1;have jt:(ks++[k]).Nodup:=by
   rw[List.nodup_append];refine⟨X.nd,by simp,fun x hx y hy=>?_⟩;rw[List.mem_singleton.mp hy];exact fun z=>Z (z▸hx)
  have L:∀h',AN S s.heap h'->∀e∈(insertAt es p (At knd k,Value.ref b)).toList,∃D u,D∈ks++[k]/\e=(At knd D,Value.ref u)/\AH knd h' D u:=fun h' g e he=>by
   rcases(ins_mem p1).mp he with rfl|he
   ·exact⟨k,b,by simp,rfl,iq hk X.at_ X.dt g⟩
   ·obtain⟨D,u,W,Y,a3⟩:=X.el e he
    exact⟨D,u,List.mem_append_left _ W,Y,iq a3 X.at_ X.dt g⟩
  have M:∀h',AN S s.heap h'->∀D∈ks++[k],∃u,(At knd D,Value.ref u)∈(insertAt es p (At knd k,Value.ref b)).toList/\AH knd h' D u:=fun h' g D hk'=>by
   rcases List.mem_append.mp hk' with hk'|hk'
   ·obtain⟨u,W,Y⟩:=X.ke D hk'
    exact⟨u,(ins_mem p1).mpr (.inr W),iq Y X.at_ X.dt g⟩
   ·rw[List.mem_singleton.mp hk']
    exact⟨b,(ins_mem p1).mpr (.inl rfl),iq hk X.at_ X.dt g⟩
  have N:∀e∈(insertAt es p (At knd k,Value.ref b)).toList,∃u∈B,e.2=Value.ref u:=fun e he=>by
   rcases(ins_mem p1).mp he with rfl|he
   ·exact⟨b,jS,rfl⟩
   ·exact X.ad e he
  have C:∀(d:SetTable)(h':Heap),Tb d (insertAt (es.map (·.1)) p (At knd k))->d.mask=t.mask->(w.params.followText "set-order"=true\/(d.led=true/\d.plain=true))->h'.get? S=some {o with data:=.set (insertAt es p (At knd k,Value.ref b)) (ep+1) d}->AN S s.heap h'->
    wpAny (model prog w) A (if(!false&&d.tooFull)=true then(setRelay S (SetTable.grown (es.size+1)) >>= fun _=>pure true) else pure true) Q E {s with heap:=h'}:=fun d h' T2 m2 rE hg g=>by
   have T2':Tb d ((insertAt es p (At knd k,Value.ref b)).map (·.1)):=by rw[J];exact T2
   have fl:d.fill=es.size+1:=by
    unfold SetTable.fill;rw[T2'.dum,T2'.size,AV,F]
    rfl
   have tf:d.tooFull=decide ((es.size+1)*5 ≥ t.mask*3):=by unfold SetTable.tooFull;rw[fl,m2]
   have lk:es.size+1=(ks++[k]).length:=by rw[Aw,H];rfl
   have stay:((es.size+1)*5<t.mask*3)->((d.mask=7/\es.size+1<=4)\/(d.mask=31/\es.size+1<=18)\/(d.mask=127/\es.size+1<=76)\/(d.mask=15/\es.size+1<=8)\/(d.mask=63/\es.size+1<=37)\/(d.mask=255/\es.size+1<=152))->wpAny (model prog w) A (if(!false&&d.tooFull)=true then(setRelay S (SetTable.grown (es.size+1)) >>= fun _=>pure true) else pure true) Q E {s with heap:=h'}:=fun q mk=>by
    rw[tf,decide_eq_false ω];simp only[Bool.and_false,Ah,if_false];refine Ac (h true h' {o with data:=.set (insertAt es p (At knd k,Value.ref b)) (ep+1) d} (insertAt es p (At knd k,Value.ref b)) (ep+1) d ?_ g);rw[if_neg Z];exact⟨hg,X.ex,rfl,T2',by rw[F];exact lk,jt,L h' g,M h' g,by rw[F];exact mk,N,rE⟩
   have f:∀l n,es.size+1=n->((es.size+1)*5 ≥ t.mask*3)->SetTable.sizeAbove (SetTable.grown n)-1=l->SetTable.sizeAbove (SetTable.grown n)<=1000->eH l->l%2=1->es.size+1<=l->((l=7/\es.size+1<=4)\/(l=31/\es.size+1<=18)\/(l=127/\es.size+1<=76)\/(l=15/\es.size+1<=8)\/(l=63/\es.size+1<=37)\/(l=255/\es.size+1<=152))->
     wpAny (model prog w) A (if(!false&&d.tooFull)=true then(setRelay S (SetTable.grown (es.size+1)) >>= fun _=>pure true) else pure true) Q E {s with heap:=h'}:=fun l n en q w1 w2 c1 c2 c3 mk=>by
    rw[tf,decide_eq_true q];simp only[Bool.not_false,Bool.and_self,if_true];subst en;refine Aa (D8 (s:={s with heap:=h'}) (ks:=ks++[k]) hg X.ex rfl T2' (by rw[F];exact lk) jt N (L h' g) (M h' g) w1 (by rw[sizeLine_eq];omega) c1 c2 (by rw[F];exact c3) (by rw[F];omega) (by rw[F];exact mk) rE fun gv k9 gl gc lc wK nB=>?_);refine Ac (h true gv k9 gl gc lc ?_ (g.trans nB));rw[if_neg Z];exact wK
   rcases X.msk with ⟨a,c⟩|⟨a,c⟩|⟨a,c⟩|⟨a,c⟩|⟨a,c⟩|⟨a,c⟩
   ·by_cases q:es.size+1<=4
    ·exact stay ω (.inl ⟨ω,q⟩)
    ·exact f 31 5 ω ω δ δ gd rfl ω (.inr (.inl ⟨rfl,ω⟩))
   ·by_cases q:es.size+1<=18
    ·exact stay ω (.inr (.inl ⟨ω,q⟩))
    ·exact f 127 19 ω ω δ δ ge rfl ω (.inr (.inr (.inl ⟨rfl,ω⟩)))
   ·exact stay ω (.inr (.inr (.inl ⟨ω,ω⟩)))
   ·by_cases q:es.size+1<=8
    ·exact stay ω (.inr (.inr (.inr (.inl ⟨ω,q⟩))))
    ·exact f 63 9 ω ω δ δ i9 rfl ω (.inr (.inr (.inr (.inr (.inl ⟨rfl,ω⟩)))))
   ·by_cases q:es.size+1<=37
    ·exact stay ω (.inr (.inr (.inr (.inr (.inl ⟨ω,q⟩)))))
    ·exact f 255 38 ω ω δ δ jI rfl ω (.inr (.inr (.inr (.inr (.inr ⟨rfl,ω⟩)))))
   ·exact stay ω (.inr (.inr (.inr (.inr (.inr ⟨ω,ω⟩)))))
  have O:w.params.followText "set-order"=true\/(j.led=true/\j.plain=true):=by
   have e1:j=(t.put (pos t.mask (At knd k) ne)).1:=by rw[c0]
   have e2:j.led=t.led:=by rw[e1];rfl
   have e3:j.plain=t.plain:=by rw[e1];rfl
   rw[e2,e3];exact X.wk
  cases hpl:j.plain with
  |true=>
   simp only[if_true];refine Aa (JB (s:=s) hv hk ?_);simp only[if_true];refine Aa (wpAny_mono (I j p3 p2) (fun _ s' U=>?_) fun _ _ e=>e);obtain⟨h',rfl,g1,g2⟩:=U;exact C j h' p3 p2 O g1 g2
  |false=>
   simp only[Ah,if_false];refine Aa (Ac ?_);simp only[if_true];refine Aa (wpAny_mono (I j p3 p2) (fun _ s' U=>?_) fun _ _ e=>e);obtain⟨h',rfl,g1,g2⟩:=U;exact C j h' p3 p2 O g1 g2
 ·have:t.mask<=255:=by rcases X.msk with ⟨a,_⟩|⟨a,_⟩|⟨a,_⟩|⟨a,_⟩|⟨a,_⟩|⟨a,_⟩<;>omega
  unfold turns at G;omega
def JC{B:List Addr}{S:Addr}{o:Obj}{es:Array (Int×Value)}{ep:Nat}{t:SetTable}{ks:List (List K)}(X:TS knd s.heap S o es ep t ks B)(hu:A.units<cLine)(a:∀k v n,knd.is k v=true->hashByValue n v=pure true){k:List K}{b:Addr}(hk:AH knd s.heap k b)(c:b∈B)(d:ks.length<60){Q:Bool->Shared->Prop}(h:∀(r:Bool) h' o' es' cg t',TS knd h' S o' es' cg t' (if k∈ks then ks else ks++[k]) B->AN S s.heap h'->Q r {s with heap:=h',toks:=s.toks+(k.length+1)}):wpAny (model prog w) A (setAdd S (.ref b)) Q E s:=by
 unfold setAdd;exact AA (Aa (wpAny_pyHash_tuple hu hk (xZ (s:={s with toks:=s.toks+(k.length+1)}) X hu a hk c d h)))
end
end STb
end
section
namespace STb
def dd{a:Type}[DecidableEq a](l:List a):List a:=l.foldl (fun acc x=>if x∈acc then acc else acc++[x]) []
def gY{a:Type}[DecidableEq a](l:List a)(x:a):dd (l++[x])=if x∈dd l then dd l else dd l++[x]:=by unfold dd;rw[List.foldl_append];rfl
def fo{a:Type}[DecidableEq a](l:List a):(dd l).length<=l.length:=by
 have:∀(l acc:List a),(l.foldl (fun acc x=>if x∈acc then acc else acc++[x]) acc).length<=acc.length+l.length:=by
  intro l
  induction l with
  |nil=>intro acc;simp
  |cons x l ih=>
   intro acc;rw[List.foldl_cons];refine AQ (ih _) ?_;split
   ·rw[Au];omega
   ·rw[Aw,Au,Au,List.length_nil];omega
 simpa[dd] using this l []
def fv{a:Type}[DecidableEq a](l:List a)(x:a):x∈dd l↔x∈l:=by
 have:∀(l acc:List a),x∈(l.foldl (fun acc x=>if x∈acc then acc else acc++[x]) acc)↔x∈acc\/x∈l:=by
  intro l
  induction l with
  |nil=>intro acc;simp
  |cons y l ih=>
   intro acc;rw[List.foldl_cons,ih]
   by_cases h:y∈acc
   ·rw[if_pos h,List.mem_cons]
    constructor
    ·rintro(q|q)
     ·exact .inl q
     ·exact .inr (.inr q)
    ·rintro(q|q|q)
     ·exact .inl q
     ·subst q;exact .inl h
     ·exact .inr q
   ·rw[if_neg h,List.mem_append,Bd,List.mem_cons]
    constructor
    ·rintro((q|q)|q)
     ·exact .inl q
     ·exact .inr (.inl q)
     ·exact .inr (.inr q)
    ·rintro(q|q|q)
     ·exact .inl (.inl q)
     ·exact .inl (.inr q)
     ·exact .inr q
 simpa[dd] using this l []
def jd{c:Type}[DecidableEq c](l:List c):(dd l).Nodup:=by
 have:∀(l acc:List c),acc.Nodup->(l.foldl (fun acc x=>if x∈acc then acc else acc++[x]) acc).Nodup:=by
  intro l
  induction l with
  |nil=>intro acc h;exact h
  |cons y l ih=>
   intro acc h;rw[List.foldl_cons]
   by_cases q:y∈acc
   ·rw[if_pos q];exact ih acc h
   ·rw[if_neg q]
    refine ih _ ?_;rw[List.nodup_append];refine⟨h,by simp,fun a d b hb e=>?_⟩;rw[Bd] at hb;subst hb;subst e;exact q d
 exact this l [] List.nodup_nil
def JD{a:Type}[DecidableEq a](l m:List a):(dd (l++m)).length<=(dd l).length+m.length:=by
 have:∀(m acc:List a),(m.foldl (fun acc x=>if x∈acc then acc else acc++[x]) acc).length<=acc.length+m.length:=by
  intro m
  induction m with
  |nil=>intro acc;simp
  |cons x l ih=>
   intro acc;rw[List.foldl_cons];refine AQ (ih _) ?_;split
   ·rw[Au];omega
   ·rw[Aw,Au,Au,List.length_nil];omega
 unfold dd;rw[List.foldl_append];exact this m _
def JE{a:Type}[DecidableEq a](l:List a)(h:∀(k:Nat) x,l[k]?=some x->x∉l.take k):dd l=l:=by
 have:∀k,k<=l.length->dd (l.take k)=l.take k:=by
  intro k
  induction k with
  |zero=>intro _;rfl
  |succ k ih=>
   intro hk;have hx:l[k]?=some l[k]:=Af ω;rw[List.take_add_one,hx];show dd (l.take k++[l[k]])=_;rw[gY,ih ω,if_neg (h k _ hx)]
   rfl
 have q:=this l.length (Ag _);rw[Az (Ag _)] at q;exact q
def JF{a:Type}[DecidableEq a](l:List a){k:Nat}{x:a}(h:l[k]?=some x)(hx:x∈l.take k):(dd l).length<l.length:=by
 have hk:k<l.length:=(List.getElem?_eq_some_iff.mp h).1;have e:l=(l.take k++[x])++l.drop (k+1):=by
  have:=List.take_append_drop (k+1) l;rw[List.take_add_one,h] at this;exact this.symm
 have h1:=JD (l.take k++[x]) (l.drop (k+1));rw[<-e,gY,if_pos ((fv _ _).mpr hx)] at h1;have h2:=fo (l.take k);rw[AJ] at h2;rw[List.length_drop] at h1;omega
def D9{a:Type}[DecidableEq a](l:List a):(dd l).length<l.length↔∃(k:Nat)(x:a),l[k]?=some x/\x∈l.take k:=by
 constructor
 ·intro h
  apply Classical.byContradiction;intro n;have:=JE l fun k x e hx=>n ⟨k,x,e,hx⟩;rw[this] at h;exact Nat.lt_irrefl _ h
 ·rintro⟨k,x,e,hx⟩
  exact JF l e hx
end STb
end
section
set_option maxHeartbeats 3200000
namespace STb
open PySem PySem.SetTable PyProof.Rows
section
variable{prog:Program}{w:World}{K:Type}[DecidableEq K]{knd:KeyKind prog w K}{A:Around}{R:Result->Shared->Prop}{I:Addr}{fp wr:List Addr}{G:Array GenState->Array GenState->Prop}{n:Nat}{P:Nat->Value->Prop}{St:Nat->Shared->Prop}
def TS.moved{B:List Addr}{h h':Heap}{S:Addr}{o:Obj}{es:Array (Int×Value)}{ep:Nat}{t:SetTable}{ks:List (List K)}(X:TS knd h S o es ep t ks B)(a:h'.get? S=some o)(hk:∀k b,AH knd h k b->AH knd h' k b):TS knd h' S o es ep t ks B:=
 ⟨a,X.ex,X.dt,X.tb,X.sz,X.nd,fun e he=>let ⟨k,b,a1,a2,a3⟩:=X.el e he;⟨k,b,a1,a2,hk k b a3⟩,fun k hk'=>let ⟨b,a1,a2⟩:=X.ke k hk';⟨b,a1,hk k b a2⟩,X.msk,X.ad,X.wk⟩
def jK{h h':Heap}{k:List K}{b:Addr}(hk:AH knd h k b)(e:∀o,h.get? b=some o->h'.get? b=some o):AH knd h' k b:=by
 obtain⟨o,a,n,c,r⟩:=hk;exact⟨o,a,n,e o c,r⟩
def JG{B:List Addr}(W:WalksS prog w A.in1 I fp wr G n P St)(hu:A.in1.units<cLine)(hv:∀k v n,knd.is k v=true->hashByValue n v=pure true)(S:Addr)(l:S∉fp)(vals:List (List K))(adr:Nat->Addr)(hn:vals.length=n)(hB:∀i,i<n->adr i∈B)(hz:n<=59)(p:∀i v,P i v->v=.ref (adr i))(hna:∀b o,(∃u m,o.cls=Value.type "tuple"/\o.data=.seq u m)->∀s i,St i s->s.heap.get? b=some o->b∉wr):∀(k i:Nat)(s:Shared),n-i=k->i<=n->St i s->(∃o es ep t,TS knd s.heap S o es ep t (dd (vals.take i)) B)->(∀(j:Nat)(x:List K),vals[j]?=some x->AH knd s.heap x (adr j))->
   (∀s',Moved (S::wr) G s s'->(∃o es ep t,TS knd s'.heap S o es ep t (dd vals) B)->R (.ok (.ret .none)) s')->codeAny (model prog w) A (.builtin "set.update.loop" ⟨[.ref S,.ref I],[]⟩) R s:=by
 have f:S∉wr:=fun h=>l (W.sub _ h);have M:∀b∈wr,b∈S::wr:=fun b hb=>Ax _ hb;have y:∀{i:Nat}{s s':Shared}{x:List K}{b:Addr},St i s->Moved wr G s s'->AH knd s.heap x b->AH knd s'.heap x b:=fun{i s s' x b} a hm hk=>by
  obtain⟨o,u,m,L,hc,hd,hi⟩:=id hk;exact⟨o,u,m,hm.heap b o (hna b o ⟨u,m,hc,hd⟩ s i a L) L,hc,hd,hi⟩
 intro k
 induction k with
 |zero=>
  intro i s hk hi a C D hR;have H:i=n:=ω
  subst H;refine A0 F.entry_set_update_loop ?_;rw[AZ F.plain_set_update_loop _];show wpAny _ A.in1 (pyNext (.ref I) >>= _) _ _ s;refine Aa (W.done s _ _ a fun s' hm=>?_);show wpAny _ A.in1 (ret Value.none) _ _ s';refine Ac (hR s' (hm.mono M) ?_);obtain⟨o,es,ep,t,X⟩:=C;rw[Az ω] at X;exact⟨o,es,ep,t,X.moved (hm.heap S _ f X.at_) fun k b hk=>y a hm hk⟩
 |succ k ih=>
  intro i s hk hi a C D hR;have c:i<n:=ω
  refine A0 F.entry_set_update_loop ?_;rw[AZ F.plain_set_update_loop _];show wpAny _ A.in1 (pyNext (.ref I) >>= _) _ _ s;refine Aa (W.item i s _ _ c a fun v s' O Q hm=>?_);obtain rfl:=p i v O;obtain⟨o,es,ep,t,X⟩:=C;have X':TS knd s'.heap S o es ep t (dd (vals.take i)) B:=X.moved (hm.heap S _ f X.at_) fun k b hk=>y a hm hk;have hx:vals[i]?=some vals[i]:=Af ω;have g:=fo (vals.take i);rw[AJ] at g;show wpAny _ A.in1 (holding [Value.ref (adr i)] (setAdd S (.ref (adr i))) >>= _) _ _ s';refine Aa (AA (JC X' hu hv (y a hm (D i _ hx)) (hB i c) ω fun r h' o' es' J t' z E=>?_));have N:s'.toks<=s'.toks+(vals[i].length+1):=Nat.le_add_right _ _;have fA:St (i+1) {s' with heap:=h',toks:=s'.toks+(vals[i].length+1)}:=W.frame _ s' _ _ Q N fun b hb T e=>by
   rw[E.2 b (fun h:b=S=>l (by rw[<-h];exact hb))];exact e
  have d:vals.take (i+1)=vals.take i++[vals[i]]:=by rw[List.take_add_one,hx];rfl
  have X3:TS knd h' S o' es' J t' (dd (vals.take (i+1))) B:=by
   rw[d,gY]
   by_cases q:vals[i]∈dd (vals.take i)
   ·rw[if_pos q] at z ⊢;exact z
   ·rw[if_neg q] at z ⊢;exact z
  refine Ac ⟨plainId_quiet F.plain_set_update_loop _,ih (i+1) _ ω c fA ⟨o',es',J,t',X3⟩ (fun j x U=>iq (y a hm (D j x U)) X'.at_ X'.dt E) fun Y Z iA=>?_⟩;refine hR Y (Moved.trans W.gtrans ((hm.mono M).then_heap N fun b T hb e=>?_) Z) iA;rw[E.2 b (fun h:b=S=>hb (by rw[h];exact Av))];exact e
end
end STb
end
section
namespace STb
open PySem PySem.SetTable PyProof.Rows
section
variable{prog:Program}{w:World}{K:Type}[DecidableEq K]{knd:KeyKind prog w K}{A:Around}{E:Ω}{s:Shared}
def x8(a:Value){Q₁:Ω}(h:Q₁ (.ref s⁻¹) {s with heap:=s.heap.push {cls:=.type "set",dict:=none,data:=.set #[] 0 (.fresh 0 0 (!w.params.followText "set-order"))}}):codeAny (model prog w) A (.call (.builtin "set.__new__") ⟨[.type "set",a],[]⟩) (wants Q₁ E) s:=by
 refine codeAny_of_tree (show wpAny _ A.in1 (do checkBuiltinCall "set.__new__" ⟨[.type "set",a],[]⟩;again (.builtin "set.__new__" ⟨[.type "set",a],[]⟩)) _ _ s from Aa (wpAny_of_eq (F.newCall_set_1 a) (Ac ⟨plainId_quiet F.plain_set_new _,A0 F.entry_set_new ?_⟩)));rw[AZ F.plain_set_new _];unfold Builtin.«set.__new__» Builtin.Frozenset.newClass;have b:=sub_set_self;obtain⟨hp,g,d,tk,os⟩:=s;dsimp only;wp_walk;refine wpAny_askSetting (Ac ?_);dsimp only;simp only[newObj];exact Aa (wpAny_alloc (Ac (Ac h)))
def D_{B:List Addr}{l:Addr}{a:Array Value}{vals:List (List K)}{adr:Nat->Addr}{Q:Ω}(hh:A.handled=none)(hl:s.heap.IsList l a)(hu:A.units+64<cLine)(hv:∀k v n,knd.is k v=true->hashByValue n v=pure true)(hz:a.size<=59)(hn:vals.length=a.size)(hB:∀i,i<a.size->adr i∈B)(ap:∀(i:Nat) v,a[i]?=some v->v=.ref (adr i))(hT:∀(j:Nat) x,vals[j]?=some x->AH knd s.heap x (adr j))(h:∀h' tk,(∃o es ep t,TS knd h' s⁻¹ o es ep t (dd vals) B)->(∀b o,b<s⁻¹->s.heap.get? b=some o->h'.get? b=some o)->Q (.ref s⁻¹) {s with heap:=h',toks:=tk}):wpAny (model prog w) A (call (.type "set") [.ref l]) Q E s:=by
 obtain⟨c,tl,fJ⟩:=F.called_set.mro;have fu:=F.called_set.made;have aJ:=F.called_set.sub;refine wpAny_call (codeAny_of_tree ?_);show wpAny _ _ (callAny (.type "set") _) _ _ _;refine Ac ⟨Code.quiet_builtin _ δ,A0 F.entry_type_call ?_⟩;rw[Around.under_plain (weight_type_call_type "set" [.ref l] []) rfl];have h1:=F.called_set.notType;have h2:=F.called_set.canCreate;have nu:=F.typeCall_set_1 (.ref l)
 repeat(any_goals(first|assumption|wp_step))
 refine codeAny_mono (x8 (.ref l) (E:=E) (Q₁:=fun obj G=>∃led:Bool,(w.params.followText "set-order"=true\/led=true)/\obj=.ref s⁻¹/\G={s with heap:=s.heap.push {cls:=.type "set",dict:=none,data:=.set #[] 0 (.fresh 0 0 led)}}) ⟨_,by cases w.params.followText "set-order" <;> simp,rfl,rfl⟩) fun r G hr=>?_;cases r with
 |error e=>exact hr
 |ok fl=>
  cases fl with
  |ret obj=>
   obtain⟨led,S,rfl,rfl⟩:=hr;have M:(s.heap.push {cls:=.type "set",dict:=none,data:=.set #[] 0 (.fresh 0 0 led)}).get? s⁻¹=some {cls:=.type "set",dict:=none,data:=.set #[] 0 (.fresh 0 0 led)}:=Ak _ rfl;have Z:Shared.TypeIs {s with heap:=s.heap.push {cls:=.type "set",dict:=none,data:=.set #[] 0 (.fresh 0 0 led)}} (.ref s⁻¹) "set":=⟨_,M,rfl⟩;have mI:=F.called_set.init.lookup;have oz:=F.called_set.init.bind (.ref s⁻¹)
   repeat(any_goals(first|assumption|wp_step))
   refine codeAny_mono (codeAny_call_builtin (R:=wants (fun r H=>r=.none/\∃h' tk,H={s with heap:=h',toks:=tk}/\
     (∃o es ep t,TS knd h' s⁻¹ o es ep t (dd vals) B)/\
     (∀b o,b<s⁻¹->s.heap.get? b=some o->h'.get? b=some o)) E) F.called_set.init.plain F.entry_set_init (check_set_init_1 Z ?_)) fun O H u=>?_
   ·obtain⟨T,I,d,J,L⟩:=hl
    obtain⟨oW,U,jq,W⟩:=T;simp only at d L;subst d;subst L;have gB:(s.heap.push {cls:=.type "set",dict:=none,data:=.set #[] 0 (.fresh 0 0 led)}).get? l=some {cls:=.type "list",dict:=U,data:=.seq a J,slots:=W}:=Ae _ I;have oN:=F.sub_list_set;have oo:=F.sub_list_frozenset;have hne:(Value.type "list" == Value.type "dict")=false:=ξ
    have f:(s.heap.push {cls:=.type "set",dict:=none,data:=.set #[] 0 (.fresh 0 0 led)}).IsList l a:=⟨_,gB,rfl,J,rfl⟩;unfold Builtin.«set.__init__» noKeywords Builtin.Frozenset.updateFrom;generalize hPI:pyIter=PI
    wp_walk
    subst hPI;refine wpAny_pyIter_list f ?_;refine Aa (wpAny_runValue ?_);have N:l<s⁻¹:=Al I;have oB:A.in1.in1.in1.handled=none:=by simp[hh]
    have g:l≠(s.heap.push {cls:=.type "set",dict:=none,data:=.set #[] 0 (.fresh 0 0 led)}).objs.size:=by
     rw[Heap.size_push];exact Aq (Ba N)
    have C:s⁻¹∉[(s.heap.push {cls:=.type "set",dict:=none,data:=.set #[] 0 (.fresh 0 0 led)}).objs.size,l]:=by
     rw[Heap.size_push];simp only[List.mem_cons,Bd,List.not_mem_nil,or_false,not_or];exact⟨Aq (Nat.lt_succ_self _),Nat.ne_of_gt N⟩
    refine JG (knd:=knd) ((Walks.list oB _ l g a).toS) (by show A.units+1+1+1<cLine;omega) hv s⁻¹ C vals adr hn hB hz (fun i v q=>ap i v q) (fun b o P s' i st e hb=>?hna)
     (a.size-0) 0 _ ω (AK _) ⟨⟨_,Ak _ rfl,rfl,rfl⟩,(f.push _)⟩ ⟨{cls:=.type "set",dict:=none,data:=.set #[] 0 (.fresh 0 0 led)},#[],0,.fresh 0 0 led,?hS0⟩ (fun j x hx=>jK (hT j x hx) fun o e=>Ae _ (Ae _ e)) ?hR
    case hna=>
     obtain⟨⟨oi,e1,e2,_⟩,_⟩:=st;obtain⟨af,m,hc,_⟩:=P;simp only[Bd] at hb;subst hb;have e3:=An (e1.symm.trans e);rw[<-e3,e2] at hc;exact absurd hc ξ
    case hS0=>
     have p:((s.heap.push {cls:=.type "set",dict:=none,data:=.set #[] 0 (.fresh 0 0 led)}).push {cls:=.type "list_iterator",data:=.fields #[.ref l,.int 0 0]}).get? s⁻¹
      =some {cls:=.type "set",dict:=none,data:=.set #[] 0 (.fresh 0 0 led)}:=Ae _ M
     exact⟨p,⟨rfl,rfl,rfl⟩,rfl,(by simpa using qJ 0 0 led),rfl,List.nodup_nil,fun e he=>by simp at he,fun k hk=>by simp[dd] at hk,.inl ⟨rfl,AK _⟩,(fun e he=>by simp at he),S.imp id fun z=>⟨z,rfl⟩⟩
    case hR=>
     intro s' hm y;obtain⟨h',g',d',X,Y⟩:=s';have eg:g'=s.gens:=hm.gens;have ed:d'=s.drawn:=hm.drawn;have eo:Y=s.os:=hm.os;subst eg;subst ed;subst eo;show wpAny _ _ _ _ _ _;refine Ac ?_;show wpAny _ _ (ret Value.none) _ _ _;refine Ac ⟨rfl,h',X,rfl,y,fun b o hb e=>?_⟩;have D:b≠s⁻¹:=Aq hb;have aS:b≠(s.heap.push {cls:=.type "set",dict:=none,data:=.set #[] 0 (.fresh 0 0 led)}).objs.size:=by
      rw[Heap.size_push];exact Aq (Ba hb)
     exact hm.heap b o (by simp only[List.mem_cons,Bd,List.not_mem_nil,or_false,not_or];exact⟨D,aS⟩) (Ae _ (Ae _ e))
   ·cases O with
    |error e=>exact u
    |ok fl₂=>
     cases fl₂ with
     |ret r=>
      obtain⟨rfl,h',tk,rfl,y,hk'⟩:=u
      repeat(any_goals(first|assumption|wp_step))
      exact h _ _ y hk'
     |_=>exact u.elim
  |_=>exact hr.elim
end
end STb
namespace L2
open PySem PySem.Spec PyProof.Rows
def gg(D:Addr)(n:Nat):HO:=.ext fun h=>∃o es ep t,h.get? D=some o/\o.ExactSet/\o.data=.set es ep t/\t.fits es.size=true/\es.size=n/\n<=100
section
variable{X:Cx}
def qP{prog:Program}{w:World}:∀(k:Int)(v:Value)(n:Nat),(intKind prog w).is k v=true->hashByValue n v=pure true:=by
 intro k v n h;obtain⟨t,rfl⟩:=Value.isInt_shape h;cases n<;>rfl
def x_{prog:Program}{w:World}{h:Heap}{c:Addr}{cs:List Value}{a:List Int}(hc:IsTup h c cs.toArray)(hi:IntsAre cs a):AH (intKind prog w) h a c:=by
 obtain⟨o,e,b,k,d⟩:=hc;refine⟨o,cs.toArray,k,e,b,d,?_⟩;have:∀{cs:List Value}{a:List Int},IntsAre cs a->ItemsAre (intKind prog w) a cs:=by
  intro cs a hi
  induction hi with
  |nil=>exact .nil
  |cons n t h ih=>exact .cons (by show Value.isInt n (.int n t)=true;simp[Value.isInt]) ih
 simpa using this hi
def JH(hc:X.calm=true)(hu:X.A.units+64<cLine):z0 X (.type "set") (fun xs H Q=>∃(l:Addr)(as:List Addr)(pss:Ξ),xs=[.ref l]/\SqL X.K H l (as.map V.ref)/\Tps H as pss/\pss.length<=59/\
  ∀D,H D=none->Q (.ref D) (upd H D (gg D (STb.dd pss).length))):=by
 intro aa s σ H xs us Q I r h;obtain⟨l,as,pss,rfl,hq,hp,L,q⟩:=h;obtain⟨u,rfl,z⟩:=vals1 r;cases z;obtain⟨C,E,p1,_⟩:=I.list hq;obtain rfl:=aM E;have G:=hp.length;refine STb.D_ (B:=as) (knd:=intKind X.prog X.w) (vals:=pss) (adr:=fun i=>as.getD i 0) (I.ok.hd hc) p1.isList hu qP (by rw[Ai,Ab];omega) (by rw[Ai,Ab];omega) (fun i hi=>by rw[Ai,Ab] at hi;rw[AL,Af hi];exact A3 hi)
  (fun i v e=>?_) (fun j x e=>?_) fun h' tk ⟨o,es,ep,t,T⟩ g=>?_
 ·have d:(as.map Value.ref)[i]?=some v:=by simpa using e
  rw[Aj] at d;cases c:as[i]? with
  |none=>rw[c] at d;simp at d
  |some a=>
   rw[c] at d;rw[<-An d,AL,c]
   rfl
 ·have J:j<as.length:=by rw[G];exact(List.getElem?_eq_some_iff.mp e).1
  have c:as[j]?=some as[j]:=Af J;obtain⟨M,e1,e2⟩:=hp.get c;rw[e] at e1;obtain rfl:=An e1;obtain⟨C,F,p2,_⟩:=I.tuple (SqT.of (K:=X.K) e2);rw[AL,c];exact x_ p2 (intsAre_of F)
 ·have f:=STb.fo pss
  refine⟨.ref s⁻¹,_,I.laid (o:=gg s⁻¹ (STb.dd pss).length) (fun b u e=>g b u (Al e) e) (Ag _) ?_,rfl,q _ (I.hok.fresh (Ag _))⟩;refine⟨⟨o,es,ep,t,T.at_,T.ex,T.dt,STb.fits_of T.tb,T.sz,ω⟩,⟨o,T.at_⟩,fun h1 h2 ⟨o',es',p,t',g1,g2⟩ y=>⟨o',es',p,t',y _ g1,g2⟩⟩
def JI:z0 X (.builtin "len") (fun xs H Q=>∃D n,xs=[.ref D]/\H D=some (gg D n)/\Q (.int n) H):=by
 intro aa s σ H xs us Q I r h;obtain⟨D,n,rfl,hq,q⟩:=h;obtain⟨u,rfl,a⟩:=vals1 r;cases a;obtain⟨⟨o,es,ep,t,h1,h2,b,c,d,e⟩,_⟩:=(show zC X.prog X.w H s.heap D (gg D n) from I.hok D _ hq);exact call_len_set h1 h2 b c ω ⟨.int n,H,I.tok _,⟨_,by rw[d]⟩,q⟩
end
end L2
end
section
namespace Spl
open PySem PySem.Spec PySem.Builtin PySem.Builtin.Str PyProof.Rows
section
variable{prog:Program}{w:World}{A:Around}{E:Ω}{s:Shared}{x y:PySem.Str}{t u:Tok}{Q:Ω}
def split1(hy:(y.length==0)=false)(h:∀(l:List (PySem.Str×Tok)) k,l.map (·.1)=Txt.split x y->Q (.ref s⁻¹) {s with heap:=s.heap.push {cls:=.type "list",data:=.seq (strValues l).toArray},toks:=k})(hsz:x.length+2<=sizeLine):wpAny (model prog w) A (call (.builtin "str.split") [.str x t,.str y u]) Q E s:=by
 have a:(partsBetween x (occurrences x y 0 x.length (x.length+1)) y.length).length<=sizeLine:=by
  have e1:=StrLaws.occ_length_le x y 0 x.length (x.length+1);rw[length_partsBetween];omega
 cases h1:(decide (x.length<y.length)|| decide (strKind x<strKind y))
 ·cases hf:(occurrences x y 0 x.length (x.length+1)).isEmpty
  ·refine call_meets F.slot_str_split (typeIs_str _ _ _) F.entry_str_split (F.args_str_split_2 _ _) (meets_str_split_sep x y t u h1 hy hf ω a) ?_
   show wants Q E _ {s with toks:=_,heap:=s.heap.push {cls:=.type "list",data:=.seq (strsFrom s.toks (partsBetween x (occurrences x y 0 x.length (x.length+1)) y.length)).toArray}};rw[strsFrom_eq];exact h (numbered s.toks _) _ ((numbered_texts _ _).trans ((if_neg (ne_true_of_eq_false h1)).trans (if_neg (ne_true_of_eq_false hf))).symm)
  ·exact call_meets F.slot_str_split (typeIs_str _ _ _) F.entry_str_split (F.args_str_split_2 _ _) (meets_str_split_not_found x y t u h1 hy hf)
    (h [(x,t)] s.toks ((if_neg (ne_true_of_eq_false h1)).trans (if_pos hf)).symm)
 ·exact call_meets F.slot_str_split (typeIs_str _ _ _) F.entry_str_split (F.args_str_split_2 _ _) (meets_str_split_cannot_occur x y t u h1)
   (h [(x,t)] s.toks (if_pos h1).symm)
end
end Spl
namespace L2
open PySem PySem.Spec PyProof.Rows
section
variable{X:Cx}
def Ea:∀(l:List (PySem.Str×Tok)),Vals ((l.map (·.1)).map V.str) (strValues l)
 |[]=>.nil
 |p::l=>.cons ⟨p.2,rfl⟩ (Ea l)
def zn4:V->List V->Hp->VK->Prop:=fun x vs H Q=>∃z y,x=.str z/\vs=[.str y]/\(y.length==0)=false/\z.length+2<=sizeLine/\(Txt.split z y).length<=sizeLine/\∀D,H D=none->Q (.ref D) (upd H D (.lst ((Txt.split z y).map V.str)))
def JJ:kA X "str.split" zn4:=by
 intro aa s σ H x vs v us Q I a c h;obtain⟨z,y,rfl,rfl,hy,d,f,q⟩:=h;obtain⟨t,rfl⟩:=a;obtain⟨u,rfl,g⟩:=c.one;obtain⟨t',rfl⟩:=g;refine Spl.split1 hy (fun l k e=>?_) d;refine⟨.ref s⁻¹,_,I.laid (t':=k) (o:=.lst ((Txt.split z y).map V.str)) (fun b ob q=>Ae _ q) (Ag _) ?_,rfl,q _ (I.hok.fresh (Ag _))⟩;refine⟨by rw[Ab];exact f,strValues l,0,?_,Ak _ rfl⟩;rw[<-e];exact Ea l
def qR(x:PySem.Str):It:=⟨fun i _=>i<x.cps.size,fun i H v H'=>H'=H/\∃c,x.cps[i]?=some c/\v=.str ⟨#[c]⟩,fun i _=>i=x.cps.size⟩
def Eb{P:Program}{w:World}{K:Ad}{tg:Expr}(x:PySem.Str)(it:Addr)(T:String)(q:["enumerate","zip","dict_itemiterator","dict_reverseitemiterator","odict_iterator","itertools.zip_longest","itertools.pairwise"].contains T=false)(t:Tok)(W:∀A':Around,A'.handled=none->Walks P w A' it [it] [it] x.cps.size (SignAt x) (fun i h=>h.IsStrIter it T x t i))(r:∀(A:Around)(i:Nat)(s:Shared)(Q:Ω)(E:Ω),s.heap.IsStrIter it T x t i->Q (.ref it) s->wpAny (model P w) A (pyIter (.ref it)) Q E s):Turn P w K tg (qR x) [it] it (fun i h=>h.IsStrIter it T x t i) where
 mem:=by simp
 obj:=fun i h st b hb=>by
  have e:b=it:=by simpa using hb
  subst e;obtain⟨o,e,c,d⟩:=st;exact⟨o,e,fun v z=>by rw[d] at z;cases z⟩
 keep:=fun i h h' st k=>by
  obtain⟨o,e,c⟩:=st;exact⟨o,k it (by simp) o e,c⟩
 item:=by
  intro X a hw f hc i aa s σ H E I hf st g;subst a hw f;obtain⟨f0,f1,f2,f3,f4,f5⟩:=hf it (by simp);refine(W X.A (I.ok.hd hc)).item i s _ _ g st fun v h' tk p l j=>?_;obtain⟨c,u,hx,rfl⟩:=p;have y:Inv X aa σ H {s with heap:=h',toks:=tk}:=I.turned (fun b o hb e=>j b o (by simpa using hb) e) f0 f1 f3 f4 f5;obtain⟨o,e1,e2,e3⟩:=id l;exact⟨_,rfl,iN (s:={s with heap:=h',toks:=tk}) e1 e2 e3 q ⟨.str ⟨#[c]⟩,H,y,⟨u,rfl⟩,⟨rfl,c,hx,rfl⟩,l,fun b hb=>(hf b hb).1⟩⟩
 done:=by
  intro X a hw f hc i aa s σ H E I hf st g;subst a hw f;obtain⟨f0,f1,f2,f3,f4,f5⟩:=hf it (by simp);have hi:i=x.cps.size:=g;subst hi;exact(W X.A (I.ok.hd hc)).done s _ _ st fun h' tk j=>⟨rfl,I.turned (fun b o hb e=>j b o (by simpa using hb) e) f0 f1 f3 f4 f5⟩
 self:=r
def ya(te:TE):TI:=fun σ H R=>te σ H fun v H1=>∃x,v=.str x/\R (qR x) H1
def JK{tg l:Expr}{tl:TE}(g:PE X l tl):PI X tg l (ya tl):=by
 intro aa s σ H R I h;refine aD (g aa s σ H _ I h) fun v a ⟨x,H1,I1,d,f⟩=>?_;obtain⟨z,e,q⟩:=f;subst e;obtain⟨t,rfl⟩:=d;have fin:∀(o:Obj),Inv X aa σ H1 {a with heap:=a.heap.push o}:=fun o=>I1.kept (t':=a.toks) fun b o e=>Ae _ e;have fp:∀b∈[a⁻¹],bh X aa H1 b:=fun b hb=>by
  have e:b=a⁻¹:=by simpa using hb
  subst e;exact I1.fpOk (Ag _) (I1.hok.fresh (Ag _))
 cases ha:z.cps.all (·<128)
 ·refine wpAny_pyIter_wide ha ?_
  exact⟨a⁻¹,[a⁻¹],_,_,H1,rfl,fin _,Eb z _ "str_iterator" ξ t (fun j c=>Walks.strWide c _ z t) (fun A i s Q E st h=>wpAny_pyIter_striter_wide st h),⟨_,Ak _ rfl,rfl,rfl⟩,fp,q⟩
 ·refine wpAny_pyIter_ascii ha ?_
  exact⟨a⁻¹,[a⁻¹],_,_,H1,rfl,fin _,Eb z _ "str_ascii_iterator" ξ t (fun j c=>Walks.strAscii c _ z t) (fun A i s Q E st h=>wpAny_pyIter_striter_ascii st h),⟨_,Ak _ rfl,rfl,rfl⟩,fp,q⟩
def JL{g:TG}{tc:TT}{te:TE}{σ:St}{H1:Hp}{Q:VK}{D:Addr}{x:PySem.Str}(a:Nat->St->List V->Hp->Prop)(h:a 0 σ [] (upd H1 D (.lst [])))(hs:∀i σ ys H c,x.cps[i]?=some c->i<x.cps.size->ys.length<=i->a i σ ys H->g (.str ⟨#[c]⟩) σ H fun d j=>tc d j fun b f=>if b=true then te d f (eO x.cps.size a D i d) else df x.cps.size a i d f)(hd:∀σ ys H,a x.cps.size σ ys H->Q (.ref D) H):cX (qR x) g tc te σ H1 D Q:=by
 refine jG x.cps.size a h (fun σ ys H p=>rfl) (fun i σ ys H hi p=>hi) (fun i σ ys H v H' hi hy p y=>?_) hd;obtain⟨e,c,hc,rfl⟩:=y;subst e;exact hs i σ ys _ c hc hi hy p
end
end L2
end
section
namespace K1
open STb
def subs(ps:List Int):Ξ:=ps.foldl (fun a x=>a++a.map (·++[x])) [[]]
def parts(ps:List Int):Ξ:=(subs ps).drop 1
def yb(ps:List Int)(x:Int):subs (ps++[x])=subs ps++(subs ps).map (·++[x]):=by unfold subs;rw[List.foldl_append];rfl
def qU(ps:List Int):(subs ps).length=2 ^ ps.length:=by
 have:∀(ps:List Int)(acc:Ξ),(ps.foldl (fun a x=>a++a.map (·++[x])) acc).length=acc.length*2 ^ ps.length:=by
  intro ps
  induction ps with
  |nil=>intro acc;simp
  |cons x ps ih=>
   intro acc;rw[List.foldl_cons,ih,Aw,Ab,Au,Nat.pow_succ];rw[<-Nat.two_mul,Nat.mul_comm 2,Nat.mul_assoc,Nat.mul_comm 2]
 simpa[subs] using this ps [[]]
def yh(ps:List Int):∃t,subs ps=[]::t/\∀q∈t,q≠[]:=by
 have:∀(ps:List Int)(acc:Ξ),(∃t,acc=[]::t/\∀q∈t,q≠[])->∃t,ps.foldl (fun a x=>a++a.map (·++[x])) acc=[]::t/\∀q∈t,q≠[]:=by
  intro ps
  induction ps with
  |nil=>intro acc h;exact h
  |cons x ps ih=>
   rintro acc ⟨t,rfl,h⟩;rw[List.foldl_cons];refine ih _ ⟨t++([]::t).map (·++[x]),rfl,fun q hq=>?_⟩;rcases List.mem_append.mp hq with hq|hq
   ·exact h q hq
   ·obtain⟨r,_,rfl⟩:=List.mem_map.mp hq
    simp
 exact this ps [[]] ⟨[],rfl,fun q hq=>nomatch hq⟩
def JM(ps:List Int):(subs ps).filter (fun q=>!decide (q=[]))=parts ps:=by
 obtain⟨t,e,h⟩:=yh ps;unfold parts;rw[e];show List.filter _ ([]::t)=t;rw[List.filter_cons,if_neg (by simp)];exact List.filter_eq_self.mpr fun q hq=>by simp[h q hq]
def kU(ps:List Int):(parts ps).length=2 ^ ps.length-1:=by unfold parts;rw[List.length_drop,qU]
def Ec(ps:List Int):∀q∈subs ps,q.length<=ps.length:=by
 have:∀(ps:List Int)(acc:Ξ)(n:Nat),(∀q∈acc,q.length<=n)->∀q∈ps.foldl (fun a x=>a++a.map (·++[x])) acc,q.length<=n+ps.length:=by
  intro ps
  induction ps with
  |nil=>intro acc n h q hq;simpa using h q hq
  |cons x ps ih=>
   intro acc n h q hq;rw[List.foldl_cons] at hq;have:=ih _ (n+1) (fun r hr=>by
    rcases List.mem_append.mp hr with hr|hr
    ·exact Nat.le_succ_of_le (h r hr)
    ·obtain⟨u,hu,rfl⟩:=List.mem_map.mp hr
     rw[Aw];exact Nat.succ_le_succ (h u hu)) q hq
   rw[Au];omega
 intro q hq;have:=this ps [[]] 0 (fun r hr=>by simp at hr;subst hr;exact Ag _) q hq;omega
def aG:List Int->Bool
 |a::b::r=>decide (a<b)&&aG (b::r)
 |_=>true
def Ed:∀ps:List Int,((ps.zip (ps.drop 1)).map fun p=>decide (p.1<p.2)).all id=aG ps
 |[]=>rfl
 |[_]=>rfl
 |a::b::r=>by
  have:=Ed (b::r);unfold aG;rw[<-this]
  rfl
def yj:∀ps:List Int,aG ps=true↔∀(i:Nat) a b,ps[i]?=some a->ps[i+1]?=some b->a<b
 |[]=>by simp[aG]
 |[x]=>by simp[aG]
 |x::y::r=>by
  unfold aG;rw[AC,decide_eq_true_eq,yj (y::r)];constructor
  ·rintro⟨h1,h2⟩ i a b c hb
   cases i with
   |zero=>simp at c hb;subst c hb;exact h1
   |succ i=>exact h2 i a b (by simpa using c) (by simpa using hb)
  ·intro h
   exact⟨h 0 x y rfl rfl,fun i a b c hb=>h (i+1) a b (by simpa using c) (by simpa using hb)⟩
def Ee(ps:List Int)(h:aG ps=true):∀(d i:Nat) a b,ps[i]?=some a->ps[i+d]?=some b->a<=b:=by
 intro d
 induction d with
 |zero=>intro i a b c hb;rw[Nat.add_zero,c] at hb;cases hb;exact Int.le_refl _
 |succ d ih=>
  intro i a b c hb;have e:i+(d+1)<ps.length:=(List.getElem?_eq_some_iff.mp hb).1;have hc:ps[i+d]?=some ps[i+d]:=Af ω;have h1:=ih i a _ c hc;have h2:=(yj ps).mp h (i+d) _ b hc hb;omega
def zU(ps:List Int):Bool:=decide (1<=ps.length)&&decide (ps.length<=5)&&!(decide (ps.headD 0<0))&&!(decide (99<ps.getLastD 0))&&aG ps
def eT(ps:List Int):Bool:=decide (1<=ps.length)&&decide (ps.length<=5)&&ps.all (fun p=>decide (0<=p)&&decide (p<=99))&&aG ps
def yk(ps:List Int):zU ps=eT ps:=by
 unfold zU eT;cases ps with
 |nil=>rfl
 |cons x r=>
  by_cases hr:aG (x::r)=true
  ·rw[hr,Bool.and_true,Bool.and_true]
   by_cases c:(x::r).length<=5
   ·have e1:(x::r).getLastD 0=(x::r)[(x::r).length-1]:=by
     rw[List.getLastD_eq_getLast?,List.getLast?_eq_getElem?,Af (by simp)];rfl
    have key:(!(decide ((x::r).headD 0<0))&&!(decide (99<(x::r).getLastD 0)))=(x::r).all (fun p=>decide (0<=p)&&decide (p<=99)):=by
     rw[Bool.eq_iff_iff];rw[AC,Bool.not_eq_true',Bool.not_eq_true',decide_eq_false_iff_not,decide_eq_false_iff_not,List.all_eq_true];constructor
     ·rintro⟨a,b⟩ p hp
      obtain⟨i,hi⟩:=List.mem_iff_getElem?.mp hp;have d:i<(x::r).length:=(List.getElem?_eq_some_iff.mp hi).1;have g1:=Ee (x::r) hr i 0 x p rfl (by simpa using hi);have g2:=Ee (x::r) hr ((x::r).length-1-i) i p ((x::r)[(x::r).length-1]) hi (by
       rw[show i+((x::r).length-1-i)=(x::r).length-1 from ω];exact Af (by simp))
      rw[e1] at b;have e:¬x<0:=a;simp only[AC,decide_eq_true_eq];constructor<;>omega
     ·intro h
      have g1:=h x Av;have g2:=h ((x::r)[(x::r).length-1]) (A3 _);rw[e1];simp only[AC,decide_eq_true_eq] at g1 g2;constructor
      ·show ¬x<0;omega
      ·omega
    rw[<-key];simp only[Bool.and_assoc]
   ·rw[decide_eq_false c];simp
  ·have:aG (x::r)=false:=by simpa using hr
   rw[this,Bool.and_false,Bool.and_false]
def bv(pss:Ξ):Bool:=decide (pss.length<=20)&&pss.all zU&&!(decide ((dd pss).length<pss.length))&&decide ((dd (pss.flatMap parts)).length<=200)
def Ef(pss:Ξ)(k:Nat):Prop:=∀(i:Nat) ps,i<k->pss[i]?=some ps->ps∉pss.take i/\eT ps=true
def JN(pss:Ξ)(h:pss.length<=20)(a:Ef pss pss.length):bv pss=decide ((dd (pss.flatMap parts)).length<=200):=by
 unfold bv;have h1:pss.all zU=true:=List.all_eq_true.mpr fun ps hp=>by
  obtain⟨i,hi⟩:=List.mem_iff_getElem?.mp hp;rw[yk];exact(a i ps (List.getElem?_eq_some_iff.mp hi).1 hi).2
 have h2:¬(dd pss).length<pss.length:=fun z=>by
  obtain⟨k,x,e,hx⟩:=(D9 pss).mp z;exact(a k x (List.getElem?_eq_some_iff.mp e).1 e).1 hx
 rw[decide_eq_true h,h1,decide_eq_false h2]
 rfl
def JO(pss:Ξ){i:Nat}{ps:List Int}(e:pss[i]?=some ps)(h:ps∈pss.take i\/eT ps=false):bv pss=false:=by
 unfold bv;rcases h with h|h
 ·have:(dd pss).length<pss.length:=(D9 pss).mpr ⟨i,ps,e,h⟩
  rw[decide_eq_true this];simp
 ·have:pss.all zU=false:=by
   rw[List.all_eq_false];exact⟨ps,Ap e,by rw[yk,h];simp⟩
  rw[this];simp
def JP(pss:Ξ)(h:¬pss.length<=20):bv pss=false:=by unfold bv;rw[decide_eq_false h];rfl
end K1
end
section
namespace L2
open PySem PySem.Spec PyProof.Rows
def ir(N N':List Str)(aw:List (Option Nat))(scope:Scope):Bool:=decide (aw.length=N'.length)&&(aw.zip N').all fun p=>match p.1 with
 |none=>true
 |some j=>decide (N[j]?=some p.2)&&decide (scope.names.lookup p.2=some .free)
def Eg{N N':List Str}{aw:List (Option Nat)}{scope:Scope}(h:ir N N' aw scope=true):qu N N' aw scope:=by
 unfold ir at h;rw[AC,decide_eq_true_eq,List.all_eq_true] at h;refine⟨h.1,fun i j e=>?_⟩;have hi:i<aw.length:=(List.getElem?_eq_some_iff.mp e).1;have e2:N'[i]?=some N'[i]:=Af (by rw[<-h.1];exact hi);have:=h.2 (some j,N'[i]) (List.mem_iff_getElem?.mpr ⟨i,by rw[br.bN,e,e2];rfl⟩);simp only[AC,decide_eq_true_eq] at this;exact⟨N'[i],e2,this.1,this.2⟩
section
variable{X:Cx}{scope:Scope}{aw:List (Option Nat)}{tg iter cp:Expr}{bH:List Expr}{wi:TI}{g:TG}{tc:TT}{te:TE}{pos:Pos}
def zy(N N':List Str)(aw:List (Option Nat))(hi:PI X tg iter wi)(b:∀a C s₀ H₀ ex,PG (cxC X scope N' a C s₀ H₀ ex) tg g)(c:∀a C s₀ H₀ ex,i7 (cxC X scope N' a C s₀ H₀ ex) bH tc)(he:∀a C s₀ H₀ ex,PE (cxC X scope N' a C s₀ H₀ ex) cp te)(hc:X.calm=true:=by rfl)(hk:scope.kind=.function:=by rfl)(d:∀y∈scope.names,y.2≠.cell:=by decide +kernel)(e:∀y∈scope.names,y.2=.local->scope.names.lookup y.1=some .local:=by decide +kernel)(hfr:∀y∈scope.names,y.2=.free->X.env.kindOf y.1=some .cell\/X.env.kindOf y.1=some .free)(f:X.N=N:=by rfl)(h:ir N N' aw scope=true:=by decide +kernel)(hs:∀x,foldedSetIterable iter X.env x=pure x:=by intro _;rfl):PE X (.ListComp cp [⟨tg,iter,bH,0⟩] scope pos) (kF wi aw g tc te):=
 IN hc hk d e hfr (Eg (by rw[f];exact h)) hi b c he hs
end
def bF{env:Env}{scope:Scope}(h:scope.names.all (fun y=>decide (y.2≠.free))=true):∀y∈scope.names,y.2=.free->env.kindOf y.1=some .cell\/env.kindOf y.1=some .free:=fun y hy e=>
 absurd e (of_decide_eq_true (List.all_eq_true.mp h y hy))
def ck{env:Env}{scope:Scope}(a:Scope)(h:scope.names.all (fun y=>decide (y.2≠.free)|| decide (a.names.lookup y.1=some .cell)|| decide (a.names.lookup y.1=some .free))=true)(b:env.scope=a:=by rfl):∀y∈scope.names,y.2=.free->env.kindOf y.1=some .cell\/env.kindOf y.1=some .free:=fun y hy e=>by
 subst b;have:=List.all_eq_true.mp h y hy;simp only[Bool.or_eq_true,decide_eq_true_eq] at this;rcases this with (q|q)|q
 ·exact absurd e q
 ·exact .inl q
 ·exact .inr q
def b7(l:List Str)(h:l.Nodup:=by decide +kernel):l.Nodup:=h
def jO{te:TE}{σ:St}{H:Hp}{P:VK}{S:Hp->Prop}(h:te σ H P):b8 σ H fun b a=>if b=true then te σ a P else S a:=by
 show if true=true then te σ H P else S H;rw[if_pos rfl];exact h
def cv{i:Nat}{v:V}{te:TE}{σ:St}{H:Hp}{P:St->VK}{S:St->Hp->Prop}(h:te (σ.set i (some v)) H (P (σ.set i (some v)))):cQ i v σ H fun a d=>b8 a d fun b c=>if b=true then te a c (P a) else S a c:=jO (S:=S (σ.set i (some v))) h
def zB{J:It}{g:TG}{tc:TT}{te:TE}{σ:St}{H1:Hp}{Q:VK}{D:Addr}(h:cX J g tc te σ H1 D Q):cX J g tc te σ H1 D Q:=h
def Paired.of_at{c d:Type}{R:c->d->Prop}:∀{l:List c}{m:List d},l.length=m.length->(∀(i:Nat) x y,l[i]?=some x->m[i]?=some y->R x y)->Paired R l m
 |[],[],_,_=>.nil
 |x::l,y::m,h,f=>.cons (f 0 x y rfl rfl) (Paired.of_at (by simpa using h) fun i a b h1 h2=>f (i+1) a b (by simpa using h1) (by simpa using h2))
 |[],_::_,h,_=>by simp at h
 |_::_,[],h,_=>by simp at h
end L2
end
section
namespace K55
open K1
open PySem L2
def top(i:Nat):Stmt:=PySem.Challenge.pw_seamwright_k55_one_map_behind_another.main.body.getD i (.Pass ⟨0,0,0,0⟩)
abbrev qV:Stmt:=top 16
abbrev kW:Stmt:=top 17
abbrev fy:Stmt:=top 18
abbrev nG:Stmt:=top 19
abbrev sAll:Stmt:=top 20
abbrev qW:Stmt:=top 24
structure Bt(mg:Str->Option Value):Prop where
 len:mg "len"=none
 all:mg "all"=none
 zip:mg "zip"=none
 sorted:mg "sorted"=none
 set:mg "set"=none
 list:mg "list"=none
 tuple:mg "tuple"=none
 range:mg "range"=none
 enumerate:mg "enumerate"=none
 int:mg "int"=none
 isinstance:mg "isinstance"=none
 reversed:mg "reversed"=none
 bool:mg "bool"=none
 dict:mg "dict"=none
def zW:AU "len"=some (.builtin "len"):=δ
def k4:AU "all"=some (.builtin "all"):=δ
def JQ:AU "zip"=some (.type "zip"):=δ
def je:AU "sorted"=some (.builtin "sorted"):=δ
def jP:AU "set"=some (.type "set"):=δ
def ff:AU "list"=some (.type "list"):=δ
def jf:AU "tuple"=some (.type "tuple"):=δ
def JR:AU "enumerate"=some (.type "enumerate"):=δ
def qY:AU "int"=some (.type "int"):=δ
def nH:AU "isinstance"=some (.builtin "isinstance"):=δ
def Eh:AU "reversed"=some (.type "reversed"):=δ
def g0:AU "dict"=some (.type "dict"):=δ
def JS:AU "bool"=some (.type "bool"):=δ
def ze{n:Nat}(h:n<=100000):n<=sizeLine:=by rw[sizeLine_eq];omega
def zZ{n:Nat}(h:n<=100000):n<sizeLine:=by rw[sizeLine_eq];omega
def JT(x:Int)(r:List Int):atI ((x::r).map V.int) (-1)=some (.int ((x::r).getLastD 0)):=by
 obtain⟨q,z,e⟩:∃q z,x::r=q++[z]:=⟨(x::r).dropLast,(x::r).getLast (List.cons_ne_nil x r),(List.dropLast_concat_getLast (List.cons_ne_nil x r)).symm⟩;rw[e,Am,List.getLastD_eq_getLast?,List.getLast?_append];exact C2 _ _
def gh{ps:List Int}{i:Nat}{x:V}(h:(ps.map V.int)[i]?=some x):∃p,ps[i]?=some p/\x=.int p:=by
 rw[Aj] at h;cases e:ps[i]? with
 |none=>rw[e] at h;cases h
 |some p=>rw[e] at h;exact⟨p,rfl,(An h).symm⟩
def dE{as:List Addr}{i:Nat}{x:V}(h:(as.map V.ref)[i]?=some x):∃a,as[i]?=some a/\x=.ref a:=by
 rw[Aj] at h;cases e:as[i]? with
 |none=>rw[e] at h;cases h
 |some p=>rw[e] at h;exact⟨p,rfl,(An h).symm⟩
def AM{a:Type}{l:List a}{i:Nat}{x:a}(h:l[i]?=some x):l.take (i+1)=l.take i++[x]:=by rw[List.take_add_one,h];rfl
def take_all{a:Type}(l:List a):l.take l.length=l:=Az (Ag _)
def yl(x:Int)(r:List Int):cM ((x::r).map V.int) (some 1) none=r.map V.int:=by
 unfold cM;have e:HT.sIx ((x::r).map V.int).length 0 (some 1)=1:=by
  have:=HT.p6 ((x::r).map V.int).length 0 1;rw[show((1:Nat):Int)=1 from rfl] at this;rw[this,Ab,Au];omega
 rw[e,HT.uY];show List.take _ (r.map V.int)=_;rw[Az (by simp)]
section
variable{P:Program}{w:World}{K:Ad}{mg:Str->Option Value}{base:Heap}
def Ei:Sp:=fun vs H Q _=>∃a ps,vs=[.ref a]/\Tp H a ps/\∀H',Same H H'->Q (.bl (zU ps)) H'
def JU:zq ["numbers"] ["numbers"] (zg qV):=⟨rfl,rfl,rfl,δ,rfl,δ,δ⟩
def JV{f:Addr}{fd:FuncData}{Y Z:Tok}(F:Fun K "is_piece" "is_piece" qV f fd)(B:Bt mg)(m5:mg "MOST_POINTS"=some (.int 5 Y))(pd:mg "LAST_POINT"=some (.int 99 Z)):FnOk P w K mg base az 1 f fd ["numbers"] Ei:=by
 refine F.ok JU (fun vs H Q E h=>?_) (fun cdv A outer s H vs Q E hr h=>?_)
 ·obtain⟨a,ps,rfl,_⟩:=h;rfl
 ·obtain⟨a,ps,rfl,l,k⟩:=h
  refine⟨_,zd (zR (fL (Hs p5 p5 zf (zl zk rfl B.len zW (ac (pv 0) al)) (km rfl m5 (v:=.int 5) ⟨_,rfl⟩))) (zi (zt dG)) zv)
   (zd (zR (PW.pt (pH (zp kx (zN fb (pv 0) zf (fun _ _=>rfl)) zf (ar _)) (pG (zp iU (zN fb (pv 0) (uz uB zf) (fun _ _=>rfl)) (km rfl pd (v:=.int 99) ⟨_,rfl⟩) (ar _))))) (zi (zt dG)) zv)
   (zi (zt (zl (kI rfl) rfl B.all k4 (ac
    (zy ["numbers"] ["low","high"] [none,none] (IY rfl B.zip JQ (ac (pv 0) (ac (vb HP (pv 0) (u4 zf) u1) al)))
     (fun L C s₀ H₀ ex=>kr rfl (zT (zn (i:=0) (b7 ["low","high"]) rfl (Or.inl rfl)) (zT (zn (i:=1) (b7 ["low","high"]) rfl (Or.inl rfl)) kq)))
     (fun L C s₀ H₀ ex=>zF) (fun L C s₀ H₀ ex=>gN kx (pv 0) (pv 1) (ar _)) (hfr:=bF δ) (g:=jy K 2 (lQ (cQ 0) (lQ (cQ 1) jx)))) al))))),?_⟩
  have y:zU ps=false->Q (.bl false) H:=fun e=>by have:=k H (Same.refl H);rw[e] at this;exact this
  refine⟨_,rfl,a,_,rfl,.inr (SqT.of l),_,_,rfl,rfl,_,rfl,?_⟩;rw[Ab];refine be (fun h1=>?_) (fun h1=>?_)
  ·refine⟨_,_,rfl,rfl,_,rfl,?_⟩
   have b:1<=ps.length:=by have:=of_decide_eq_true h1;omega
   cases h5:decide ((ps.length:Int)<=5) with
   |false=>
    have c:¬ps.length<=5:=by have:=of_decide_eq_false h5;omega
    exact bg (y (by unfold zU;rw[decide_eq_false c];simp))
   |true=>
    have c:ps.length<=5:=by have:=of_decide_eq_true h5;omega
    refine aI ?_;obtain⟨x,r,rfl⟩:∃x r,ps=x::r:=by
     cases ps with
     |nil=>simp at b
     |cons x r=>exact⟨x,r,rfl⟩
    refine⟨_,rfl,a,_,_,_,rfl,rfl,SqT.of l,zx (j:=0) rfl,_,_,rfl,rfl,_,rfl,?_⟩;refine be (fun hx=>?_) (fun hx=>?_)
    ·refine bg (y ?_)
     unfold zU;rw[show decide ((x::r).headD 0<0)=true from hx];simp
    ·refine⟨_,rfl,_,rfl,a,_,_,_,rfl,rfl,SqT.of l,JT x r,_,_,rfl,rfl,_,rfl,?_⟩
     cases hl:decide (99<(x::r).getLastD 0) with
     |true=>
      refine bg (y ?_);unfold zU;rw[hl];simp
     |false=>
      refine aI ?_;refine⟨_,rfl,_,rfl,_,rfl,a,_,rfl,SqT.of l,?_,fun p hp=>?_⟩
      ·intro z
       have e:=HT.p6 ((x::r).map V.int).length 0 1;rw[show((1:Nat):Int)=1 from rfl,z.1,Ab,Au] at e;omega
      ·rw[yl]
       have J:Same H (upd H p (.tup (r.map V.int))):=Same.new hp;refine⟨a,p,rfl,⟨_,SqT.of (J.tp l)⟩,⟨_,SqT.of ak⟩,fun D M=>?_⟩;have hm:min ((x::r).map V.int).length (r.map V.int).length=r.length:=by simp
       refine zB (Ja (K:=K) (xs:=(x::r).map V.int) (ys:=r.map V.int) (fun i σ zs o=>∃G I,σ=[G,I]/\Same (upd H p (.tup (r.map V.int))) o/\o D=some (.lst zs)/\zs=((((x::r).zip r).map fun q=>decide (q.1<q.2)).take i).map V.bl)
        ⟨none,none,rfl,Same.new M,ak,rfl⟩ (fun i σ zs o ⟨_,_,_,d,_⟩=>⟨SqT.of (d.tp (J.tp l)),SqT.of (d _ _ ak)⟩) ?_ ?_)
       ·rintro i σ zs o S y1 y2 e1 e2 hi T ⟨G,I,rfl,d,u,rfl⟩ N
        obtain⟨U,g1,rfl⟩:=gh e1;obtain⟨W,g2,rfl⟩:=gh e2;refine⟨S,_,rfl,SqT.of ak,rfl,_,_,rfl,_,_,rfl,rfl,jO ?_⟩;refine⟨_,rfl,_,rfl,_,_,rfl,rfl,bu (AQ (Nat.min_le_right _ _) (by rw[Ab];exact ze (by simp at c;omega))) hi T (by rw[zj (zh u N)];exact u) ⟨_,_,rfl,?_,ak,?_⟩⟩
        ·exact(d.then (d.free N)).then M
        ·have e3:(((x::r).zip r).map fun q=>decide (q.1<q.2))[i]?=some (decide (U<W)):=by
          rw[Aj,br.bN,g1,g2];rfl
         rw[AM e3,Am];rfl
       ·rintro σ zs o ⟨G,I,rfl,d,u,rfl⟩
        refine⟨D,(((x::r).zip r).map fun q=>decide (q.1<q.2)),rfl,SqL.of ?_,?_⟩
        ·rw[u,hm,Az (by simp)]
        ·have:=k o (J.trans d)
         have O:=Ed (x::r);rw[show(x::r).drop 1=r from rfl] at O;rw[O];have X:zU (x::r)=aG (x::r):=by
          unfold zU;rw[decide_eq_true b,decide_eq_true c,hl];rw[show decide ((x::r).headD 0<0)=false from by simpa using hx]
          rfl
         rw[X] at this;exact this
  ·refine⟨_,rfl,bg (y ?_)⟩
   have b:¬1<=ps.length:=fun z=>h1 (decide_eq_true ω);unfold zU;rw[decide_eq_false b]
   rfl
end
end K55
end
section
namespace K55
open K1
open PySem L2
section
variable{P:Program}{w:World}{K:Ad}{mg:Str->Option Value}{base:Heap}
def qZ:Sp:=fun vs H Q _=>∃a ps,vs=[.ref a]/\Tp H a ps/\ps.length<=5/\∀D as H',Same H H'->H D=none->H' D=some (.lst (as.map V.ref))->Tps H' as (parts ps)->Q (.ref D) H'
def q3:zq ["piece","found","point"] ["piece"] (zg kW):=⟨rfl,rfl,rfl,δ,rfl,δ,δ⟩
def fz{n:Nat}(h:n<=5):2 ^ n<=32:=by
 have:2 ^ n<=2 ^ 5:=Nat.pow_le_pow_right ξ h;exact this
def Ej{H2:Hp}{as:List Addr}{fs:Ξ}{q:Int}{D:Addr}{l:Addr}{Q:VK}(G:H2 l=some (.lst (as.map V.ref)))(s:Tps H2 as fs)(I:as.length<=100)(H:∀f∈fs,f.length<=100)(u:H2 D=none)(k:∀bs b,Same H2 b->b D=some (.lst (bs.map V.ref))->Tps b bs (fs.map (·++[q]))->Q (.ref D) b):cX (dH K l) (cQ 0) b8 (da Dz (aE 0) (dD (zP (aE 1) bq))) [none,some (.int q)] H2 D Q:=by
 have E:=s.length;refine zM (xs:=as.map V.ref) (fun j σ ys b=>∃bs v,σ=[v,some (.int q)]/\Same H2 b/\b D=some (.lst ys)/\ys=bs.map V.ref/\Tps b bs ((fs.take j).map (·++[q]))) ?_ ?_ ?_ ?_
 ·exact⟨[],none,rfl,Same.new u,ak,rfl,.nil⟩
 ·rintro j σ ys b ⟨bs,v,rfl,d,g,rfl,hb⟩
  exact SqL.of (d _ _ G)
 ·rintro j σ ys b x hx A hy ⟨bs,v,rfl,d,g,rfl,hb⟩
  obtain⟨a,C,rfl⟩:=dE hx;obtain⟨f,o,hf⟩:=s.get C;refine cv ?_;refine⟨_,rfl,_,rfl,ze (by simp),fun t w=>?_⟩;have F:=d.tp hf;have r:Same b (upd b t (.tup [.int q])):=Same.new w;refine⟨a,t,_,_,rfl,rfl,r _ _ F,ak,?_,fun p i y hp=>?_⟩
  ·rw[Ab]
   exact ze (by have:=H f (Ap o);simp;omega)
  ·have h:Same b i:=r.trans y
   refine bu (ys:=bs.map V.ref) (by rw[Ab];exact ze ω) A hy (h _ _ g) ⟨bs++[p],_,rfl,(d.trans h).then u,ak,by rw[Am];rfl,?_⟩;rw[AM o,Am];have J:p≠D:=dj hp (h _ _ g) (by intro z;cases z);have keep:∀c xs,i c=some (.tup xs)->upd i D (.lst (bs.map V.ref++[V.ref p])) c=some (.tup xs):=fun c xs e=>by
    rw[zj (dj e (h _ _ g) (by intro z;cases z))];exact e
   refine Tps.snoc (Paired.mapP (h.tps hb) fun c xs e=>keep c _ e) (keep p _ ?_);rw[hp,Am];rfl
 ·rintro σ ys b ⟨bs,v,rfl,d,g,rfl,hb⟩
  rw[Ab,E,take_all] at hb;exact k bs b d g hb
def JW{f:Addr}{fd:FuncData}(F:Fun K "parts_of" "parts_of" kW f fd):FnOk P w K mg base az 1 f fd ["piece"] qZ:=by
 refine F.ok q3 (fun vs H Q E h=>?_) (fun cdv A outer s H vs Q E hr h=>?_)
 ·obtain⟨a,ps,rfl,_⟩:=h;rfl
 ·obtain⟨a,ps,rfl,u,T,k⟩:=h
  refine⟨_,zd (zr (i:=1) q3.nd rfl (Or.inl rfl) (zO (ac (dw al) al)))
   (zd (dW A7 rfl (lT (pv 0)) (zn (i:=2) q3.nd rfl (Or.inr rfl))
    (zi (zr (i:=1) q3.nd rfl (Or.inl rfl) (zE i4 (pv 1) (zy ["piece","found","point"] ["part","point"] [none,some 2] (zA (pv 1)) (fun p C s₀ H₀ ex=>zn (i:=0) (b7 ["part","point"]) rfl (Or.inl rfl)) (fun p C s₀ H₀ ex=>zF)
     (fun p C s₀ H₀ ex=>zE DA (pv 0) (dw (ac (pv 1) al))) (hfr:=ck (zg kW) δ))))))
   (zi (zt (vb C3 (pv 1) (u4 zf) u1)))),?_⟩
  refine⟨ze (by simp),fun e he=>⟨ze (by simp),fun l b=>?_⟩⟩;have y:Same H (upd (upd H e (.tup [])) l (.lst [.ref e])):=(Same.new he).then ((Same.new he).free b);have M:e≠l:=zh (H:=upd H e (.tup [])) ak b;refine⟨_,rfl,a,rfl,⟨_,SqT.of (y _ _ u)⟩,CF (K:=K) (a:=a) (xs:=ps.map V.int) (fun i σ H2=>∃l as v,σ=[some (.ref a),some (.ref l),v]/\Same H H2/\H l=none/\H2 l=some (.lst (as.map V.ref))/\Tps H2 as (subs (ps.take i)))
   ⟨l,[e],none,rfl,y,(Same.new he).free b,ak,.cons (by show upd _ _ _ e=_;rw[zj M];exact ak) .nil⟩ (fun i σ H2 _ ⟨_,_,_,_,c,_⟩=>SqT.of (c _ _ u)) ?_ ?_⟩
  ·rintro i x σ H2 hx ⟨l,as,v,rfl,c,J,b,d⟩
   obtain⟨q,eq,rfl⟩:=gh hx;have hi:i<ps.length:=(List.getElem?_eq_some_iff.mp eq).1;have N:=d.length;have U:as.length<=32:=by
    rw[N,qU,AJ];exact fz ω
   have hm:∀f∈subs (ps.take i),f.length<=100:=fun f hf=>by
    have:=Ec _ f hf;rw[AJ] at this;omega
   refine⟨_,rfl,_,rfl,l,rfl,⟨_,SqL.of b⟩,fun D j=>zB (Ej b d ω hm j fun bs W o I hb=>?_)⟩;have O:=hb.length;rw[Ab] at O;refine⟨l,D,_,_,rfl,rfl,o _ _ b,I,by rw[Ab,Ab];exact ze ω,fun r g=>?_⟩;have z:H r=none:=(c.trans o).free g;refine⟨r,as++bs,_,rfl,(c.trans o).then z,z,by rw[ak,Am],?_⟩;rw[AM eq,yb];exact(Same.new g).tps ((o.tps d).append hb)
  ·rintro σ H2 ⟨l,as,v,rfl,c,J,b,d⟩
   rw[Ab,take_all] at d;refine⟨_,rfl,_,rfl,l,_,rfl,SqL.of b,fun D j=>?_⟩;have G:H D=none:=c.free j;obtain⟨t,L,_⟩:=yh ps;refine k D (as.drop 1) _ (c.then G) G ?_ ?_
   ·rw[ak]
    unfold cM;have S:1<=as.length:=by rw[d.length,L];simp
    have e1:HT.sIx (as.map V.ref).length 0 (some 1)=1:=by
     have:=HT.p6 (as.map V.ref).length 0 1;rw[show((1:Nat):Int)=1 from rfl] at this;rw[this,Ab];omega
    rw[e1,HT.uY,<-List.map_drop,Az (by simp)]
   ·exact(Same.new j).tps (d.drop 1)
def JX:zq ["piece"] ["piece"] (zg fy):=⟨rfl,rfl,rfl,δ,rfl,δ,δ⟩
def JY{f:Addr}{fd:FuncData}(F:Fun K "order_key" "order_key" fy f fd)(B:Bt mg):FnOk P w K mg base az 1 f fd ["piece"] qD:=by
 refine F.ok JX (fun vs H Q E h=>?_) (fun cdv A outer s H vs Q E hr h=>?_)
 ·obtain⟨a,ps,rfl,_⟩:=h;rfl
 ·obtain⟨a,ps,rfl,b,k⟩:=h
  refine⟨_,zi (zt (dw (ac (zl zk rfl B.len zW (ac (pv 0) al)) (ac (pv 0) al)))),?_⟩;refine⟨_,rfl,a,_,rfl,.inr (SqT.of b),_,rfl,ze (by simp),fun p hp=>?_⟩;rw[Ab];exact k p hp
def Ek(K:Ad):Sp:=fun vs H Q _=>∃l as pss,vs=[.ref l]/\SqL K H l (as.map V.ref)/\Tps H as pss/\pss.length<64/\
 ∀D H2(c:List (List Int×Addr)),Same H H2->H D=none->H2 D=some (.lst (c.map fun q=>V.ref q.2))->c.Perm (pss.zip as)->c.Pairwise (fun a b=>HT.lexLt ((b.1.length:Int)::b.1) ((a.1.length:Int)::a.1)=false)->Q (.ref D) H2
def JZ:zq ["some"] ["some"] (zg nG):=⟨rfl,rfl,rfl,δ,rfl,δ,δ⟩
def J0{f b:Addr}{fd c:FuncData}(F:Fun K "in_order" "in_order" nG f fd)(B:Bt mg)(i:Fun K "order_key" "order_key" fy b c)(bk:Binds K c ["piece"] [])(mk:mg "order_key"=some (.ref b)):FnOk P w K mg base az 4 f fd ["some"] (Ek K):=by
 have g:FnOk P w K mg base az 1 b c ["piece"] qD:=JY i B;refine F.ok JZ (fun vs H Q E h=>?_) (fun cdv A outer s H vs Q E hr h=>?_)
 ·obtain⟨l,as,pss,rfl,_⟩:=h;rfl
 ·obtain⟨l,as,pss,rfl,d,e,a,k⟩:=h
  refine⟨_,zi (zt (Jm g hr bk rfl B.sorted je rfl mk (ac (pv 0) al))),?_⟩;exact⟨_,rfl,l,as,pss,rfl,d,e,a,k⟩
end
end K55
end
section
namespace K55
open K1
open PySem L2 STb
def Tps.upd{H:Hp}{d:Addr}{o o':HO}{as:List Addr}{pss:Ξ}(h:Tps H as pss)(hd:H d=some o')(b:∀xs,o'≠.tup xs):Tps (L2.upd H d o) as pss:=
 Paired.mapP h fun a ps e=>by
  show L2.upd H d o a=_;rw[zj (dj (show H a=some _ from e) hd fun z=>b _ z.symm)];exact e
def fC(seq:Ξ):List (List Key×V):=(dd seq).map fun ps=>((ps.map Sum.inl:List Key),V.bl true)
def El(seq:Ξ):(fC seq).length<=seq.length:=by unfold fC;rw[Ab];exact fo seq
def Em(seq:Ξ)(ps:List Int):putK (fC seq) (ps.map Sum.inl) (.bl true)=fC (seq++[ps]):=by
 unfold putK fC;rw[gY];have a:(((dd seq).map fun ps=>((ps.map Sum.inl:List Key),V.bl true)).any fun kv=>decide (kv.1=ps.map Sum.inl))=decide (ps∈dd seq):=by
  rw[List.any_map]
  by_cases h:ps∈dd seq
  ·rw[decide_eq_true h,List.any_eq_true]
   exact⟨ps,h,by simp⟩
  ·rw[decide_eq_false h,List.any_eq_false]
   intro q hq;simp only[Function.comp,decide_eq_true_eq,gX];rintro rfl;exact h hq
 rw[a]
 by_cases h:ps∈dd seq
 ·rw[decide_eq_true h,if_pos rfl,if_pos h,As]
  refine AY fun q hq=>?_;simp only[Function.comp];split<;>rfl
 ·rw[decide_eq_false h,if_neg (by simp),if_neg h,Am]
  rfl
def En{H:Hp}{seq:Ξ}{bs:List Addr}(h:Paired (fun(p:List Key×V) b=>H b=some (.tup (p.1.map kV))) (fC seq) bs):Tps H bs (dd seq):=by
 unfold fC at h;generalize dd seq=l at h
 induction l generalizing bs with
 |nil=>cases h;exact .nil
 |cons x l ih=>
  rw[Ar] at h;cases h with
  |cons r t=>
   refine .cons ?_ (ih t);show H _=_;rw[r,As]
   rfl
def yn(pss:Ξ)(h:∀ps∈pss,ps.length<=5):(pss.flatMap parts).length<=31*pss.length:=by
 induction pss with
 |nil=>simp
 |cons x l ih=>
  rw[List.flatMap_cons,Aw,kU,Au];have:=ih fun ps hp=>h ps (Ax _ hp);have:=fz (h x Av);omega
def Eo{pss:Ξ}{i:Nat}{ps:List Int}(h:pss[i]?=some ps):(pss.take (i+1)).flatMap parts=(pss.take i).flatMap parts++parts ps:=by
 rw[AM h,List.flatMap_append];simp
def Told(H H2:Hp)(pss:Ξ)(D:Addr)(c:List (List Int×Addr)):Prop:=
 Same H H2/\H D=none/\H2 D=some (.lst (c.map fun q=>V.ref q.2))/\(∀q∈c,Tp H2 q.2 q.1)/\(c.map (·.1)).Perm (dd (pss.flatMap parts))/\c.Pairwise (fun a b=>HT.lexLt ((b.1.length:Int)::b.1) ((a.1.length:Int)::a.1)=false)
section
variable{P:Program}{w:World}{K:Ad}{mg:Str->Option Value}{base:Heap}
def jR(K:Ad):Sp:=fun vs H Q _=>∃l as pss,vs=[.ref l]/\SqL K H l (as.map V.ref)/\Tps H as pss/\(∀ps∈pss,ps.length<=5)/\pss.length<=20/\(dd (pss.flatMap parts)).length<64/\∀D H2 a,Told H H2 pss D a->Q (.ref D) H2
def q4:zq ["some","found","piece","part"] ["some"] (zg sAll):=⟨rfl,rfl,rfl,δ,rfl,δ,δ⟩
def Ep{f fp O fk:Addr}{fd S T dS:FuncData}(F:Fun K "all_parts" "all_parts" sAll f fd)(B:Bt mg)(Fp:Fun K "parts_of" "parts_of" kW fp S)(bp:Binds K S ["piece"] [])(mp:mg "parts_of"=some (.ref fp))(Fo:Fun K "in_order" "in_order" nG O T)(bo:Binds K T ["some"] [])(mo:mg "in_order"=some (.ref O))(Fk:Fun K "order_key" "order_key" fy fk dS)(bk:Binds K dS ["piece"] [])(mk:mg "order_key"=some (.ref fk)):FnOk P w K mg base az 5 f fd ["some"] (jR K):=by
 have Gp:FnOk P w K mg base az 1 fp S ["piece"] qZ:=JW Fp;have Go:FnOk P w K mg base az 4 O T ["some"] (Ek K):=J0 Fo B Fk bk mk;refine F.ok q4 (fun vs H Q E h=>?_) (fun cdv A outer s H vs Q E hr h=>?_)
 ·obtain⟨l,as,pss,rfl,_⟩:=h;rfl
 ·obtain⟨l,as,pss,rfl,X,Y,Z,cn,I,k⟩:=h
  have hu:=d_ hr;have N:Room 1 _:=hr.mono ξ;refine⟨_,zd (zr (i:=1) q4.nd rfl (Or.inl rfl) mL)
   (zd (dW A7 rfl (zA (pv 0)) (zn (i:=2) q4.nd rfl (Or.inl rfl))
    (zi (dW A7 rfl (zA (zo Gp N rfl mp Fp.kp bp .nil ao (ac (pv 2) al))) (zn (i:=3) q4.nd rfl (Or.inl rfl))
     (zi (gb hu (pv 1) (pv 3) dG rfl)))))
   (zi (zt (zo Go hr rfl mo Fo.kp bo .nil ao (ac (zm (Dx rfl) rfl B.list ff (ac (pv 1) al)) al))))),?_⟩
  intro d hd;have aL:=Y.length;refine⟨_,rfl,l,rfl,⟨_,(Same.new hd).seq X⟩,gM (K:=K) (a:=l) (xs:=as.map V.ref) (fun i σ H2=>∃v o,σ=[some (.ref l),some (.ref d),v,o]/\Same H H2/\H2 d=some (.dT (fC ((pss.take i).flatMap parts))))
   ⟨none,none,rfl,Same.new hd,ak⟩ (fun i σ H2 _ ⟨_,_,_,e,_⟩=>e.seq X) ?_ ?_⟩
  ·rintro i x σ H2 hx ⟨v,o,rfl,e,y⟩
   obtain⟨a,ea,rfl⟩:=dE hx;obtain⟨ps,J,a7⟩:=Y.get ea;have dm:=Z ps (Ap J);have hi:i<pss.length:=(List.getElem?_eq_some_iff.mp J).1;refine⟨_,rfl,a,ps,rfl,e.tp a7,dm,fun D cs H3 r cC u U=>⟨D,rfl,⟨_,SqL.of u⟩,?_⟩⟩;have oZ:=U.length;have nT:D≠d:=dj u (r _ _ y) (by intro z;cases z);refine gM (K:=K) (a:=D) (xs:=cs.map V.ref) (fun j σ p=>∃o,σ=[some (.ref l),some (.ref d),some (.ref a),o]/\Same H p/\p D=some (.lst (cs.map V.ref))/\Tps p cs (parts ps)/\p d=some (.dT (fC ((pss.take i).flatMap parts++(parts ps).take j))))
    ⟨_,rfl,e.trans r,u,U,by rw[List.take_zero,List.append_nil];exact r _ _ y⟩ (fun j σ p _ ⟨_,_,_,q,_⟩=>SqL.of q) ?_ ?_
   ·rintro j x σ p hx ⟨o,rfl,L,aZ,M,C⟩
    obtain⟨c,ec,rfl⟩:=dE hx;obtain⟨f,ef,hf⟩:=M.get ec;have G:(fC ((pss.take i).flatMap parts++(parts ps).take j)).length<sizeLine:=by
     refine zZ (AQ (El _) ?_);rw[Aw];have h1:=yn (pss.take i) (fun q hq=>Z q (List.mem_of_mem_take hq));have h2:=kU ps;have h3:=fz dm;rw[AJ] at h1 ⊢;omega
    refine⟨_,rfl,_,rfl,d,_,rfl,DPut.t (k:=f.map Sum.inl) C (by rw[As];exact hf) G,⟨_,rfl,L.then hd,?_,?_,?_⟩⟩
    ·rw[zj nT];exact aZ
    ·exact Tps.upd M C (by intro xs z;cases z)
    ·rw[ak,Em,List.append_assoc,<-AM ef]
   ·rintro σ p ⟨o,rfl,L,aZ,M,C⟩
    refine⟨_,_,rfl,L,?_⟩;rw[Ab,oZ,take_all] at C;rw[Eo J];exact C
  ·rintro σ H2 ⟨v,o,rfl,e,y⟩
   rw[Ab,aL,take_all] at y;refine⟨_,rfl,d,_,rfl,y,fun bs hb W g=>?_⟩;have tb:=En hb;have iY:=tb.length;refine⟨W,bs,dd (pss.flatMap parts),rfl,SqL.of ak,(Same.new g).tps tb,I,fun D H3 qs r u ag hp hs=>?_⟩;have il:H W=none:=e.free g;refine k D H3 qs ⟨(e.then il).trans r,(e.then il).free u,ag,fun q hq=>?_,?_,hs⟩
   ·obtain⟨m,em⟩:=List.mem_iff_getElem?.mp (hp.mem_iff.mp hq)
    rw[br.bN] at em;cases e1:(dd (pss.flatMap parts))[m]? with
    |none=>rw[e1] at em;cases em
    |some f=>
     cases e2:bs[m]? with
     |none=>rw[e1,e2] at em;cases em
     |some b=>
      rw[e1,e2] at em;obtain rfl:(f,b)=q:=An em;exact r.tp ((Same.new g).tp (qB tb m b f e2 e1))
   ·have:=hp.map (·.1)
    rw[List.map_fst_zip ω] at this;exact this
def Er(K:Ad):Sp:=fun vs H Q _=>∃l as pss,vs=[.ref l]/\SqL K H l (as.map V.ref)/\Tps H as pss/\(pss.all zU=true->(dd (pss.flatMap parts)).length<64)/\∀H',Same H H'->Q (.bl (bv pss)) H'
def J1:zq ["web"] ["web"] (zg qW):=⟨rfl,rfl,rfl,δ,rfl,δ,δ⟩
def J2{f J fa fp X Y:Addr}{fd L M Z fW dS:FuncData}{t5 nW N mY:Tok}(F:Fun K "is_web" "is_web" qW f fd)(B:Bt mg)(m5:mg "MOST_POINTS"=some (.int 5 t5))(pd:mg "LAST_POINT"=some (.int 99 nW))(n8:mg "MOST_HANDED"=some (.int 20 N))(pf:mg "MOST_PIECES"=some (.int 200 mY))(Fi:Fun K "is_piece" "is_piece" qV J L)(bi:Binds K L ["numbers"] [])(mi:mg "is_piece"=some (.ref J))(Fa:Fun K "all_parts" "all_parts" sAll fa M)(ba:Binds K M ["some"] [])(ma:mg "all_parts"=some (.ref fa))(Fp:Fun K "parts_of" "parts_of" kW fp Z)(bp:Binds K Z ["piece"] [])(mp:mg "parts_of"=some (.ref fp))(Fo:Fun K "in_order" "in_order" nG X fW)(bo:Binds K fW ["some"] [])(mo:mg "in_order"=some (.ref X))(Fk:Fun K "order_key" "order_key" fy Y dS)(bk:Binds K dS ["piece"] [])(mk:mg "order_key"=some (.ref Y)):FnOk P w K mg base az 6 f fd ["web"] (Er K):=by
 have Gi:FnOk P w K mg base az 1 J L ["numbers"] Ei:=JV Fi B m5 pd;have Ga:FnOk P w K mg base az 5 fa M ["some"] (jR K):=Ep Fa B Fp bp mp Fo bo mo Fk bk mk;refine F.ok J1 (fun vs H Q E h=>?_) (fun cdv A outer s H vs Q E hr h=>?_)
 ·obtain⟨l,as,pss,rfl,_⟩:=h;rfl
 ·obtain⟨l,as,pss,rfl,d,p,y,k⟩:=h
  have au:=hr.units;have G:Room 1 _:=hr.mono ξ;refine⟨_,zd (zR (zp iU (zl zk rfl B.len zW (ac (pv 0) al)) (km rfl n8 (v:=.int 20) ⟨_,rfl⟩) (ar _)) (zi (zt dG)) zv)
   (zd (zR (fL (fN (zl (kI rfl) rfl B.all k4 (ac
    (zy ["web"] ["numbers"] [none] (zA (pv 0)) (fun O C s₀ H₀ ex=>zn (i:=0) (b7 ["numbers"]) rfl (Or.inl rfl)) (fun O C s₀ H₀ ex=>zF)
     (fun O C s₀ H₀ ex=>zo Gi G rfl mi Fi.kp bi .nil ao (ac (pv 0) al)) (hfr:=bF δ)) al)))) (zi (zt dG)) zv)
   (zd (zR (zp kx (zl JI rfl B.len zW (ac (zm (JH rfl au) rfl B.set jP (ac (pv 0) al)) al)) (zl zk rfl B.len zW (ac (pv 0) al)) (ar _)) (zi (zt dG)) zv)
   (zi (zt (gN p5 (zl zk rfl B.len zW (ac (zo Ga hr rfl ma Fa.kp ba .nil ao (ac (pv 0) al)) al)) (km rfl pf (v:=.int 200) ⟨_,rfl⟩) (ar _)))))),?_⟩
  have U:=p.length;refine⟨_,rfl,l,_,rfl,.inl d,_,_,rfl,rfl,_,rfl,?_⟩;rw[Ab];refine be (fun h1=>?_) (fun h1=>?_)
  ·have:=k H (Same.refl H)
   rw[JP pss (by have:=of_decide_eq_true h1;omega)] at this;exact this
  ·have W:pss.length<=20:=by
    have:¬((20:Int)<as.length):=fun z=>h1 (decide_eq_true z);omega
   refine⟨_,rfl,l,rfl,⟨_,d⟩,fun D T=>zB (zM (K:=K) (a:=l) (xs:=as.map V.ref) (fun i σ ys c=>∃v,σ=[v]/\Same H c/\c D=some (.lst ys)/\ys=((pss.map zU).take i).map V.bl)
    ⟨none,rfl,Same.new T,ak,rfl⟩ (fun i σ ys c ⟨_,_,b,_⟩=>b.seq d) ?_ ?_)⟩
   ·rintro i σ ys c x hx hi hy ⟨v,rfl,b,r,rfl⟩
    obtain⟨a,ea,rfl⟩:=dE hx;obtain⟨ps,aV,u⟩:=p.get ea;refine cv ?_;refine⟨_,rfl,a,ps,rfl,b.tp u,fun H4 o=>bu (by rw[Ab];exact ze ω) hi hy (o _ _ r) ⟨_,rfl,(b.trans o).then T,ak,?_⟩⟩;have e:(pss.map zU)[i]?=some (zU ps):=by rw[Aj,aV];rfl
    rw[AM e,Am];rfl
   ·rintro σ ys c ⟨v,rfl,b,r,rfl⟩
    rw[Ab,U,Az (by simp)] at r;refine⟨D,pss.map zU,rfl,SqL.of r,_,rfl,?_⟩;have mx:(pss.map zU).all id=pss.all zU:=by rw[List.all_map];rfl
    rw[mx];cases hp:pss.all zU with
    |false=>
     refine bg ?_;have:=k c b;rw[show bv pss=false from by unfold bv;rw[hp];simp] at this;exact this
    |true=>
     refine aI ?_;refine⟨_,rfl,l,as,pss,rfl,b.seq d,b.tps p,ω,fun S hS=>?_⟩;have g:Same H (upd c S (gg S (dd pss).length)):=b.then (b.free hS);refine⟨S,_,rfl,ak,_,rfl,l,_,rfl,.inl (g.seq d),_,_,rfl,rfl,_,rfl,?_⟩;rw[Ab,U];refine be (fun h2=>?_) (fun h2=>?_)
     ·have I:(dd pss).length<pss.length:=by have:=of_decide_eq_true h2;omega
      have:=k _ g;rw[show bv pss=false from by unfold bv;rw[decide_eq_true I];simp] at this;exact this
     ·have I:¬(dd pss).length<pss.length:=fun z=>h2 (decide_eq_true ω)
      refine⟨_,rfl,l,as,pss,rfl,g.seq d,g.tps p,fun ps u=>?_,W,y hp,fun D2 H4 qs ⟨o,_,aZ,_,aX,_⟩=>?_⟩
      ·have:=List.all_eq_true.mp hp ps u
       unfold zU at this;simp only[AC,decide_eq_true_eq] at this;exact this.1.1.1.2
      ·refine⟨D2,_,rfl,.inl (SqL.of aZ),_,_,rfl,rfl,?_⟩
       have j:(qs.map fun q=>V.ref q.2).length=(dd (pss.flatMap parts)).length:=by
        rw[Ab,<-aX.length_eq,Ab]
       rw[j];have:=k H4 (g.trans o);have e:bv pss=decide (((dd (pss.flatMap parts)).length:Int)<=200):=by
        unfold bv;rw[hp,decide_eq_true W,decide_eq_false I]
        by_cases q:(dd (pss.flatMap parts)).length<=200
        ·rw[decide_eq_true q,decide_eq_true (show((dd (pss.flatMap parts)).length:Int)<=200 from ω)];rfl
        ·rw[decide_eq_false q,decide_eq_false (show ¬((dd (pss.flatMap parts)).length:Int)<=200 from ω)];rfl
       rw[e] at this;exact this
end
end K55
end
section
namespace L2
open PySem PySem.Spec PyProof.Rows
section
variable{X:Cx}
def q8(v d:Addr):HO:=.ext fun h=>h.IsValuesView v d
def Es:∀{l:List (Key×V)}{m:List (Key×Value)}{i:Nat}{kv:Key×V},KV l m->l[i]?=some kv->∃w,m[i]?=some w/\kv.1=w.1/\RelV kv.2 w.2
 |_,_,0,_,.cons h _,e=>by cases e;exact⟨_,rfl,h⟩
 |_,_,i+1,_,.cons _ t,e=>Es (i:=i) t (by simpa using e)
def nI(d:Addr)(o:Obj)(kvs:List (Key×V)):It:=⟨fun i H=>i<kvs.length/\H d=some (.frz o (.dK kvs)),fun i H v H'=>H'=H/\∃kv,kvs[i]?=some kv/\v=kV kv.1,fun i H=>i=kvs.length/\H d=some (.frz o (.dK kvs))⟩
def J3{P:Program}{w:World}{K:Ad}{tg:Expr}(d it:Addr){o:Obj}{kvs:List (Key×V)}{es:Array DictEntry}{ep:Nat}(hx:o.ExactDict)(r:o.data=.dict es ep)(hsz:es.size=kvs.length)(hk:∀(i:Nat)kv(hi:i<es.size),kvs[i]?=some kv->RelV (kV kv.1) es[i].key):Turn P w K tg (nI d o kvs) [it] it (fun i h=>h.IsKeyIter it d i es.size ep) where
 mem:=by simp
 obj:=fun i h st b hb=>by
  have e:b=it:=by simpa using hb
  subst e;obtain⟨o,e,c,dd⟩:=st;exact⟨o,e,fun v z=>by rw[dd] at z;cases z⟩
 keep:=fun i h h' st k=>by
  obtain⟨o,e,c⟩:=st;exact⟨o,k it (by simp) o e,c⟩
 item:=by
  intro X f hw g hc i aa s σ H E I hf st j;subst f hw g;obtain⟨f0,f1,f2,f3,f4,f5⟩:=hf it (by simp);obtain⟨hi,l⟩:=j;have hm:Dk.IsD s.heap d es ep:=⟨o,(show zC X.prog X.w H s.heap d (.frz o (.dK kvs)) from I.hok d _ l).1,hx,r⟩;have a:i<es.size:=by rw[hsz];exact hi
  refine Dk.item st hm a fun h' p u=>?_;have y:Inv X aa σ H {s with heap:=h'}:=I.turned (t':=s.toks) (fun b o hb e=>(u.2 b hb).trans e) f0 f1 f3 f4 f5;obtain⟨C,e1,e2,e3⟩:=id p;have q:kvs[i]?=some kvs[i]:=Af hi;exact⟨_,rfl,iN (s:={s with heap:=h'}) e1 e2 e3 ξ ⟨kV kvs[i].1,H,y,hk i _ a q,⟨rfl,_,q,rfl⟩,p,fun b hb=>(hf b hb).1⟩⟩
 done:=by
  intro X f hw g hc i aa s σ H E I hf st j;subst f hw g;obtain⟨f0,f1,f2,f3,f4,f5⟩:=hf it (by simp);obtain⟨hi,l⟩:=j;have hm:Dk.IsD s.heap d es ep:=⟨o,(show zC X.prog X.w H s.heap d (.frz o (.dK kvs)) from I.hok d _ l).1,hx,r⟩;have a:i=es.size:=by rw[hsz];exact hi
  subst a;exact Dk.done (I.ok.hd hc) st hm fun h' x=>⟨rfl,I.turned (t':=s.toks) (fun b o hb e=>x b o hb e) f0 f1 f3 f4 f5⟩
 self:=fun A i s Q E st h=>wpAny_pyIter_keyiter st h
def yt(te:TE):TI:=fun σ H R=>te σ H fun v H1=>∃d kvs,v=.ref d/\H1 d=some (.dK kvs)/\∀o,R (nI d o kvs) (upd H1 d (.frz o (.dK kvs)))
def J4{tg l:Expr}{tl:TE}(y:PE X l tl):PI X tg l (yt tl):=by
 intro aa s σ H R I h;refine aD (y aa s σ H _ I h) fun v a ⟨x,H1,I1,p,r⟩=>?_;obtain⟨d,kvs,e,hd,q⟩:=r;subst e;cases p;obtain⟨z,hs,vs,c,dd⟩:=p_ I1.hok hd;obtain⟨ep,u⟩:=dd.dictAt;obtain⟨o,es,f,hc,g,hk,hp,A⟩:=id u;have hsz:es.size=kvs.length:=by
  have:=hp.length;rw[<-c.length] at this
  simpa using this
 have hm:Dk.IsD a.heap d es ep:=⟨o,f,hc,g⟩;refine Dk.iter hs hm ?_;have I2:Inv X aa σ (upd H1 d (.frz o (.dK kvs))) a:=mC (t':=a.toks) I1 (by rw[hd];exact True.intro) (Heap.SameBut.refl _ _) ⟨o,f⟩ ⟨f,z,hs,vs,c,dd⟩;have hfr:upd H1 d (.frz o (.dK kvs)) a⁻¹=none:=I2.hok.fresh (Ag _);refine⟨a⁻¹,[a⁻¹],_,_,_,rfl,I2.kept (t':=a.toks) fun b o e=>Ae _ e,J3 d _ hc g hsz (fun i kv hi e=>?_),⟨_,Ak _ rfl,rfl,rfl⟩,fun b hb=>?_,q o⟩
 ·obtain⟨j,w,h1,_⟩:=Es c e
  have:=(hp.get? (e:=es[i]) (by simp[hi]) (show vs[i]?=some (j.1,j.2) from w)).1;rw[h1];exact wC this
 ·have e:b=a⁻¹:=by simpa using hb
  subst e;exact I2.fpOk (Ag _) hfr
def J5{d:Addr}{o:Obj}{kvs:List (Key×V)}{g:TG}{tb:TS}{D:Ends}{σ:St}{H:Hp}(a:Nat->St->Hp->Prop)(r:a 0 σ H)(s:∀i σ H,i<=kvs.length->a i σ H->H d=some (.frz o (.dK kvs)))(hs:∀i kv σ H,kvs[i]?=some kv->a i σ H->g (kV kv.1) σ H fun c H2=>tb {D with nx:=a (i+1),ct:=a (i+1),bk:=D.nx} c H2)(hd:∀σ H,a kvs.length σ H->D.nx σ H):∃W:Nat->Nat->St->Hp->Prop,(∃m,W 0 m σ H)/\∀i m σ H,W i m σ H->
   ((nI d o kvs).stop i H/\D.nx σ H)\/((nI d o kvs).go i H/\∃N:St->Hp->Prop,(∀f H',N f H'->∃h,h<m/\W (i+1) h f H')/\∀x H',(nI d o kvs).yld i H x H'->g x σ H' fun c H2=>tb {D with nx:=N,ct:=N,bk:=D.nx} c H2):=by
 refine⟨fun i m σ H=>m=kvs.length-i/\i<=kvs.length/\a i σ H,⟨kvs.length,by simp,AK _,r⟩,?_⟩;rintro i m σ H ⟨rfl,hi,p⟩;have q:=s i σ H hi p
 by_cases b:i<kvs.length
 ·refine .inr ⟨⟨b,q⟩,a (i+1),fun f H' j=>⟨kvs.length-(i+1),ω,rfl,b,j⟩,fun x H' y=>?_⟩
  obtain⟨e,kv,l,rfl⟩:=y;subst e;exact hs i kv σ _ l p
 ·have e:i=kvs.length:=ω
  subst e;exact .inl ⟨⟨rfl,q⟩,hd σ H p⟩
end
end L2
end
section
namespace Dk
open PySem PySem.Spec PyProof.Rows
section
variable{prog:Program}{w:World}{A:Around}{E:Ω}{s:Shared}{it d v:Addr}{i ep:Nat}{es:Array DictEntry}
def nJ{Q:Ω}(a:s.heap.IsValuesView v d)(hm:IsD s.heap d es ep)(h:Q (.ref s⁻¹) {s with heap:=s.heap.push {cls:=.type "dict_valueiterator",data:=.fields #[.ref d,.int 0 0,.int es.size 0,.int ep 0]}}):wpAny (model prog w) A (pyIter (.ref v)) Q E s:=by
 obtain⟨i,e,j,f⟩:=id a;obtain⟨o,b,hc,c⟩:=id hm;refine wpAny_pyIter_slot a.typeIs PySem.F.slot_dict_values_iter (AF PySem.F.slot_dict_values_iter a.typeIs PySem.F.entry_dict_values_iter ?_ (PySem.F.args_dict_values_iter_1 _));unfold Builtin.«dict_values.__iter__»;refine Aa (Ac ?_);refine Aa ?_;unfold Builtin.Dict_items.dictOf;refine Aa (AS e f (x:=.ref d) rfl (Ac ?_));refine Aa ?_;unfold Builtin.Dict_items.newIterator;refine Aa (AO b c ?_);refine Aa (wpAny_dictEpoch b c ?_);have g:Builtin.Dict_items.ownsTuple "dict_valueiterator"=false:=ξ
 simp only[g,Ah,if_false];refine AE (Ac ⟨_,rfl,"dict_valueiterator",_,⟨_,Ak _ rfl,rfl⟩,PySem.F.slot_dict_valueiterator_next.lookup,?_⟩)
 simpa[rawInt] using h
def nL{Q:Option Value->Shared->Prop}(a:s.heap.IsValIter it d i es.size ep)(hm:IsD s.heap d es ep)(hx:i<es.size)(h:∀h',h'.IsValIter it d (i+1) es.size ep->AN it s.heap h'->Q (some es[i].val) {s with heap:=h'}):wpAny (model prog w) A (pyNext (.ref it)) Q E s:=by
 obtain⟨o,b,hc,hd⟩:=id a;obtain⟨j,e,l,f⟩:=id hm;unfold pyNext;refine Aa (wpAny_attempt (AT (name:=Str.ofString "__next__") a.typeIs PySem.F.slot_dict_valueiterator_next
  (AF PySem.F.slot_dict_valueiterator_next a.typeIs PySem.F.entry_dict_valueiterator_next ?_ (PySem.F.args_dict_valueiterator_next_1 _))))
 refine Aa (Ac ?_);refine Aa ?_;refine Aa ?_
 first|refine Aa (wpAny_typeNameOfWhole_valiter a.typeIs (Ac ?_))|refine Aa (wpAny_typeNameOf_valiter a.typeIs (Ac ?_))
 refine Aa (wpAny_fieldsOf b hd ?_);have g:Builtin.Dict_items.ownsTuple "dict_valueiterator"=false:=ξ
 simp only[g,Ah,if_false];show wpAny _ _ (if(Value.ref d==Value.none)=true then _ else _) _ _ s;rw[if_neg (show ¬((Value.ref d==Value.none)=true) from Ao)];refine Aa (Ac ?_);refine Aa (AO e f ?_);rw[if_neg (by simp)];refine Aa (Ac ?_);refine Aa (wpAny_dictEpoch e f ?_);rw[if_neg (by simp)];refine Ac ?_;simp only[show ¬((i:Int)<0) from ω,if_false,Bb,Array.getElem?_eq_getElem hx];refine Aa ?_
 first|refine Aa (wpAny_typeNameOfWhole_valiter a.typeIs (Ac ?_))|refine Aa (wpAny_typeNameOf_valiter a.typeIs (Ac ?_))
 refine Aa (wpAny_isOneOf_valiter a.typeIs ?_);show wpAny _ _ (setField (.ref it) 1 (rawInt ((i:Int)+1)) >>= _) _ _ s;refine Aa (Bf b hd (by simp) ?_);have c:(s.heap.update it (Obj.mapFields (·.setIfInBounds 1 (rawInt ((i:Int)+1))))).IsValIter it d (i+1) es.size ep:=
  ⟨_,Heap.get?_update_self _ b (Obj.isFreed_of_fields (AX hd _)),(Obj.cls_mapFields ..).trans hc,by rw[AX hd];simp[rawInt]⟩
 refine Aa (AA ?_);refine Aa (wpAny_isOneOf_valiter (s:={s with heap:=s.heap.update it (Obj.mapFields (·.setIfInBounds 1 (rawInt ((i:Int)+1))))}) c.typeIs ?_);refine Aa (wpAny_isOneOf_valiter (s:={s with heap:=s.heap.update it (Obj.mapFields (·.setIfInBounds 1 (rawInt ((i:Int)+1))))}) c.typeIs ?_);show wpAny _ _ (pure es[i].val) _ _ _;exact Ac (Ac ⟨_,rfl,Ac (h _ c (AR ..))⟩)
def nR{Q:Option Value->Shared->Prop}(i:A.handled=none)(c:s.heap.IsValIter it d es.size es.size ep)(hm:IsD s.heap d es ep)(j:∀h',Heap.ExtBut it s.heap h'->Q none {s with heap:=h'}):wpAny (model prog w) A (pyNext (.ref it)) Q E s:=by
 obtain⟨o,e,hc,hd⟩:=id c;obtain⟨l,f,p,g⟩:=id hm;unfold pyNext;refine Aa (wpAny_attempt (AT (name:=Str.ofString "__next__") c.typeIs PySem.F.slot_dict_valueiterator_next
  (AF PySem.F.slot_dict_valueiterator_next c.typeIs PySem.F.entry_dict_valueiterator_next ?_ (PySem.F.args_dict_valueiterator_next_1 _))))
 refine Aa (Ac ?_);refine Aa ?_;refine Aa ?_
 first|refine Aa (wpAny_typeNameOfWhole_valiter c.typeIs (Ac ?_))|refine Aa (wpAny_typeNameOf_valiter c.typeIs (Ac ?_))
 refine Aa (wpAny_fieldsOf e hd ?_);have h:Builtin.Dict_items.ownsTuple "dict_valueiterator"=false:=ξ
 simp only[h,Ah,if_false];show wpAny _ _ (if(Value.ref d==Value.none)=true then _ else _) _ _ s;rw[if_neg (show ¬((Value.ref d==Value.none)=true) from Ao)];refine Aa (Ac ?_);refine Aa (AO f g ?_);rw[if_neg (by simp)];refine Aa (Ac ?_);refine Aa (wpAny_dictEpoch f g ?_);rw[if_neg (by simp)];refine Ac ?_;simp only[show ¬((es.size:Int)<0) from ω,if_false,Bb,Array.getElem?_eq_none (Ag es.size)];refine Aa ?_
 first|refine Aa (wpAny_typeNameOfWhole_valiter c.typeIs (Ac ?_))|refine Aa (wpAny_typeNameOf_valiter c.typeIs (Ac ?_))
 show wpAny _ _ (setField (.ref it) 0 .none >>= _) _ _ s;refine Aa (Bf e hd (by simp) ?_);show wpAny _ _ (newExc (.type "StopIteration") [] >>= _) _ _ _;refine Aa ?_;simp only[newExc,newTuple];refine Aa (AE ?_ (by size_fits));refine Aa (m:=firstArgMember _ _) (wpAny_of_eq (a:=Value.none) (by first|rfl|(simp only[firstArgMember];rfl)) ?_);refine AE ?_ (by size_fits);simp only[raiseNew];refine Aa (wpAny_handled ?_);rw[show A.in1.handled=none from i];refine Aa (Ac (wpAny_throw ?_));refine Aa (Bg (T:="StopIteration") (b:=true) ⟨_,Ak _ rfl,rfl⟩ isSubtype_stop ?_);exact Ac (j _ (((AR ..).extBut.push _).push _))
end
end Dk
namespace L2
open PySem PySem.Spec PyProof.Rows
section
variable{X:Cx}
def J6(hc:X.calm=true):z0 X (.type "list") (fun xs H Q=>∃a kvs,xs=[.ref a]/\Rd H a (.dT kvs)/\
  ∀(bs:List Addr),Paired (fun(p:List Key×V) b=>H b=some (.tup (p.1.map kV))) kvs bs->∀l,H l=none->Q (.ref l) (upd H l (.lst (bs.map V.ref)))):=by
 intro aa s σ H xs us Q I r h;obtain⟨a,kvs,rfl,hq,q⟩:=h;obtain⟨u,rfl,v⟩:=vals1 r;cases v;obtain⟨z,y,ys,c,o,es,ep,h1,h2,x,d,F⟩:=(show zC X.prog X.w H s.heap a (.dT kvs) from hq.ok I.hok);have f:es.size=kvs.length:=by
  have:=congrArg List.length d;rw[Ab,<-A4 c] at this
  simpa using this
 refine PySem.W.kdl_call (Dk.src (ep:=ep) (es:=es) y) (I.ok.hd hc) ⟨o,h1,h2,x⟩ (by rw[f];exact z) fun h' tk acc g j e it=>?_;obtain⟨n1,n2⟩:=it;have C:Paired (fun(p:List Key×V) b=>H b=some (.tup (p.1.map kV))) kvs (ys.map (·.2.1)):=by
  have:∀{l:List (List Key×V)}{m:List (List Key×Addr×Value)},KT H l m->Paired (fun(p:List Key×V) b=>H b=some (.tup (p.1.map kV))) l (m.map (·.2.1)):=by
   intro l m q
   induction q with
   |nil=>exact .nil
   |cons hq t ih=>exact .cons hq.2.1 ih
  exact this c
 have D:acc.toList=(ys.map (·.2.1)).map Value.ref:=by
  apply List.ext_getElem?;intro i;have hy:ys.length=acc.size:=by rw[n1,f];exact(A4 c).symm
  by_cases hi:i<acc.size
  ·obtain⟨A,g1,g2⟩:=n2 i acc[i] (by simp[hi])
   have g3:es.toList[i]?=some A:=by simpa using g1
   rw[d,Aj] at g3;have g4:ys[i]?=some ys[i]:=by simp[hy,hi]
   rw[g4] at g3;simp only[A1,A9] at g3;simp only[Aj,g4,A1,AD,Array.getElem?_eq_getElem hi];rw[g2,<-g3]
   rfl
  ·have g1:acc.toList.length<=i:=by simp;omega
   have g2:((ys.map (·.2.1)).map Value.ref).length<=i:=by simp[hy];omega
   rw[List.getElem?_eq_none g1,List.getElem?_eq_none g2]
 have E:Vals ((ys.map (·.2.1)).map V.ref) acc.toList:=by
  rw[D];generalize ys.map (·.2.1)=bs
  induction bs with
  |nil=>exact .nil
  |cons b bs ih=>exact .cons rfl ih
 refine⟨.ref s⁻¹,_,I.laid j (Ag _) (show zC X.prog X.w _ h' _ (.lst ((ys.map (·.2.1)).map V.ref)) from⟨?_,acc.toList,g,E,by simpa using e⟩),rfl,q _ C _ (I.hok.fresh (Ag _))⟩;simp only[Ab];rw[<-A4 c];exact z
def zk6:V->List V->Hp->VK->Prop:=fun x vs H Q=>∃d kvs,x=.ref d/\vs=[]/\Rd H d (.dT kvs)/\∀v,H v=none->Q (.ref v) (upd H v (q8 v d))
def gj:vr X "dict.values" zk6:=by
 intro aa s σ H x vs v us Q I e f h;obtain⟨d,kvs,rfl,rfl,hd,q⟩:=h;cases e;obtain rfl:=f.zero;obtain⟨z,hs,ys,g,o,es,ep,h1,h2,l,r,u⟩:=(show zC X.prog X.w H s.heap d (.dT kvs) from hd.ok I.hok);have a:s.TypeIs (.ref d) "dict":=⟨o,h1,h2.1⟩;have j:MeetsIn X.prog X.w (Builtin.«dict.values» ⟨[.ref d],[]⟩) (fun _ R s=>s.TypeIs (.ref d) "dict"/\R (.ok (.ret (.ref s⁻¹))) {s with heap:=s.heap.push {cls:=.type "dict_values",data:=.fields #[.ref d]}}):=
  .of_wp fun A R s ⟨a,h⟩=>by
   refine Aa ?_;unfold Builtin.Dict.noArgs;refine Aa (wpAny_notOrdered_dict a ?_);show wpAny _ _ (pure d) _ _ s;refine Ac ?_;show wpAny _ _ (Builtin.Dict.showsAll d >>= _) _ _ s;unfold Builtin.Dict.showsAll;rw[if_neg (by rw[hs];exact Ao)];refine Aa (Ac ?_);exact Aa (AE (Ac ⟨_,rfl,h⟩))
 refine call_meetsIn PySem.F.slot_dict_values a PySem.F.entry_dict_values (PySem.F.args_dict_values_1 _) j ⟨a,?_⟩;refine⟨.ref s⁻¹,_,I.laid (t':=s.toks) (o:=q8 s⁻¹ d) (fun b ob q=>Ae _ q) (Ag _) ?_,rfl,q _ (I.hok.fresh (Ag _))⟩;refine⟨⟨_,Ak _ rfl,rfl,rfl⟩,⟨_,Ak _ rfl⟩,fun h1 h2 p k=>?_⟩;obtain⟨o,i,c⟩:=p;exact⟨o,k o i,c⟩
def yz(d:Addr)(o:Obj)(kvs:List (List Key×V)):It:=⟨fun i H=>i<kvs.length/\H d=some (.frz o (.dT kvs)),fun i H v H'=>H'=H/\∃kv,kvs[i]?=some kv/\v=kv.2,fun i H=>i=kvs.length/\H d=some (.frz o (.dT kvs))⟩
def J7{P:Program}{w:World}{K:Ad}{tg:Expr}(d it:Addr){o:Obj}{kvs:List (List Key×V)}{es:Array DictEntry}{ep:Nat}(hx:o.ExactDict)(r:o.data=.dict es ep)(hsz:es.size=kvs.length)(hk:∀(i:Nat)kv(hi:i<es.size),kvs[i]?=some kv->RelV kv.2 es[i].val):Turn P w K tg (yz d o kvs) [it] it (fun i h=>h.IsValIter it d i es.size ep) where
 mem:=by simp
 obj:=fun i h st b hb=>by
  have e:b=it:=by simpa using hb
  subst e;obtain⟨o,e,c,dd⟩:=st;exact⟨o,e,fun v z=>by rw[dd] at z;cases z⟩
 keep:=fun i h h' st k=>by
  obtain⟨o,e,c⟩:=st;exact⟨o,k it (by simp) o e,c⟩
 item:=by
  intro X f hw g hc i aa s σ H E I hf st j;subst f hw g;obtain⟨f0,f1,f2,f3,f4,f5⟩:=hf it (by simp);obtain⟨hi,l⟩:=j;have hm:Dk.IsD s.heap d es ep:=⟨o,(show zC X.prog X.w H s.heap d (.frz o (.dT kvs)) from I.hok d _ l).1,hx,r⟩;have a:i<es.size:=by rw[hsz];exact hi
  refine Dk.nL st hm a fun h' p u=>?_;have y:Inv X aa σ H {s with heap:=h'}:=I.turned (t':=s.toks) (fun b o hb e=>(u.2 b hb).trans e) f0 f1 f3 f4 f5;obtain⟨C,e1,e2,e3⟩:=id p;have q:kvs[i]?=some kvs[i]:=Af hi;exact⟨_,rfl,iN (s:={s with heap:=h'}) e1 e2 e3 ξ ⟨kvs[i].2,H,y,hk i _ a q,⟨rfl,_,q,rfl⟩,p,fun b hb=>(hf b hb).1⟩⟩
 done:=by
  intro X f hw g hc i aa s σ H E I hf st j;subst f hw g;obtain⟨f0,f1,f2,f3,f4,f5⟩:=hf it (by simp);obtain⟨hi,l⟩:=j;have hm:Dk.IsD s.heap d es ep:=⟨o,(show zC X.prog X.w H s.heap d (.frz o (.dT kvs)) from I.hok d _ l).1,hx,r⟩;have a:i=es.size:=by rw[hsz];exact hi
  subst a;exact Dk.nR (I.ok.hd hc) st hm fun h' x=>⟨rfl,I.turned (t':=s.toks) (fun b o hb e=>x b o hb e) f0 f1 f3 f4 f5⟩
 self:=fun A i s Q E st h=>wpAny_pyIter_valiter st h
def J8(te:TE):TI:=fun σ H R=>te σ H fun x H1=>∃v d kvs,x=.ref v/\H1 v=some (q8 v d)/\Rd H1 d (.dT kvs)/\∀o H2,H2 d=some (.frz o (.dT kvs))->(∀b,b≠d->H2 b=H1 b)->R (yz d o kvs) H2
def Et{H:Hp}:∀{l:List (List Key×V)}{m:List (List Key×Addr×Value)}{i:Nat}{kv:List Key×V},KT H l m->l[i]?=some kv->∃w,m[i]?=some w/\kv.1=w.1/\RelV kv.2 w.2.2
 |_,_,0,_,.cons h _,e=>by cases e;exact⟨_,rfl,h.1,h.2.2⟩
 |_,_,i+1,_,.cons _ t,e=>Et (i:=i) t (by simpa using e)
def J9{tg l:Expr}{tl:TE}(L:PE X l tl):PI X tg l (J8 tl):=by
 intro aa s σ H R I h;refine aD (L aa s σ H _ I h) fun v a ⟨x,H1,I1,u,y⟩=>?_;obtain⟨v,d,kvs,e,E,hd,q⟩:=y;subst e;cases u;have J:a.heap.IsValuesView v d:=(show zC X.prog X.w H1 a.heap v (q8 v d) from I1.hok v _ E).1;have go:∀(o:Obj)(H2:Hp),Inv X aa σ H2 a->H2 d=some (.frz o (.dT kvs))->(∀b,b≠d->H2 b=H1 b)->wpAny (model X.prog X.w) X.A (pyIter (.ref v)) (pL X aa σ tg R) X.xe a:=by
  intro o H2 I2 p C;obtain⟨F,z,hs,ys,c,o',es,ep,h1,h2,f,g,r⟩:=(show zC X.prog X.w H2 a.heap d (.frz o (.dT kvs)) from I2.hok d _ p);obtain rfl:o=o':=An (F.symm.trans h1);have hsz:es.size=kvs.length:=by
   have:=congrArg List.length g;rw[Ab,<-A4 c] at this
   simpa using this
  have hm:Dk.IsD a.heap d es ep:=⟨o,h1,h2,f⟩;refine Dk.nJ J hm ?_;have hfr:H2 a⁻¹=none:=I2.hok.fresh (Ag _);refine⟨a⁻¹,[a⁻¹],_,_,_,rfl,I2.kept (t':=a.toks) fun b o e=>Ae _ e,J7 d _ h2 f hsz (fun i kv hi e=>?_),⟨_,Ak _ rfl,rfl,rfl⟩,fun b hb=>?_,q o H2 p C⟩
  ·obtain⟨M,G,g1,g2⟩:=Et c e
   have g3:es.toList[i]?=some es[i]:=by simp[hi]
   rw[g,Aj,G] at g3;simp only[A1,A9] at g3;rw[<-g3];exact g2
  ·have e:b=a⁻¹:=by simpa using hb
   subst e;exact I2.fpOk (Ag _) hfr
 rcases hd with hd|⟨o,hd⟩
 ·obtain⟨z,hs,ys,c,o,es,ep,h1,h2,f,g,r⟩:=(show zC X.prog X.w H1 a.heap d (.dT kvs) from I1.hok d _ hd)
  have j:KT (upd H1 d (.frz o (.dT kvs))) kvs ys:=KT.keeps c fun b zs e=>by rw[zj (fun D=>by rw[D,hd] at e;cases e)];exact e
  exact go o (upd H1 d (.frz o (.dT kvs))) (mC (ob:=.frz o (.dT kvs)) (t':=a.toks) I1 (by rw[hd];exact True.intro) (Heap.SameBut.refl _ _) ⟨o,h1⟩ ⟨h1,z,hs,ys,j,o,es,ep,h1,h2,f,g,r⟩) ak fun b hb=>zj hb
 ·exact go o H1 I1 hd fun _ _=>rfl
end
end L2
end
section
namespace DCp
open PySem
def yB:mroOf (.type "dict")=pure [.type "dict",.type "object"]:=by rw[mroOf_type];kernel_rfl
def J_:typeLookup (.type "dict") "__new__"=pure (some (.builtin "dict.__new__")):=by rw[typeLookup_type,builtinLookup_eq_fast];kernel_rfl
def zQ:TypeCalled "dict" "dict.__new__" "dict.__init__":=
 ⟨δ,δ,⟨_,_,yB⟩,madeBy_type yB J_ δ,δ,by rw[isSubtype_type];kernel_rfl,PySem.F.slot_dict_init⟩
def J'(a:Value):checkTypeCall "dict" ⟨[a],[]⟩=pure ():=by kernel_rfl
def Ka(a:Value):checkBuiltinCall "dict.__new__" ⟨[.type "dict",a],[]⟩=pure ():=by kernel_rfl
def Kb:entryFor table "dict.__new__"=some Builtin.«dict.__new__»:=entryFor_of_tree (by kernel_rfl)
def Eu:plainId "dict.__new__"=true:=δ
def yD:isSubtype (.type "dict") (.type "dict")=pure true:=by rw[isSubtype_type];kernel_rfl
section
variable{prog:Program}{w:World}{A:Around}{E:Ω}{s:Shared}
def Kc(a:Value){Q₁:Ω}(h:Q₁ (.ref s⁻¹) {s with heap:=s.heap.push {cls:=.type "dict",data:=.dict #[]}}):codeAny (model prog w) A (.call (.builtin "dict.__new__") ⟨[.type "dict",a],[]⟩) (wants Q₁ E) s:=by
 refine codeAny_of_tree (show wpAny _ A.in1 (do checkBuiltinCall "dict.__new__" ⟨[.type "dict",a],[]⟩;again (.builtin "dict.__new__" ⟨[.type "dict",a],[]⟩)) _ _ s from Aa (wpAny_of_eq (Ka a) (Ac ⟨plainId_quiet Eu _,A0 Kb ?_⟩)));rw[AZ Eu _];unfold Builtin.«dict.__new__»;have b:=yD;have c:=yB;obtain⟨hp,g,d,tk,os⟩:=s;dsimp only;refine Aa (wpAny_of_eq (a:=true) rfl ?_);simp only[A5,Ah,if_false];refine Aa (wpAny_of_eq b ?_);simp only[A5,Ah,if_false];refine Aa (wpAny_of_eq c ?_);rw[if_neg ξ];refine Aa (AE ?_);exact Ac h
end
end DCp
end
section
set_option maxHeartbeats 3200000
namespace STb
open PySem PySem.SetTable PyProof.Rows
def yG{b:Type}(next:Nat->Nat):∀(fuel k:Nat)(left:List b)(out:Array b),left.length=fuel->∃l,l.Perm left/\(pickOrder.go next fuel k left out).toList=out.toList++l
 |0,k,left,out,h=>⟨[],by rw[List.eq_nil_of_length_eq_zero h],by simp[pickOrder.go]⟩
 |fuel+1,k,left,out,h=>by
  have a:next k%left.length<left.length:=Nat.mod_lt _ ω;unfold pickOrder.go;rw[Af a];dsimp only;obtain⟨l,c,e⟩:=yG next fuel (k+1) (left.eraseIdx (next k%left.length)) (out.push left[next k%left.length]) (by rw[List.length_eraseIdx,if_pos a];omega);refine⟨left[next k%left.length]::l,?_,?_⟩
  ·refine(List.Perm.cons _ c).trans ?_
   rw[List.eraseIdx_eq_take_drop_succ];refine(List.perm_middle (l₁:=left.take (next k%left.length))).symm.trans ?_;rw[<-List.drop_eq_getElem_cons a,List.take_append_drop]
  ·rw[e,Array.toList_push,List.append_assoc]
   rfl
def Kd{b:Type}(next:Nat->Nat)(xs:Array b):(pickOrder next xs).toList.Perm xs.toList:=by
 obtain⟨l,a,e⟩:=yG next xs.size 0 xs.toList #[] (by simp);unfold pickOrder;rw[e]
 simpa using a
section
variable{prog:Program}{w:World}{K:Type}[DecidableEq K]{knd:KeyKind prog w K}{A:Around}{E:Ω}{s:Shared}
def Ke{B:List Addr}{S:Addr}{o:Obj}{es:Array (Int×Value)}{ep:Nat}{t:SetTable}{ks:List (List K)}(X:TS knd s.heap S o es ep t ks B)(hu:A.units<cLine){k:List K}{b:Addr}(hk:AH knd s.heap k b){Q:Option Nat->Shared->Prop}(h:∀r:Option Nat,r.isSome=decide (k∈ks)->Q r s):wpAny (model prog w) A (setFind S (.ref b) (At knd k)) Q E s:=by
 have T:=X.tb;have j:=fits_of T;unfold setFind setFindIn;refine Aa (AW X.at_ X.dt j ?_);dsimp only;have l:byScan (.ref b) es=false:=rfl;rw[l];simp only[Ah,if_false];obtain⟨ne,d,he,hm⟩:=xO T (At knd k);refine Aa ?_;unfold setSearch;refine D7 X hu hk d he hm (fun e r hr=>?_) (fun f=>?_) 100000 0 none ?_ (AK _) rfl (fun m i c g=>absurd g (Nat.not_lt_zero _))
 ·exact Ac (h r (by rw[hr rfl,decide_eq_true e]))
 ·exact Ac (h none (by rw[decide_eq_false f];rfl))
 ·have:t.mask<=255:=by rcases X.msk with ⟨a,_⟩|⟨a,_⟩|⟨a,_⟩|⟨a,_⟩|⟨a,_⟩|⟨a,_⟩<;>omega
  unfold turns at d;omega
def yL{Q:Bool->Shared->Prop}(h:Q (w.params.followText "set-order") s):wpAny (model prog w) A setsByText Q E s:=by
 unfold setsByText;exact Aa (wpAny_askSetting (Ac h))
def wp_walk{B:List Addr}{S:Addr}{o:Obj}{es:Array (Int×Value)}{ep:Nat}{t:SetTable}{ks:List (List K)}(X:TS knd s.heap S o es ep t ks B){Q:Array (Int×Value)->Shared->Prop}(h:∀r:Array (Int×Value),r.toList.Perm es.toList->Q r s):wpAny (model prog w) A (setWalk S) Q E s:=by
 have a:=fits_of X.tb;unfold setWalk;refine Aa (AW X.at_ X.dt a ?_);dsimp only;refine Aa (yL ?_);cases hb:w.params.followText "set-order" with
 |true=>
  simp only[if_true];exact Aa (wpAny_askSetting (Ac (h _ (Kd _ es))))
 |false=>
  have hw:t.led=true/\t.plain=true:=X.wk.resolve_left (by rw[hb];simp);simp only[Ah,if_false];show wpAny _ _ (ite ((!t.plain&&decide (es.size>1))=true) _ _) _ _ _;rw[hw.2];simp only[A5,Bool.false_and,Ah,if_false];show wpAny _ _ ((ite ((!t.led&&decide (es.size>1))=true) _ _) >>= _) _ _ _;rw[hw.1];simp only[A5,Bool.false_and,Ah,if_false];exact Aa (Ac (Ac (h es (List.Perm.refl _))))
def Kf{B:List Addr}{S:Addr}{o:Obj}{es:Array (Int×Value)}{ep:Nat}{t:SetTable}{ks:List (List K)}(X:TS knd s.heap S o es ep t ks B){b:List Addr}{d:Option Addr}{Q:Array (Int×Value)->Shared->Prop}(h:∀r:Array (Int×Value),r.toList.Perm es.toList->Q r s):wpAny (model prog w) A (setWalkUnseen S b d) Q E s:=by
 have a:=fits_of X.tb;unfold setWalkUnseen;refine Aa (AW X.at_ X.dt a ?_);dsimp only;refine Aa (yL ?_);have c:(w.params.followText "set-order" || (t.led&&t.plain)|| decide (es.size<=1))=true:=by
  rcases X.wk with e|⟨e1,e2⟩
  ·rw[e];rfl
  ·rw[e1,e2];simp
 rw[if_pos c];exact wp_walk X h
def Ev{B:List Addr}{S:Addr}{o:Obj}{es:Array (Int×Value)}{ep:Nat}{t:SetTable}{ks:List (List K)}(X:TS knd s.heap S o es ep t ks B){Q:Nat->Shared->Prop}(h:Q ep s):wpAny (model prog w) A (setEpoch S) Q E s:=by
 unfold setEpoch;exact Aa (AW X.at_ X.dt (fits_of X.tb) (Ac h))
def Ew{B:List Addr}{S:Addr}{o:Obj}{es:Array (Int×Value)}{ep:Nat}{t:SetTable}{ks:List (List K)}(X:TS knd s.heap S o es ep t ks B){Q:Nat->Shared->Prop}(h:Q ks.length s):wpAny (model prog w) A (Builtin.Frozenset.sizeOf S) Q E s:=by
 unfold Builtin.Frozenset.sizeOf setEntries;refine Aa (Aa (AW X.at_ X.dt (fits_of X.tb) (Ac (Ac ?_))));rw[X.sz];exact h
def yV{S:Addr}(a:s.TypeIs (.ref S) "set"){Q:Bool->Shared->Prop}(h:Q true s):wpAny (model prog w) A (Builtin.Frozenset.isAnySet (.ref S)) Q E s:=by
 unfold Builtin.Frozenset.isAnySet orM;refine Aa (Bg a sub_set_self ?_);exact Ac h
def Kg{u Y:List Addr}{S1 S2 R:Addr}{id:String}{j g:List (List K)}{O P:Obj}{S T:Array (Int×Value)}{C U:Nat}{W X:SetTable}(n1:S1≠R)(n2:S2≠R)(hu:A.units<cLine)(hv:∀k v n,knd.is k v=true->hashByValue n v=pure true)(hz:j.length<60):∀(l:List (Int×Value))(s:Shared)(d:List (List K))(Q:Unit->Shared->Prop),(∀e∈l,∃k b,k∈j/\b∈u/\e=(At knd k,Value.ref b)/\AH knd s.heap k b)->TS knd s.heap S1 O S C W j u->TS knd s.heap S2 P T U X g Y->
   (∃o es ep t,TS knd s.heap R o es ep t d u)->(∀k∈d,k∈j/\k∉g)->
   (∀h' F,(∃o es ep t,TS knd h' R o es ep t F u)->AN R s.heap h'->(∀k∈F,k∈j/\k∉g)->(∀k∈d,k∈F)->(∀e∈l,∀k,e.1=At knd k->(∃b,e.2=Value.ref b/\AH knd s.heap k b)->k∉g->k∈F)->Q () {s with heap:=h'})->
   wpAny (model prog w) A (forIn l PUnit.unit fun x _=>do
    holding [x.snd] (do
     let y <-setFind S2 x.snd x.fst
     let there <-pure y.isSome
     if(!there)=true then do
       let _ <-setAddHashed R x.snd x.fst
       pure ()
      else pure ())
    Builtin.Frozenset.unchanged id S1 C
    pure (ForInStep.yield PUnit.unit)) Q E s:=by
 intro l
 induction l with
 |nil=>
  intro s d Q _ _ _ hR hk h;exact Ac (h s.heap d hR (Heap.SameBut.refl ..) hk (fun _ z=>z) (fun e he=>by cases he))
 |cons e l ih=>
  intro s d Q J X1 X2 hR hk h;obtain⟨k,b,uw,jS,rfl,i⟩:=J e (Av);obtain⟨oR,sx,uf,tR,XR⟩:=hR;have vV:d.length<60:=Nat.lt_of_le_of_lt (XR.nd.length_le_of_subset fun x hx=>(hk x hx).1) hz;rw[List.forIn_cons];have N:∀(h1:Heap)(p:List (List K)),(∃o es ep t,TS knd h1 R o es ep t p u)->AN R s.heap h1->(∀k∈p,k∈j/\k∉g)->(∀k∈d,k∈p)->(k∉g->k∈p)->
    ∀I:ForInStep PUnit->Shared->Prop,((wpAny (model prog w) A (forIn l PUnit.unit fun x _=>do
      holding [x.snd] (do
       let y <-setFind S2 x.snd x.fst
       let there <-pure y.isSome
       if(!there)=true then do
         let _ <-setAddHashed R x.snd x.fst
         pure ()
        else pure ())
      Builtin.Frozenset.unchanged id S1 C
      pure (ForInStep.yield PUnit.unit)) Q E {s with heap:=h1})->I (ForInStep.yield PUnit.unit) {s with heap:=h1})->wpAny (model prog w) A (do
     Builtin.Frozenset.unchanged id S1 C
     pure (ForInStep.yield PUnit.unit)) I E {s with heap:=h1}:=by
   intro h1 p Z q oU ko mF I xx;have mv:∀c a,AH knd s.heap c a->AH knd h1 c a:=fun c a z=>iq z XR.at_ XR.dt q;have D:TS knd h1 S1 O S C W j u:=X1.moved (by rw[q.2 S1 n1];exact X1.at_) mv;have oD:TS knd h1 S2 P T U X g Y:=X2.moved (by rw[q.2 S2 n2];exact X2.at_) mv;unfold Builtin.Frozenset.unchanged;refine Aa (Aa (Ev (s:={s with heap:=h1}) D ?_));simp only[bne_self_eq_false,Ah,if_false];refine Ac (Ac (xx ?_));refine ih {s with heap:=h1} p Q (fun G he'=>?_) D oD Z oU fun h2 vN yq cy a1 L a3=>h h2 vN yq (q.trans cy) a1 (fun x hx=>L x (ko x hx)) fun G he' c e1 e2 M=>?_
   ·obtain⟨c,a,c1,c2,c3,c4⟩:=J G (Ax _ he')
    exact⟨c,a,c1,c2,c3,mv c a c4⟩
   ·rcases List.mem_cons.mp he' with rfl|he'
    ·obtain⟨a,e3,H⟩:=e2
     obtain rfl:b=a:=by simpa using e3
     obtain rfl:k=c:=IsTupleKey.inj i H;exact L k (mF M)
    ·obtain⟨a,e3,H⟩:=e2
     exact a3 G he' c e1 ⟨a,e3,mv c a H⟩ M
  refine Aa (Aa (AA (Aa (Ke X2 hu i fun r hr=>Aa (Ac ?_)))));rw[hr]
  by_cases f:k∈g
  ·rw[decide_eq_true f]
   simp only[A5,Ah,if_false];exact Ac (N s.heap d ⟨oR,sx,uf,tR,XR⟩ (Heap.SameBut.refl ..) hk (fun _ z=>z) (fun z=>absurd f z) _ fun z=>z)
  ·rw[decide_eq_false f]
   simp only[Bool.not_false,if_true];refine Aa (xZ XR hu hv i jS vV fun r' h' o' es' cg t' rX q=>Ac ?_);refine N h' _ ⟨o',es',cg,t',rX⟩ q (fun x hx=>?_) (fun x hx=>?_) (fun _=>?_) _ fun z=>z
   ·split at hx
    ·exact hk x hx
    ·rcases List.mem_append.mp hx with hx|hx
     ·exact hk x hx
     ·rw[List.mem_singleton.mp hx];exact⟨uw,f⟩
   ·split
    ·exact hx
    ·exact List.mem_append_left _ hx
   ·split
    ·assumption
    ·exact List.mem_append_right _ (List.mem_singleton.mpr rfl)
def Kh{j Z:List Addr}{S1 S2:Addr}{id:String}{d i:List (List K)}{q u:Obj}{N O:Array (Int×Value)}{P S:Nat}{T U:SetTable}(X1:TS knd s.heap S1 q N P T d j)(X2:TS knd s.heap S2 u O S U i Z)(hu:A.units<cLine)(W:∀k v n,knd.is k v=true->hashByValue n v=pure true)(X:d.length<60)(hq:¬d.length / 4>i.length){Q:Ω}(h:∀h' a,(∃o es ep t,TS knd h' s⁻¹ o es ep t a j)->(∀b o,b<s⁻¹->s.heap.get? b=some o->h'.get? b=some o)->(∀k,k∈a↔k∈d/\k∉i)->Q (.ref s⁻¹) {s with heap:=h'}):wpAny (model prog w) A (Builtin.Frozenset.difference id S1 (.ref S2)) Q E s:=by
 have g:s.TypeIs (.ref S1) "set":=⟨q,X1.at_,X1.ex.1⟩;have I:s.TypeIs (.ref S2) "set":=⟨u,X2.at_,X2.ex.1⟩;unfold Builtin.Frozenset.difference;dsimp only;refine Aa (yV I ?_);simp only[A5,Ah,if_false];refine Aa (Ac ?_);simp only[Bool.false_and,Ah,if_false,if_true];refine Aa (Ew X2 (Aa (Ew X1 ?_)));rw[if_neg hq];unfold Builtin.Frozenset.baseOf;refine Aa (Aa (Bg g sub_set_self (Ac ?_)));simp only[if_true];unfold newSet;refine Aa (Aa (yL ?_));dsimp only;simp only[newObj];rw[if_neg (by simp)];unfold newObjAsIs;refine Aa (wpAny_alloc ?_);refine Ac ?_;refine Aa (Ac ?_);have J:S1<s⁻¹:=Al X1.at_;have L:S2<s⁻¹:=Al X2.at_;obtain⟨led,l⟩:∃led:Bool,led=!w.params.followText "set-order":=⟨_,rfl⟩;rw[<-l];have keep:∀b o,s.heap.get? b=some o->(s.heap.push {cls:=.type "set",dict:=none,data:=.set #[] 0 (.fresh 0 0 led)}).get? b=some o:=fun b o e=>Ae _ e;have X1':=X1.moved (keep _ _ X1.at_) fun k b z=>jK z fun o e=>keep b o e;have M:=X2.moved (keep _ _ X2.at_) fun k b z=>jK z fun o e=>keep b o e;have Y:TS knd (s.heap.push {cls:=.type "set",dict:=none,data:=.set #[] 0 (.fresh 0 0 led)}) s⁻¹ {cls:=.type "set",dict:=none,data:=.set #[] 0 (.fresh 0 0 led)} #[] 0 (.fresh 0 0 led) ([]:List (List K)) j:=
  ⟨Ak _ rfl,⟨rfl,rfl,rfl⟩,rfl,(by simpa using qJ 0 0 led),rfl,List.nodup_nil,(fun e he=>by simp at he),(fun k hk=>by cases hk),.inl ⟨rfl,AK _⟩,(fun e he=>by simp at he),by
   rw[l];cases w.params.followText "set-order" <;> simp[SetTable.fresh]⟩
 refine Aa (Ev (s:={s with heap:=s.heap.push {cls:=.type "set",dict:=none,data:=.set #[] 0 (.fresh 0 0 led)}}) X1' ?_);refine Aa (AA ?_);refine Aa (Kf (s:={s with heap:=s.heap.push {cls:=.type "set",dict:=none,data:=.set #[] 0 (.fresh 0 0 led)}}) X1' fun r hr=>?_);rw[<-Array.forIn_toList];refine Aa ?_;refine Kg (s:={s with heap:=s.heap.push {cls:=.type "set",dict:=none,data:=.set #[] 0 (.fresh 0 0 led)}}) (Aq J) (Aq L) hu W X r.toList [] _ (fun e he=>?_) X1' M ⟨_,_,_,_,Y⟩ (fun k hk=>by cases hk) fun h' a hR x y _ C=>?_
 ·obtain⟨k,b,f,c,F⟩:=X1'.el e (hr.mem_iff.mp he)
  obtain⟨G,H,p⟩:=X1'.ad e (hr.mem_iff.mp he);rw[c] at p;obtain rfl:b=G:=by simpa using p
  exact⟨k,b,f,H,c,F⟩
 ·refine Ac (Ac (h h' a hR (fun b o hb e=>?_) fun k=>⟨y k,fun⟨D,z2⟩=>?_⟩))
  ·rw[x.2 b (Aq hb)]
   exact keep b o e
  ·obtain⟨b,f,c⟩:=X1'.ke k D
   exact C _ (hr.mem_iff.mpr f) k rfl ⟨b,rfl,c⟩ z2
end
end STb
end
section
set_option maxHeartbeats 3200000
namespace STb
open PySem PySem.SetTable PyProof.Rows
def Ki:entryFor table "set.__sub__"=some Builtin.«frozenset.__sub__»:=
 entryFor_alias (id':="frozenset.__sub__") (by kernel_rfl) rfl δ (by kernel_rfl)
section
variable{prog:Program}{w:World}{K:Type}[DecidableEq K]{knd:KeyKind prog w K}{A:Around}{E:Ω}{s:Shared}
def Kj{j C:List Addr}{S1 S2:Addr}{d e:List (List K)}{g i:Obj}{l p:Array (Int×Value)}{q r:Nat}{u x:SetTable}(X1:TS knd s.heap S1 g l q u d j)(X2:TS knd s.heap S2 i p r x e C)(hu:A.units+64<cLine)(y:∀k v n,knd.is k v=true->hashByValue n v=pure true)(z:d.length<60)(hq:¬d.length / 4>e.length){Q:Ω}(h:∀h' c,(∃o es ep t,TS knd h' s⁻¹ o es ep t c j)->(∀b o,b<s⁻¹->s.heap.get? b=some o->h'.get? b=some o)->(∀k,k∈c↔k∈d/\k∉e)->Q (.ref s⁻¹) {s with heap:=h'}):wpAny (model prog w) A (binaryOp .Sub (.ref S1) (.ref S2)) Q E s:=by
 have a:s.TypeIs (.ref S1) "set":=⟨g,X1.at_,X1.ex.1⟩;have f:s.TypeIs (.ref S2) "set":=⟨i,X2.at_,X2.ex.1⟩;refine wpAny_binaryOp_same (op:=.Sub) (T:="set") a f PySem.F.fills_set_sub PySem.F.slot_set_sub ?_;refine AF PySem.F.slot_set_sub a Ki ?_ (PySem.F.args_set_sub_2 _ _);unfold Builtin.«frozenset.__sub__»
 wp_delta
 refine Aa (show wpAny (model prog w) A.in1 (pure (Value.ref S1,Value.ref S2)) _ _ _ from Ac ?_);dsimp only;simp only[Ah,if_false];unfold andM;refine Aa (Aa (yV a ?_));refine yV f ?_;simp only[A5,Ah,if_false];unfold Builtin.Frozenset.addrOf;refine Aa (Ac (Aa (Kh X1 X2 (by show A.units+1<cLine;omega) y z hq fun h' c hR hk hm=>?_)));exact Ac ⟨_,rfl,by simp,h h' c hR hk hm⟩
end
end STb
end
section
set_option maxHeartbeats 3200000
namespace STb
open PySem PySem.SetTable PyProof.Rows
def Kk:∀n,n<60->5<=n->(sizeAbove (n*2)<=sizeLine)/\(sizeAbove (n*2)-1=15\/sizeAbove (n*2)-1=31\/sizeAbove (n*2)-1=63\/sizeAbove (n*2)-1=127):=δ
section
variable{prog:Program}{w:World}{K:Type}[DecidableEq K]{knd:KeyKind prog w K}{A:Around}{E:Ω}{s:Shared}
def Kl{B:List Addr}{S:Addr}{o:Obj}{es:Array (Int×Value)}{ep:Nat}{t:SetTable}(X:TS knd s.heap S o es ep t ([]:List (List K)) B)(hm:t.mask=7){n:Nat}(l:n<60){Q:Unit->Shared->Prop}(h:∀h' o' es' f t',TS knd h' S o' es' f t' ([]:List (List K)) B->AN S s.heap h'->Q () {s with heap:=h'}):wpAny (model prog w) A (setRoomFor S n) Q E s:=by
 have T:=X.tb;have i:=fits_of T;have j:es.size=0:=X.sz;have a:t.place.size=0:=by rw[T.size,AV];exact j
 have f0:t.fill=0:=by unfold SetTable.fill;rw[T.dum,a];rfl
 unfold setRoomFor;refine Aa (AW X.at_ X.dt i ?_);dsimp only;unfold SetTable.roomFor;rw[f0,a,hm,Nat.zero_add]
 by_cases q:n*5 ≥ 7*3
 ·rw[if_pos q]
  dsimp only;obtain⟨g,z2⟩:=Kk n l ω;have go:∀m2,sizeAbove (n*2)-1=m2->eH m2->m2%2=1->((m2=7/\es.size<=4)\/(m2=31/\es.size<=18)\/(m2=127/\es.size<=76)\/(m2=15/\es.size<=8)\/(m2=63/\es.size<=37)\/(m2=255/\es.size<=152))->
    wpAny (model prog w) A (setRelay S (n*2)) Q E s:=fun m2 b c d e=>
   D8 X.at_ X.ex X.dt T X.sz X.nd X.ad X.el X.ke b g c d ω ω e X.wk h
  rcases z2 with z|z|z|z
  ·exact go 15 z ny rfl ω
  ·exact go 31 z gd rfl ω
  ·exact go 63 z i9 rfl ω
  ·exact go 127 z ge rfl ω
 ·rw[if_neg q]
  exact Ac (h s.heap o es ep t X (Heap.SameBut.refl ..))
end
end STb
end
section
set_option maxHeartbeats 3200000
namespace STb
open PySem PySem.SetTable PyProof.Rows
section
variable{prog:Program}{w:World}{K:Type}[DecidableEq K]{knd:KeyKind prog w K}{A:Around}{E:Ω}{s:Shared}
def Km{B:List Addr}{S d:Addr}{id:String}{o l:Obj}{es:Array (Int×Value)}{a:Array DictEntry}{nP ep:Nat}{t:SetTable}(X:TS knd s.heap S o es ep t ([]:List (List K)) B)(hm:t.mask=7)(u:s.heap.get? d=some l)(iJ:l.cls=.type "dict")(D:l.data=.dict a nP)(gW:(d==A2)=false)(p:d≠S)(hu:A.units<cLine)(hv:∀k v n,knd.is k v=true->hashByValue n v=pure true){vals:List (List K)}{adr:Nat->Addr}(hn:vals.length=a.size)(hz:a.size<=59)(hB:∀i,i<a.size->adr i∈B)(ap:∀(i:Nat) e x,a[i]?=some e->vals[i]?=some x->e.key=.ref (adr i)/\e.hash=At knd x)(hT:∀(j:Nat) x,vals[j]?=some x->AH knd s.heap x (adr j)){Q:Unit->Shared->Prop}(h:∀h',(∃o es ep t,TS knd h' S o es ep t (dd vals) B)->AN S s.heap h'->Q () {s with heap:=h'}):wpAny (model prog w) A (Builtin.Frozenset.updateFrom id S (.ref d)) Q E s:=by
 have f:s.TypeIs (.ref d) "dict":=⟨l,u,iJ⟩;unfold Builtin.Frozenset.updateFrom Builtin.Frozenset.isAnySet orM;refine Aa (Aa (Bg f F.sub_dict_set ?_));refine Bg f F.sub_dict_frozenset ?_;simp only[Ah,if_false];refine Aa (wpAny_typeOf f ?_);rw[if_pos ξ];refine Aa (wpAny_rule ?_);unfold Builtin.Frozenset.addrOf;refine Aa (Ac ?_);rw[if_neg (by rw[gW];exact Ao)];refine Aa (wpAny_dictEpoch u D ?_);refine Aa (AO u D ?_);refine Aa (Kl X hm ω fun h1 U W Y Z X1 J=>?_);have mV:h1.get? d=some l:=by rw[J.2 d p];exact u
 refine Aa (AO (s:={s with heap:=h1}) mV D ?_);refine Aa ?_;rw[Std.Legacy.Range.forIn_eq_forIn_range'];simp only[Std.Legacy.Range.size,Nat.sub_zero,Nat.add_sub_cancel,Nat.div_one];refine wpAny_forIn_list _
  (fun rest _ s'=>∃h' i,s'={s with heap:=h'}/\rest=List.range' i (a.size-i)/\i<=a.size/\(∃o es ep t,TS knd h' S o es ep t (dd (vals.take i)) B)/\AN S s.heap h')
  _ ?_ ?_ _ _ ⟨h1,0,rfl,by simp,AK _,⟨U,W,Y,Z,by simpa[dd] using X1⟩,J⟩
 ·rintro x rest b s' ⟨h',i,rfl,hr,hi,⟨o',es',cg,t',X'⟩,z⟩
  have c:i<a.size:=by
   rcases Nat.lt_or_ge i a.size with h|h
   ·exact h
   ·rw[Nat.sub_eq_zero_of_le h] at hr;simp at hr
  obtain⟨rfl,bP⟩:x=i/\rest=List.range' (i+1) (a.size-(i+1)):=by
   have e:a.size-i=(a.size-(i+1))+1:=ω
   rw[e,List.range'_succ] at hr;injection hr with h1 h2
   exact⟨h1,h2⟩
  have H:h'.get? d=some l:=by rw[z.2 d p];exact u
  refine Aa (AO (s:={s with heap:=h'}) H D ?_);rw[Array.getElem?_eq_getElem c];have hx:vals[x]?=some vals[x]:=Af ω;obtain⟨q1,q2⟩:=ap x a[x] _ (by simp[c]) hx;show wpAny _ _ (holding [a[x].key] (setAddHashed S a[x].key a[x].hash) >>= _) _ _ _;rw[q1,q2];have C:=fo (vals.take x);rw[AJ] at C;refine Aa (AA (xZ X' hu hv (iq (hT x _ hx) X.at_ X.dt z) (hB x c) ω fun r y L M N O G bZ=>?_));have T:AN S s.heap y:=z.trans bZ;have o8:y.get? d=some l:=by rw[T.2 d p];exact u
  refine Aa (wpAny_dictEpoch (s:={s with heap:=y}) o8 D ?_);rw[if_neg (by simp)];have g:vals.take (x+1)=vals.take x++[vals[x]]:=by rw[List.take_add_one,hx];rfl
  have X3:TS knd y S L M N O (dd (vals.take (x+1))) B:=by
   rw[g,gY]
   by_cases q:vals[x]∈dd (vals.take x)
   ·rw[if_pos q] at G ⊢;exact G
   ·rw[if_neg q] at G ⊢;exact G
  exact Ac ⟨y,x+1,rfl,bP,c,⟨L,M,N,O,X3⟩,T⟩
 ·rintro b s' ⟨h',i,rfl,hr,hi,P,z⟩
  have I:i=a.size:=by
   have e:=congrArg List.length hr;simp at e;omega
  subst I;rw[Az ω] at P;exact Ac (h h' P z)
end
end STb
end
section
namespace STb
open PySem PySem.SetTable PyProof.Rows
section
variable{prog:Program}{w:World}{K:Type}[DecidableEq K]{knd:KeyKind prog w K}{A:Around}{E:Ω}{s:Shared}
def Kn{B:List Addr}{d:Addr}{g:Obj}{a:Array DictEntry}{L:Nat}{vals:List (List K)}{adr:Nat->Addr}{Q:Ω}(u:s.heap.get? d=some g)(M:g.cls=.type "dict")(N:g.data=.dict a L)(O:(d==A2)=false)(hu:A.units+64<cLine)(P:∀k v n,knd.is k v=true->hashByValue n v=pure true)(S:a.size<=59)(T:vals.length=a.size)(U:∀i,i<a.size->adr i∈B)(W:∀(i:Nat) e x,a[i]?=some e->vals[i]?=some x->e.key=.ref (adr i)/\e.hash=At knd x)(X:∀(j:Nat) x,vals[j]?=some x->AH knd s.heap x (adr j))(h:∀h' tk,(∃o es ep t,TS knd h' s⁻¹ o es ep t (dd vals) B)->(∀b o,b<s⁻¹->s.heap.get? b=some o->h'.get? b=some o)->Q (.ref s⁻¹) {s with heap:=h',toks:=tk}):wpAny (model prog w) A (call (.type "set") [.ref d]) Q E s:=by
 obtain⟨c,tl,Z⟩:=F.called_set.mro;have fu:=F.called_set.made;have aJ:=F.called_set.sub;refine wpAny_call (codeAny_of_tree ?_);show wpAny _ _ (callAny (.type "set") _) _ _ _;refine Ac ⟨Code.quiet_builtin _ δ,A0 F.entry_type_call ?_⟩;rw[Around.under_plain (weight_type_call_type "set" [.ref d] []) rfl];have h1:=F.called_set.notType;have h2:=F.called_set.canCreate;have nu:=F.typeCall_set_1 (.ref d)
 repeat(any_goals(first|assumption|wp_step))
 refine codeAny_mono (x8 (.ref d) (E:=E) (Q₁:=fun obj l=>∃led:Bool,(w.params.followText "set-order"=true\/led=true)/\obj=.ref s⁻¹/\l={s with heap:=s.heap.push {cls:=.type "set",dict:=none,data:=.set #[] 0 (.fresh 0 0 led)}}) ⟨_,by cases w.params.followText "set-order" <;> simp,rfl,rfl⟩) fun r l hr=>?_;cases r with
 |error e=>exact hr
 |ok fl=>
  cases fl with
  |ret obj=>
   obtain⟨led,G,rfl,rfl⟩:=hr;have q:(s.heap.push {cls:=.type "set",dict:=none,data:=.set #[] 0 (.fresh 0 0 led)}).get? s⁻¹=some {cls:=.type "set",dict:=none,data:=.set #[] 0 (.fresh 0 0 led)}:=Ak _ rfl;have I:Shared.TypeIs {s with heap:=s.heap.push {cls:=.type "set",dict:=none,data:=.set #[] 0 (.fresh 0 0 led)}} (.ref s⁻¹) "set":=⟨_,q,rfl⟩;have mI:=F.called_set.init.lookup;have oz:=F.called_set.init.bind (.ref s⁻¹)
   repeat(any_goals(first|assumption|wp_step))
   refine codeAny_mono (codeAny_call_builtin (R:=wants (fun r p=>r=.none/\∃h' tk,p={s with heap:=h',toks:=tk}/\
     (∃o es ep t,TS knd h' s⁻¹ o es ep t (dd vals) B)/\
     (∀b o,b<s⁻¹->s.heap.get? b=some o->h'.get? b=some o)) E) F.called_set.init.plain F.entry_set_init (check_set_init_1 I ?_)) fun y p f=>?_
   ·have J:d<s⁻¹:=Al u
    have Y:TS knd (s.heap.push {cls:=.type "set",dict:=none,data:=.set #[] 0 (.fresh 0 0 led)}) s⁻¹ {cls:=.type "set",dict:=none,data:=.set #[] 0 (.fresh 0 0 led)} #[] 0 (.fresh 0 0 led) ([]:List (List K)) B:=
     ⟨q,⟨rfl,rfl,rfl⟩,rfl,(by simpa using qJ 0 0 led),rfl,List.nodup_nil,fun e he=>by simp at he,fun k hk=>by simp at hk,.inl ⟨rfl,AK _⟩,(fun e he=>by simp at he),G.imp id fun z=>⟨z,rfl⟩⟩
    unfold Builtin.«set.__init__» noKeywords;generalize hPI:Builtin.Frozenset.updateFrom=PI
    wp_walk
    subst hPI;refine Km (s:={s with heap:=s.heap.push {cls:=.type "set",dict:=none,data:=.set #[] 0 (.fresh 0 0 led)}}) Y rfl (Ae _ u) M N O (Aq J) (by show A.units+1+1<cLine;omega) P T S U W
     (fun j x hx=>jK (X j x hx) fun o e=>Ae _ e) fun h' C D=>?_
    show wpAny _ _ (ret Value.none) _ _ _;refine Ac ⟨rfl,h',s.toks,rfl,C,fun b o hb e=>?_⟩;rw[D.2 b (Aq hb)];exact Ae _ e
   ·cases y with
    |error e=>exact f
    |ok fl₂=>
     cases fl₂ with
     |ret r=>
      obtain⟨rfl,h',tk,rfl,H,hk'⟩:=f
      repeat(any_goals(first|assumption|wp_step))
      exact h _ _ H hk'
     |_=>exact f.elim
  |_=>exact hr.elim
end
section
variable{prog:Program}{w:World}{K:Type}[DecidableEq K]{knd:KeyKind prog w K}
def TO(knd:KeyKind prog w K)(h:Heap)(S:Addr)(ks:List (List K))(B:List (List K×Addr)):Prop:=
 ∃o es ep t,h.get? S=some o/\o.ExactSet/\o.data=.set es ep t/\Tb t (es.map (·.1))/\es.size=ks.length/\ks.Nodup/\
  (∀e∈es.toList,∃k b,k∈ks/\(k,b)∈B/\e=(At knd k,Value.ref b))/\(∀k∈ks,∃b,(k,b)∈B/\(At knd k,Value.ref b)∈es.toList)/\
  ((t.mask=7/\es.size<=4)\/(t.mask=31/\es.size<=18)\/(t.mask=127/\es.size<=76)\/(t.mask=15/\es.size<=8)\/(t.mask=63/\es.size<=37)\/(t.mask=255/\es.size<=152))/\
  (w.params.followText "set-order"=true\/(t.led=true/\t.plain=true))
def TO.keep{h h':Heap}{S:Addr}{ks:List (List K)}{B:List (List K×Addr)}(x:TO knd h S ks B)(k:∀o,h.get? S=some o->h'.get? S=some o):TO knd h' S ks B:=
 let ⟨o,es,ep,t,h1,r⟩:=x;⟨o,es,ep,t,k o h1,r⟩
def TO.of{h:Heap}{S:Addr}{ks:List (List K)}{B:List (List K×Addr)}(x:∃o es ep t,TS knd h S o es ep t ks (B.map (·.2)))(j:∀p∈B,AH knd h p.1 p.2):TO knd h S ks B:=by
 obtain⟨o,es,ep,t,X⟩:=x;have a:∀e∈es.toList,∀k b,e=(At knd k,Value.ref b)->AH knd h k b->(k,b)∈B:=fun e he k b e1 e2=>by
  obtain⟨g,f,e3⟩:=X.ad e he;rw[e1] at e3;obtain rfl:b=g:=by simpa using e3
  obtain⟨p,hp,rfl⟩:=List.mem_map.mp f;obtain rfl:=e2.inj (j p hp);exact hp
 refine⟨o,es,ep,t,X.at_,X.ex,X.dt,X.tb,X.sz,X.nd,fun e he=>?_,fun k hk=>?_,X.msk,X.wk⟩
 ·obtain⟨k,b,c,d,i⟩:=X.el e he
  exact⟨k,b,c,a e he k b d i,d⟩
 ·obtain⟨b,c,d⟩:=X.ke k hk
  exact⟨b,a _ c k b rfl d,c⟩
def TO.ts{h:Heap}{S:Addr}{ks:List (List K)}{B:List (List K×Addr)}(x:TO knd h S ks B)(g:∀p∈B,AH knd h p.1 p.2):∃o es ep t,TS knd h S o es ep t ks (B.map (·.2)):=by
 obtain⟨o,es,ep,t,h1,h2,i,j,l,q,f,r,s,u⟩:=x;refine⟨o,es,ep,t,h1,h2,i,j,l,q,fun e he=>?_,fun k hk=>?_,s,fun e he=>?_,u⟩
 ·obtain⟨k,b,c,a,d⟩:=f e he
  exact⟨k,b,c,d,g _ a⟩
 ·obtain⟨b,c,a⟩:=r k hk
  exact⟨b,a,g _ c⟩
 ·obtain⟨k,b,c,a,d⟩:=f e he
  exact⟨b,List.mem_map.mpr ⟨_,a,rfl⟩,by rw[d]⟩
end
end STb
namespace L2
open PySem PySem.Spec PyProof.Rows
def cq(P:Program)(w:World)(D:Addr)(ks:Ξ)(B:List (List Int×Addr)):HO:=.ext fun h=>STb.TO (intKind P w) h D ks B
def TB(H:Hp)(B:List (List Int×Addr)):Prop:=∀p∈B,Tp H p.2 p.1
def TB.mono{H H':Hp}{B:List (List Int×Addr)}(h:TB H B)(e:Same H H'):TB H' B:=fun p hp=>e.tp (h p hp)
def TB.zip{H:Hp}{as:List Addr}{pss:Ξ}(h:Tps H as pss):TB H (pss.zip as):=by
 induction h with
 |nil=>intro p hp;simp at hp
 |cons q t ih=>
  intro p hp;rw[List.zip_cons_cons] at hp;rcases List.mem_cons.mp hp with rfl|hp
  ·exact q
  ·exact ih p hp
section
variable{X:Cx}
def TB.keys{aa:Ψ}{s:Shared}{σ:St}{H:Hp}{B:List (List Int×Addr)}(h:TB H B)(I:Inv X aa σ H s):∀p∈B,AH (intKind X.prog X.w) s.heap p.1 p.2:=fun p hp=>by
 obtain⟨b,a,p2,_⟩:=I.tuple (SqT.of (K:=X.K) (h p hp));exact x_ p2 (intsAre_of a)
def y'{P:Program}{w:World}{H:Hp}{h:Heap}{D:Addr}{ks:Ξ}{B:List (List Int×Addr)}(x:STb.TO (intKind P w) h D ks B):zC P w H h D (cq P w D ks B):=
 ⟨x,(let ⟨o,_,_,_,h1,_⟩:=x;⟨o,h1⟩),fun h1 h2 y a=>y.keep fun o e=>a o e⟩
def za{aa:Ψ}{s:Shared}{σ:St}{H:Hp}{D:Addr}{ks:Ξ}{B:List (List Int×Addr)}(I:Inv X aa σ H s)(e:H D=some (cq X.prog X.w D ks B)):STb.TO (intKind X.prog X.w) s.heap D ks B:=
 (show zC X.prog X.w H s.heap D (cq X.prog X.w D ks B) from I.hok D _ e).1
def Ko(hc:X.calm=true)(hu:X.A.units+64<cLine):z0 X (.type "set") (fun xs H Q=>∃(l:Addr)(as:List Addr)(pss:Ξ),xs=[.ref l]/\SqL X.K H l (as.map V.ref)/\Tps H as pss/\pss.length<=59/\
  ∀D,H D=none->Q (.ref D) (upd H D (cq X.prog X.w D (STb.dd pss) (pss.zip as)))):=by
 intro aa s σ H xs us Q I r h;obtain⟨l,as,pss,rfl,hq,hp,G,q⟩:=h;obtain⟨u,rfl,y⟩:=vals1 r;cases y;obtain⟨J,z,p1,_⟩:=I.list hq;obtain rfl:=aM z;have C:=hp.length;have g:=(TB.zip hp).keys I;have E:(pss.zip as).map (·.2)=as:=by rw[List.map_snd_zip ω]
 refine STb.D_ (B:=as) (knd:=intKind X.prog X.w) (vals:=pss) (adr:=fun i=>as.getD i 0) (I.ok.hd hc) p1.isList hu qP (by rw[Ai,Ab];omega) (by rw[Ai,Ab];omega) (fun i hi=>by rw[Ai,Ab] at hi;rw[AL,Af hi];exact A3 hi)
  (fun i v e=>?_) (fun j x e=>?_) fun h' tk T f=>?_
 ·have d:(as.map Value.ref)[i]?=some v:=by simpa using e
  rw[Aj] at d;cases c:as[i]? with
  |none=>rw[c] at d;simp at d
  |some a=>
   rw[c] at d;rw[<-An d,AL,c]
   rfl
 ·have F:j<as.length:=by rw[C];exact(List.getElem?_eq_some_iff.mp e).1
  have c:as[j]?=some as[j]:=Af F;rw[AL,c];refine g (x,as[j]) (Ap (i:=j) ?_);rw[List.getElem?_zip_eq_some];exact⟨e,c⟩
 ·refine⟨.ref s⁻¹,_,I.laid (o:=cq X.prog X.w s⁻¹ (STb.dd pss) (pss.zip as)) (fun b u e=>f b u (Al e) e) (Ag _) (y' (STb.TO.of (by rw[E];exact T) fun p hp=>?_)),rfl,q _ (I.hok.fresh (Ag _))⟩
  exact STb.jK (g p hp) fun o e=>f _ o (Al e) e
def Kp(hu:X.A.units+64<cLine):ci X (binaryOp .Sub) (fun x y H Q=>∃g i c f d j,x=.ref g/\y=.ref i/\H g=some (cq X.prog X.w g c d)/\H i=some (cq X.prog X.w i f j)/\TB H d/\TB H j/\c.length<60/\¬c.length / 4>f.length/\
  ∀a,(∀k,k∈a↔k∈c/\k∉f)->∀D,H D=none->Q (.ref D) (upd H D (cq X.prog X.w D a d))):=by
 intro aa s σ H x y v u Q I z C h;obtain⟨g,i,c,f,d,j,rfl,rfl,e1,e2,r,E,F,hq,q⟩:=h;cases z;cases C;obtain⟨L,M,N,O,G⟩:=(za I e1).ts (r.keys I);obtain⟨P,S,U,W,J⟩:=(za I e2).ts (E.keys I);refine STb.Kj G J hu qP F hq fun h' a T l hm=>?_;refine⟨.ref s⁻¹,_,I.laid (t':=s.toks) (o:=cq X.prog X.w s⁻¹ a d) (fun b u e=>l b u (Al e) e) (Ag _) (y' (STb.TO.of T fun p hp=>?_)),rfl,q a hm _ (I.hok.fresh (Ag _))⟩;exact STb.jK (r.keys I p hp) fun o e=>l _ o (Al e) e
def Kq:z0 X (.builtin "len") (fun xs H Q=>∃D ks B,xs=[.ref D]/\H D=some (cq X.prog X.w D ks B)/\Q (.int ks.length) H):=by
 intro aa s σ H xs us Q I r h;obtain⟨D,ks,B,rfl,hq,q⟩:=h;obtain⟨u,rfl,a⟩:=vals1 r;cases a;obtain⟨o,es,ep,t,h1,h2,b,c,d,f,g,i,e,j⟩:=za I hq;have hs:es.size<=152:=by rcases e with z|z|z|z|z|z<;>omega
 exact call_len_set h1 h2 b (STb.fits_of c) ω ⟨.int ks.length,H,I.tok _,⟨_,by rw[d]⟩,q⟩
end
end L2
end
section
namespace L2
open PySem PySem.Spec PyProof.Rows
def Ex{P:Program}{w:World}(ps:List Int):At (zw P w) (ps.map Sum.inl)=At (intKind P w) ps:=by
 unfold At;rw[As]
 rfl
section
variable{X:Cx}
def Kr(hu:X.A.units+64<cLine):z0 X (.type "set") (fun xs H Q=>∃(a:Addr)(kvs:List (List Key×V))(pss:Ξ),xs=[.ref a]/\Rd H a (.dT kvs)/\kvs.map (·.1)=pss.map (·.map Sum.inl)/\pss.length<=59/\
  ∀B,TB H B->∀D,H D=none->Q (.ref D) (upd H D (cq X.prog X.w D (STb.dd pss) B))):=by
 intro aa s σ H xs us Q I r h;obtain⟨a,kvs,pss,rfl,hq,hp,P,q⟩:=h;obtain⟨u,rfl,F⟩:=vals1 r;cases F;obtain⟨z,y,ys,c,o,es,ep,h1,h2,G,g,S⟩:=(show zC X.prog X.w H s.heap a (.dT kvs) from hq.ok I.hok);have J:kvs.length=ys.length:=A4 c;have d:kvs.length=pss.length:=by simpa using congrArg List.length hp
 have L:es.size=ys.length:=by
  have:=congrArg List.length g;rw[Ab] at this
  simpa using this
 have tps:Tps H (ys.map (·.2.1)) pss:=by
  have:∀{l:List (List Key×V)}{m:List (List Key×Addr×Value)}{pss:Ξ},KT H l m->l.map (·.1)=pss.map (·.map Sum.inl)->Tps H (m.map (·.2.1)) pss:=by
   intro l m pss q
   induction q generalizing pss with
   |nil=>intro e;cases pss with
    |nil=>exact .nil
    |cons p ps=>simp at e
   |cons hq t ih=>intro e;cases pss with
    |nil=>simp at e
    |cons p ps=>
     simp only[Ar,List.cons.injEq] at e;refine .cons ?_ (ih e.2);have:=hq.2.1;rw[e.1,As] at this;exact this
  exact this c hp
 have M:ys.map (·.1)=pss.map (·.map Sum.inl):=by
  rw[<-hp];have:∀{l:List (List Key×V)}{m:List (List Key×Addr×Value)},KT H l m->m.map (·.1)=l.map (·.1):=by
   intro l m q
   induction q with
   |nil=>rfl
   |cons hq t ih=>rw[Ar,Ar,ih,hq.1]
  exact this c
 have v:=TB.zip tps;have C:=v.keys I;have N:(pss.zip (ys.map (·.2.1))).map (·.2)=ys.map (·.2.1):=by rw[List.map_snd_zip (by rw[Ab];omega)]
 refine STb.Kn (B:=ys.map (·.2.1)) (knd:=intKind X.prog X.w) (vals:=pss) (adr:=fun i=>(ys.map (·.2.1)).getD i 0) h1 h2.1 G y hu qP ω ω (fun i hi=>by rw[AL,Af (by rw[Ab];omega)];exact A3 _)
  (fun i e x e1 e2=>?_) (fun j x e=>?_) fun h' tk T f=>?_
 ·have hi:i<ys.length:=by rw[<-L];exact(Array.getElem?_eq_some_iff.mp e1).1
  have g3:es.toList[i]?=some e:=by simpa using e1
  have g4:ys[i]?=some ys[i]:=Af hi;rw[g,Aj,g4] at g3;simp only[A1,A9] at g3;have g5:=congrArg (·[i]?) M;simp only[Aj,g4,e2,A1,A9] at g5;rw[<-g3,AL,Aj,g4];refine⟨rfl,?_⟩;show At (zw X.prog X.w) ys[i].1=_;rw[g5,Ex]
 ·have O:j<(ys.map (·.2.1)).length:=by rw[Ab,<-J,d];exact(List.getElem?_eq_some_iff.mp e).1
  have E:(ys.map (·.2.1))[j]?=some (ys.map (·.2.1))[j]:=Af O;rw[AL,E];refine C (x,(ys.map (·.2.1))[j]) (Ap (i:=j) ?_);rw[List.getElem?_zip_eq_some];exact⟨e,E⟩
 ·refine⟨.ref s⁻¹,_,I.laid (o:=cq X.prog X.w s⁻¹ (STb.dd pss) (pss.zip (ys.map (·.2.1)))) (fun b u e=>f b u (Al e) e) (Ag _) (y' (STb.TO.of (by rw[N];exact T) fun p hp=>?_)),rfl,q _ v _ (I.hok.fresh (Ag _))⟩
  exact STb.jK (C p hp) fun o e=>f _ o (Al e) e
end
end L2
end
section
namespace DEq
open PySem
section
variable{prog:Program}{w:World}{K:Type}[DecidableEq K]{knd:HeapKind prog w K}{A:Around}{E:Ω}{s:Shared}
def Ks{id:String}{a b:Addr}{xs ys:List (K×Addr×Value)}{Q:Bool->Shared->Prop}(hu:knd.room A)(T:(a==A2)=false)(hb:(b==A2)=false)(hx:s.heap.DictOfH knd a xs)(hy:s.heap.DictOfH knd b ys)(U:xs.length=ys.length)(W:∀(i:Nat) k p v,xs[i]?=some (k,p,v)->∃q n t t',v=.int n t/\ys[i]?=some (k,q,.int n t'))(h:Q true s):wpAny (model prog w) A (Builtin.Dict.samePairs id a b) Q E s:=by
 obtain⟨Y,c,Z,g,rj,l,G,ld,rF⟩:=hx;obtain⟨ob,L,pb,u,M,z,C,N,H⟩:=hy;have I:=size_of_entries (knd:=knd) G;have P:=size_of_entries (knd:=knd) C;unfold Builtin.Dict.samePairs Builtin.Dict.showsAll;rw[if_neg (by rw[T];exact Ao),if_neg (by rw[hb];exact Ao)];refine Aa (Ac (Aa (Ac ?_)));refine Aa (AO g l ?_);dsimp only;refine Aa (AO u z ?_);rw[if_neg (by rw[I,P,U];simp)];refine Aa (wpAny_dictEpoch g l ?_);refine Aa ?_;rw[Std.Legacy.Range.forIn_eq_forIn_range'];simp only[Std.Legacy.Range.size,Nat.sub_zero,Nat.add_sub_cancel,Nat.div_one];refine wpAny_forIn_list _ (fun rest r s'=>s'=s/\r.1=none/\∃i,rest=List.range' i (c.size-i)/\i<=c.size) _ ?_ ?_ _ _ ⟨rfl,rfl,0,by simp,AK _⟩
 ·rintro x rest r s' ⟨rfl,d,i,hr,hi⟩
  have f:i<c.size:=by
   rcases Nat.lt_or_ge i c.size with h|h
   ·exact h
   ·rw[Nat.sub_eq_zero_of_le h] at hr;simp at hr
  obtain⟨rfl,O⟩:x=i/\rest=List.range' (i+1) (c.size-(i+1)):=by
   have e:c.size-i=(c.size-(i+1))+1:=ω
   rw[e,List.range'_succ] at hr;injection hr with h1 h2
   exact⟨h1,h2⟩
  obtain⟨⟨k,p,v⟩,hkv⟩:∃y,xs[x]?=some y:=⟨xs[x]'(by rw[<-I];exact f),Af _⟩;obtain⟨q,n,t,t',rfl,D⟩:=W x k p v hkv;have hex:c[x]?=some ⟨knd.hash k,.ref p,.int n t⟩:=by rw[entry_at G x,hkv];rfl
  have F:knd.is s'.heap k p:=ld _ (Ap hkv);refine Aa (AO g l ?_);rw[hex];dsimp only;refine Aa (AA (Aa (wpAny_dictFind_heap hu F u z C N H (fun o=>absurd D (o x _)) fun j X J=>?_)));obtain rfl:=idxH_unique H J D;dsimp only;refine Aa (AO u z ?_);have S:L[j]?=some ⟨knd.hash k,.ref q,.int n t'⟩:=by rw[entry_at C j,D];rfl
  rw[S];dsimp only;refine AA (wpAny_eqBool_int ?_);rw[if_neg (by simp)];refine Aa (wpAny_dictEpoch g l ?_);rw[if_neg (by simp)];exact Ac ⟨rfl,rfl,j+1,O,f⟩
 ·rintro⟨r1,r2⟩ s' ⟨rfl,d,_⟩
  simp only at d;subst d;exact Ac h
end
end DEq
end
section
namespace DEq
open PySem
section
variable{prog:Program}{w:World}{K:Type}[DecidableEq K]{knd:HeapKind prog w K}{A:Around}{E:Ω}{s:Shared}
def Kt{a b:Addr}{xs ys:List (K×Addr×Value)}{Q:Bool->Shared->Prop}(hu:∀A':Around,A'.units<=A.units+8->knd.room A')(d:A.units<cLine)(f:(a==A2)=false)(hb:(b==A2)=false)(hx:s.heap.DictOfH knd a xs)(hy:s.heap.DictOfH knd b ys)(g:xs.length=ys.length)(j:∀(i:Nat) k p v,xs[i]?=some (k,p,v)->∃q n t t',v=.int n t/\ys[i]?=some (k,q,.int n t'))(h:Q true s):wpAny (model prog w) A (eqBool (.ref a) (.ref b)) Q E s:=by
 unfold eqBool
 try with_reducible refine AA ?_
 show wpAny _ _ (if(Value.ref a==Value.ref b)=true then _ else _) Q E s
 by_cases c:(Value.ref a==Value.ref b)=true
 ·rw[if_pos c]
  exact Aa (wpAny_rule (Ac h))
 ·rw[if_neg c]
  refine Aa (wpAny_richCompare_same_room (op:=.Eq) hx.typeIs hy.typeIs F.slot_dict_eq
   (AF F.slot_dict_eq hx.typeIs F.entry_dict_eq ?_ (F.args_dict_eq_2 _ _)) d)
  unfold Builtin.«dict.__eq__»
  wp_delta
  refine Aa ?_;unfold Builtin.Dict.dictSlotArgs;refine Aa (wpAny_notOrdered_dict hx.typeIs ?_);refine Aa (show wpAny _ _ (pure (Value.ref a,[Value.ref b])) _ _ _ from Ac ?_);refine Ac ?_;dsimp only;refine Aa (Bg hy.typeIs DCp.yD ?_);simp only[A5,Ah,if_false];refine Aa (show wpAny _ _ (pure a) _ _ _ from Ac ?_);refine Aa (show wpAny _ _ (pure b) _ _ _ from Ac ?_);refine Aa (Ks (hu _ (by show A.units+1<=_;omega)) f hb hx hy g j ?_);exact Ac ⟨_,rfl,(fun e=>nomatch e),wpAny_truthy_bool h⟩
end
end DEq
end
section
namespace L2
open PySem PySem.Spec PyProof.Rows
def re{P:Program}{w:World}{H:Hp}{h:Heap}{a:Addr}{kvs:List (List Key×V)}{pss:Ξ}(ok:HOk P w H h)(hq:Rd H a (.dT kvs))(hp:kvs.map (·.1)=pss.map (·.map Sum.inl)):(a==A2)=false/\∃xs:List (List Int×Addr×Value),(∀u d,h.DictOfH (tupleKind (intKind u d)) a xs)/\xs.length=kvs.length/\∀(i:Nat) x,xs[i]?=some x->pss[i]?=some x.1/\∃kv,kvs[i]?=some kv/\RelV kv.2 x.2.2:=by
 obtain⟨z,y,ys,g,o,es,ep,h1,h2,A,C,v⟩:=(show zC P w H h a (.dT kvs) from hq.ok ok);have key:∀{l:List (List Key×V)}{m:List (List Key×Addr×Value)}{c:Ξ},KT H l m->l.map (·.1)=c.map (·.map Sum.inl)->
   ∃xs:List (List Int×Addr×Value),m=xs.map (fun x=>(x.1.map Sum.inl,x.2))/\xs.map (·.1)=c/\(∀x∈xs,Tp H x.2.1 x.1)/\xs.length=l.length/\∀(i:Nat) x,xs[i]?=some x->c[i]?=some x.1/\∃kv,l[i]?=some kv/\RelV kv.2 x.2.2:=by
  intro l m c q
  induction q generalizing c with
  |nil=>intro e;cases c with
   |nil=>exact⟨[],rfl,rfl,(fun x hx=>by cases hx),rfl,(fun i x e=>by simp at e)⟩
   |cons p ps=>simp at e
  |@cons p q' ps uM hq t ih=>intro e;cases c with
   |nil=>simp at e
   |cons r rs=>
    simp only[Ar,List.cons.injEq] at e;obtain⟨xs,e1,e2,e3,j,s⟩:=ih e.2;have hk:=hq.2.1;rw[e.1,As] at hk;refine⟨(r,q'.2)::xs,?_,by rw[Ar,e2],fun x hx=>?_,by simp[j],fun i x ex=>?_⟩
    ·rw[Ar,<-e1,<-e.1,hq.1]
    ·rcases List.mem_cons.mp hx with rfl|hx
     ·exact hk
     ·exact e3 x hx
    ·cases i with
     |zero=>
      simp at ex;subst ex;exact⟨rfl,p,rfl,hq.2.2⟩
     |succ i=>simpa using s i x (by simpa using ex)
 obtain⟨xs,e1,e2,e3,j,s⟩:=key g hp;refine⟨y,xs,fun u d=>⟨o,es,ep,h1,h2,A,?_,fun x hx=>?_,?_⟩,j,s⟩
 ·rw[C,e1,As]
  refine AY fun x _=>?_;show DictEntry.mk (At (zw P w) (x.1.map Sum.inl)) (.ref x.2.1) x.2.2=DictEntry.mk (At (intKind u d) x.1) (.ref x.2.1) x.2.2;rw[Ex]
  rfl
 ·obtain⟨_,F,r,p⟩:=(show zC P w H h x.2.1 (.tup (x.1.map V.int)) from ok x.2.1 _ (e3 x hx))
  exact x_ p (intsAre_of r)
 ·have D:xs.map (fun x=>x.1.map (Sum.inl:Int->Key))=(xs.map (·.1)).map (·.map Sum.inl):=by rw[As];rfl
  rw[e1,As] at v;have E:((xs.map (·.1)).map (·.map (Sum.inl:Int->Key))).Nodup:=by rw[<-D];exact v
  exact List.Pairwise.of_map _ (fun a b f e=>f (by rw[e])) E
def Ku{P:Program}{w:World}{A:Around}{H:Hp}{s:Shared}{a b:Addr}{kvs:List (List Key×V)}{pss:Ξ}{ns:List Int}(hu:A.units+64<cLine)(ok:HOk P w H s.heap)(y:Rd H a (.dT kvs))(hb:Rd H b (.dT kvs))(hp:kvs.map (·.1)=pss.map (·.map Sum.inl))(C:kvs.map (·.2)=ns.map V.int):SeqAt.EqAt A s (.ref a) (.ref b) true:=by
 intro prog w E Q h;obtain⟨d,xs,f,D,g⟩:=re ok y hp;obtain⟨j,ys,l,bl,o⟩:=re ok hb hp;refine DEq.Kt (knd:=tupleKind (intKind prog w)) (fun A' z=>show A'.units<cLine from ω) ω d j (f prog w) (l prog w) ω (fun i k p v e=>?_) h;obtain⟨g1,kv,g2,g3⟩:=g i _ e;have hi:i<ys.length:=by
  have:=(List.getElem?_eq_some_iff.mp e).1;omega
 obtain⟨f1,F,f2,f3⟩:=o i ys[i] (Af hi);rw[g2] at f2;obtain rfl:=An f2;rw[g1] at f1;have u:k=ys[i].1:=An f1;have c:=congrArg (·[i]?) C;simp only[Aj,g2,A1] at c;cases en:ns[i]? with
 |none=>rw[en] at c;simp at c
 |some n=>
  rw[en] at c;have x:kv.2=V.int n:=by simpa using c
  rw[x] at g3 f3;obtain⟨t,q⟩:=(show ∃t,v=Value.int n t from g3);obtain⟨t',r⟩:=(show ∃t,ys[i].2.2=Value.int n t from f3);refine⟨ys[i].2.1,n,t,t',q,?_⟩;rw[Af hi,u,<-r]
end L2
end
section
namespace PySem.RvT
open PyProof.Rows
def nU:Slot "reversed" "__next__" "reversed.__next__":=
 .of (owner:="reversed") (n:="__next__") (by rw[typeLookup_type,builtinLookup_eq_fast];kernel_rfl) δ δ δ
  (by first|exact .inl δ|exact .inr δ) (by rw[isSubtype_type];kernel_rfl)
def Ey:entryFor table "reversed.__next__"=some Builtin.«reversed.__next__»:=entryFor_of_tree (by kernel_rfl)
def Ez(a:Value):argsOk "reversed.__next__" ⟨[a],[]⟩:=by unfold argsOk;kernel_rfl
def EA:Slot "reversed" "__iter__" "reversed.__iter__":=
 .of (owner:="reversed") (n:="__iter__") (by rw[typeLookup_type,builtinLookup_eq_fast];kernel_rfl) δ δ δ
  (by first|exact .inl δ|exact .inr δ) (by rw[isSubtype_type];kernel_rfl)
def Kv(a:Value):argsOk "reversed.__iter__" ⟨[a],[]⟩:=by unfold argsOk;kernel_rfl
def Kw:entryFor table "reversed.__iter__"=some Builtin.«dict_keyiterator.__iter__»:=
 entryFor_alias (id':="dict_keyiterator.__iter__") (by kernel_rfl) (by first|rfl|decide +kernel|(unfold String.splitOn;simp +decide [String.splitOnAux])) δ (by kernel_rfl)
def Kx:typeLookup (.type "tuple") "__reversed__"=pure none:=by rw[typeLookup_type,builtinLookup_eq_fast];kernel_rfl
def Ky:isSubtype (.type "tuple") (.type "dict")=pure false:=by rw[isSubtype_type];kernel_rfl
def Kz:Slot "reversed" "__init__" "object.__init__":=
 .of (owner:="object") (n:="__init__") (by rw[typeLookup_type,builtinLookup_eq_fast];kernel_rfl) δ δ δ
  (by first|exact .inl δ|exact .inr δ) (by rw[isSubtype_type];kernel_rfl)
def zb:TypeCalled "reversed" "reversed.__new__" "object.__init__":=
 ⟨δ,δ,⟨_,_,F.mro_reversed⟩,F.made_reversed,δ,F.sub_reversed_self,Kz⟩
def jV(t:Addr)(i:Int):Obj:={cls:=.type "reversed",data:=.fields #[.ref t,rawInt i]}
def IsRT(h:Heap)(a t:Addr)(i:Int):Prop:=∃o,h.get? a=some o/\o.cls=.type "reversed"/\o.data=.fields #[.ref t,rawInt i]
section
variable{prog:Program}{w:World}{A:Around}{E:Ω}{s:Shared}
def IsRT.typeIs{a t:Addr}{i:Int}(x:IsRT s.heap a t i):s.TypeIs (.ref a) "reversed":=let ⟨o,ho,hc,_⟩:=x;⟨o,ho,hc⟩
def IsRT.at{h h':Heap}{a l:Addr}{i:Int}(x:IsRT h a l i)(e:∀o,h.get? a=some o->h'.get? a=some o):IsRT h' a l i:=let ⟨o,ho,r⟩:=x;⟨o,e _ ho,r⟩
def KA{t:Addr}{c:Array Value}{Q₁:Ω}(d:IsTup s.heap t c)(e:c.size<=sizeLine)(h:∀tk,Q₁ (.ref s⁻¹) {s with heap:=s.heap.push (jV t ((c.size:Int)-1)),toks:=tk}):codeAny (model prog w) A (.call (.builtin "reversed.__new__") ⟨[.type "reversed",.ref t],[]⟩) (wants Q₁ E) s:=by
 refine codeAny_of_tree ?_;show wpAny _ A.in1 (do checkBuiltinCall "reversed.__new__" ⟨[.type "reversed",.ref t],[]⟩;again (.builtin "reversed.__new__" ⟨[.type "reversed",.ref t],[]⟩)) _ _ s;refine Aa (wpAny_of_eq (F.newCall_reversed_1 _) (Ac ⟨plainId_quiet F.plain_reversed_new _,A0 F.entry_reversed_new ?_⟩));rw[AZ F.plain_reversed_new _];unfold Builtin.«reversed.__new__»;refine Aa (wpAny_of_eq (newClass_reversed _) ?_)
 try dsimp only
 refine Aa (wpAny_of_eq (a:=()) (by first|rfl|kernel_rfl) ?_);refine Aa (wpAny_of_eq (a:=()) (by first|rfl|kernel_rfl) ?_)
 try dsimp only
 refine Aa (wpAny_specialOf d.typeIs Kx ?_)
 try dsimp only
 refine Aa (wpAny_mono (Q:=fun b s'=>b=true/\s'=s) (E:=fun _ _=>False) ?slot ?rest fun _ _ z=>z.elim)
 case slot=>
  show wpAny _ _ (isInstance (.ref t) (.type "dict") >>= _) _ _ s;refine Aa (Bg d.typeIs Ky ?_)
  try dsimp only
  simp only[Ah,if_false];refine Aa (wpAny_specialOf d.typeIs PyProof.Rows.slot_tuple_getitem.lookup ?_)
  try dsimp only
  rw[if_pos δ];exact Ac ⟨rfl,rfl⟩
 case rest=>
  rintro b s' ⟨rfl,rfl⟩;simp only[A5,Ah,if_false];refine Aa (len_tuple d (by rw[sizeLine_eq] at e;omega) ?_);refine Aa (m:=asInt? _) (Ac ?_)
  try dsimp only
  refine Aa ?_;show wpAny _ _ (newObj (.type "reversed") (.fields #[.ref t,rawInt ((c.size:Int)-1)])) _ _ _;refine AE (Ac ?_);exact h _
def KB{t:Addr}{c:Array Value}{Q:Ω}(d:IsTup s.heap t c)(e:c.size<=sizeLine)(h:∀tk,Q (.ref s⁻¹) {s with heap:=s.heap.push (jV t ((c.size:Int)-1)),toks:=tk}):wpAny (model prog w) A (call (.type "reversed") [.ref t]) Q E s:=by
 refine callType_codes (Q₁:=fun obj a=>a.TypeIs obj "reversed"/\Q obj a) zb (F.typeCall_reversed_1 _) F.entry_object_init (KA d e fun tk=>⟨⟨_,Ak _ rfl,rfl⟩,h tk⟩) fun obj a b=>?_;exact⟨b.1,F.args_object_init_2 obj _,object_init_meets zb.init.lookup zb.made ξ prog w A.in1 _ a ⟨b.1,rfl,b.2⟩⟩
def next_item{it t:Addr}{i:Nat}{c:Array Value}{x:Value}{Q:Option Value->Shared->Prop}(d:IsRT s.heap it t (i:Int))(e:IsTup s.heap t c)(hx:c[i]?=some x)(g:c.size<=sizeLine)(h:∀h' tk,IsRT h' it t ((i:Int)-1)->AN it s.heap h'->Q (some x) {s with heap:=h',toks:=tk}):wpAny (model prog w) A (pyNext (.ref it)) Q E s:=by
 obtain⟨o,b,hc,hd⟩:=id d;unfold pyNext;refine Aa (wpAny_attempt (AT (name:=Str.ofString "__next__") d.typeIs nU
  (AF nU d.typeIs Ey ?_ (Ez _))))
 unfold Builtin.«reversed.__next__»;refine Aa (wpAny_of_eq (a:=(Value.ref it,[])) rfl ?_)
 try dsimp only
 refine Aa (AS b hd (x:=.ref t) rfl ?_);refine Aa (AS b hd (x:=rawInt (i:Int)) rfl ?_);show wpAny _ _ (if(i:Int)<0 then _ else _) _ _ s;rw[if_neg ω];refine Aa (wpAny_specialOf e.typeIs PyProof.Rows.slot_tuple_getitem.lookup ?_);simp only[Option.isNone_some,Ah,if_false];have hi:i<c.size:=(Array.getElem?_eq_some_iff.mp hx).1;have f:seqIndex? (i:Int) c.size=some i:=by
  unfold seqIndex?;simp;omega
 refine Aa (wpAny_mkInt ?_);refine Aa (wpAny_attempt (getItem_tuple (s:={s with toks:=s.toks+1}) (j:=i) e ω (by rw[sizeLine_eq] at g;omega) f hx ?_))
 try dsimp only
 refine Aa (AS (s:={s with toks:=s.toks+1}) b hd (x:=rawInt (i:Int)) rfl ?_);show wpAny _ _ (setField (.ref it) 1 (rawInt ((i:Int)-1)) >>= _) _ _ _;refine Aa (Bf (s:={s with toks:=s.toks+1}) b hd (by simp) ?_);refine Ac ⟨x,rfl,Ac (h _ _ ?_ (AR ..))⟩;exact⟨_,Heap.get?_update_self _ b (Obj.isFreed_of_fields (AX hd _)),(Obj.cls_mapFields ..).trans hc,by
  rw[AX hd];simp⟩
def next_end{it t:Addr}{Q:Option Value->Shared->Prop}(f:A.handled=none)(d:IsRT s.heap it t (-1))(i:∀h',(∀b o,b≠it->s.heap.get? b=some o->h'.get? b=some o)->Q none {s with heap:=h'}):wpAny (model prog w) A (pyNext (.ref it)) Q E s:=by
 obtain⟨o,c,hc,hd⟩:=id d;unfold pyNext;refine Aa (wpAny_attempt (AT (name:=Str.ofString "__next__") d.typeIs nU
  (AF nU d.typeIs Ey ?_ (Ez _))))
 unfold Builtin.«reversed.__next__»;refine Aa (wpAny_of_eq (a:=(Value.ref it,[])) rfl ?_)
 try dsimp only
 refine Aa (AS c hd (x:=.ref t) rfl ?_);refine Aa (AS c hd (x:=rawInt (-1)) rfl ?_);show wpAny _ _ (if(-1:Int)<0 then _ else _) _ _ s;rw[if_pos ξ];refine Aa (wpAny_rule ?_);refine Aa ?_;show wpAny _ _ (setField (.ref it) 1 (rawInt (-1)) >>= fun _=>setField (.ref it) 0 .none) _ _ _;refine Aa (Bf c hd (by simp) ?_);have g:=Heap.get?_update_self (Obj.mapFields fun vs=>vs.setIfInBounds 1 (rawInt (-1))) c (Obj.isFreed_of_fields (AX hd _));have h:(Obj.mapFields (fun vs=>vs.setIfInBounds 1 (rawInt (-1))) o).data=.fields #[.ref t,rawInt (-1)]:=by rw[AX hd];simp
 refine Bf g h (by simp) ?_;refine Aa ?_;show wpAny _ _ (newExc (.type "StopIteration") [] >>= _) _ _ _;refine Aa ?_;simp only[newExc,newTuple];refine Aa (AE ?_ (by size_fits));refine Aa (m:=firstArgMember _ _) (wpAny_of_eq (a:=Value.none) (by first|rfl|(simp only[firstArgMember];rfl)) ?_);refine AE ?_ (by size_fits);simp only[raiseNew];refine Aa (wpAny_handled ?_)
 first|rw[show A.in1.handled=none from f]|rw[f]
 refine Aa (Ac (wpAny_throw ?_));refine Aa (Bg (T:="StopIteration") (b:=true) ⟨_,Ak _ rfl,rfl⟩ isSubtype_stop ?_);refine Ac (i _ fun b ob hb e=>?_);refine Ae _ (Ae _ ?_);rw[Heap.get?_update_ne _ _ _ _ hb,Heap.get?_update_ne _ _ _ _ hb];exact e
def EC{it t:Addr}{i:Int}{Q:Ω}(a:IsRT s.heap it t i)(h:Q (.ref it) s):wpAny (model prog w) A (pyIter (.ref it)) Q E s:=by
 refine wpAny_pyIter_slot a.typeIs EA (AF EA a.typeIs Kw ?_ (Kv _));show wpAny _ _ (ret (.ref it)) _ _ s;exact Ac ⟨_,rfl,"reversed",_,a.typeIs,nU.lookup,h⟩
end
end PySem.RvT
namespace L2
open PySem PySem.Spec PyProof.Rows
end L2
end
section
namespace L2
open PySem PySem.Spec PyProof.Rows
mutual
inductive DV(K:Ad)(H:Hp):V->PyData->Prop where
 |bl (b:Bool):DV K H (.bl b) (.bool b)
 |int (i:Int):DV K H (.int i) (.int i)
 |str (z:Str):DV K H (.str z) (.str z)
 |lst {l:Addr} {xs:List V} {ds:List PyData} (h:SqL K H l xs) (t:DVs K H xs ds):DV K H (.ref l) (.list ds)
inductive DVs(K:Ad)(H:Hp):List V->List PyData->Prop where
 |nil:DVs K H [] []
 |cons {x:V} {d:PyData} {xs:List V} {ds:List PyData} (h:DV K H x d) (t:DVs K H xs ds):DVs K H (x::xs) (d::ds)
end
section
variable{X:Cx}{aa:Ψ}{σ:St}{H:Hp}{s:Shared}
mutual
def DV.reads(I:Inv X aa σ H s):∀{x:V}{d:PyData}{u:Value},DV X.K H x d->RelV x u->∃a,Reads s.heap u d a
 |_,_,_,.bl b,r=>by cases r;exact⟨_,.bool b⟩
 |_,_,_,.int i,r=>by obtain⟨t,rfl⟩:=r;exact⟨_,.int i t⟩
 |_,_,_,.str z,r=>by obtain⟨t,rfl⟩:=r;exact⟨_,.str z t⟩
 |_,_,_,.lst h t,r=>by
  cases r;obtain⟨f,c,p,_⟩:=I.list h;obtain⟨o,e,hc,n,hd⟩:=p.isList;obtain⟨a,q⟩:=DVs.reads I t c;exact⟨_,.list e hc hd (by simpa using q)⟩
def DVs.reads(I:Inv X aa σ H s):∀{xs:List V}{ds:List PyData}{us:List Value},DVs X.K H xs ds->Vals xs us->∃c,ReadsAll s.heap us ds c
 |_,_,_,.nil,.nil=>⟨_,.nil⟩
 |_,_,_,.cons h t,.cons r rs=>by
  obtain⟨a,q⟩:=DV.reads I h r;obtain⟨b,d⟩:=DVs.reads I t rs;exact⟨_,.cons q d⟩
end
end
def nX(neg:Bool)(K:Ad):R2:=fun x y H Q=>∃d e,DV K H x d/\DV K H y e/\SeqAt.shaped d=true/\SeqAt.shaped e=true/\SeqAt.noMix d e=true/\Q (.bl (if neg then !same d e else same d e)) H
section
variable{X:Cx}
def EE(hu:X.A.units+64<cLine):ci X (compareOp .NotEq) (nX true X.K):=by
 intro aa s σ H x y v u Q I a b h;obtain⟨d,e,h1,h2,c,f,nm,q⟩:=h;obtain⟨j,g⟩:=h1.reads I a;obtain⟨l,i⟩:=h2.reads I b;exact ne_dataH_same g i c f hu nm ⟨.bl _,H,I,rfl,q⟩
end
abbrev jW(ns:List Int):PyData:=.list (ns.map Be)
def KC(ns ms:List Int):same (jW ns) (jW ms)=decide (ns=ms):=by simp only[same];exact PySem.W.ke_sameAll ns ms
def KD(a b:List Int):SeqAt.noMix (jW a) (jW b)=true:=SeqAt.noMix_of_shape (.list .int) rfl _ _ (by simp[Shape.has]) (by simp[Shape.has])
def EF{K:Ad}{H:Hp}:∀ns:List Int,DVs K H (ns.map V.int) (ns.map Be)
 |[]=>.nil
 |n::r=>.cons (.int n) (EF r)
def EG{K:Ad}{H:Hp}{l:Addr}{ns:List Int}(h:SqL K H l (ns.map V.int)):DV K H (.ref l) (jW ns):=.lst h (EF ns)
end L2
end
section
namespace L2
open PySem PySem.Spec PyProof.Rows
def KF(i j:Int):Prop:=0<j/\j<18446744073709551616
section
variable{X:Cx}
def EH:ci X (binaryOp .FloorDiv) (rI KF fun i j=>.int (i / j)):=pV fun i j _ _ _ _ _ hc q=>by
 have h1:(0:Int)<j:=hc.1;have h2:j<18446744073709551616:=hc.2;refine floordiv_int ω (by rw[Int.fdiv_eq_ediv_of_nonneg i ω];exact q) (.inl (PyProof.noPylong_of_log2 ?_));have a:j.natAbs≠0:=ω
 have b:j.natAbs.log2<64:=(Nat.log2_lt a).mpr ω;omega
end
end L2
end
section
namespace K55
open K1
open PySem L2 STb
abbrev zc:Stmt:=top 44
abbrev jX:Stmt:=top 45
abbrev jY:Stmt:=top 46
def EI(x y:Int):Prop:=0<=x/\(y=0\/(y=1/\x<4294967296))
def zG(H:Hp)(p:Addr):Prop:=∃x y,H p=some (.lst [.int x,.int y])/\EI x y
def zu(p:Addr)(H H':Hp):Prop:=∀b o,b≠p->H b=some o->H' b=some o
def zu.trans{p:Addr}{H H1 H2:Hp}(a:zu p H H1)(b:zu p H1 H2):zu p H H2:=fun c o hc e=>b c o hc (a c o hc e)
def zu.of{p:Addr}{H H1:Hp}(a:Same H H1):zu p H H1:=fun c o _ e=>a c o e
def zu.free{p:Addr}{H H':Hp}(e:zu p H H')(hb:zG H p)(a:zG H' p){l:Addr}(h:H' l=none):H l=none:=by
 cases q:H l with
 |none=>rfl
 |some o=>
  obtain⟨x,y,e1,_⟩:=a;have b:l≠p:=fun z=>by rw[z,e1] at h;cases h
  rw[e l o b q] at h;cases h
def zG.same{H H':Hp}{p:Addr}(b:zG H p)(e:Same H H'):zG H' p:=let ⟨x,y,h,o⟩:=b;⟨x,y,e _ _ h,o⟩
def zG.ne{H:Hp}{p l:Addr}{as:List Addr}(b:zG H p)(h:H l=some (.lst (as.map V.ref))):l≠p:=by
 obtain⟨x,y,e,_⟩:=b;refine dj h e fun z=>?_;injection z with z
 cases as with
 |nil=>cases z
 |cons a r=>rw[Ar] at z;cases z
def zG.net{H:Hp}{p t:Addr}{xs:List V}(b:zG H p)(h:H t=some (.tup xs)):t≠p:=by
 obtain⟨x,y,e,_⟩:=b;exact dj h e (by intro z;cases z)
def zu.tp{p:Addr}{H H':Hp}{a:Addr}{ps:List Int}(e:zu p H H')(b:zG H p)(h:Tp H a ps):Tp H' a ps:=e _ _ (b.net h) h
def zu.tps{p:Addr}{H H':Hp}{as:List Addr}{pss:Ξ}(e:zu p H H')(b:zG H p)(h:Tps H as pss):Tps H' as pss:=Paired.mapP h fun _ _ q=>e.tp b q
def zu.then{p:Addr}{H H1:Hp}{a:Addr}{o:HO}(e:zu p H H1)(h:H a=none):zu p H (L2.upd H1 a o):=fun b u hb q=>by rw[zj (zh q h)];exact e b u hb q
def zG.upd{H:Hp}{p l:Addr}{o:HO}(b:zG H p)(h:l≠p):zG (L2.upd H l o) p:=let ⟨x,y,e,k⟩:=b;⟨x,y,by rw[zj h.symm];exact e,k⟩
def zG.new{H:Hp}{p l:Addr}{o:HO}(b:zG H p)(h:H l=none):zG (L2.upd H l o) p:=b.same (Same.new h)
section
variable{P:Program}{w:World}{K:Ad}{mg:Str->Option Value}{base:Heap}
def EJ(K:Ad):Sp:=fun vs H Q _=>∃(l:Addr)(ns:List Int),vs=[.ref l,.int 0]/\SqL K H l (ns.map V.int)/\∀n,Q (.int n) H
def KG:zq ["script","k"] ["script","k"] (zg zc):=⟨rfl,rfl,rfl,δ,rfl,δ,δ⟩
def KH{f:Addr}{fd:FuncData}(F:Fun K "_law_cell_at" "_law_cell_at" zc f fd)(B:Bt mg):FnOk P w K mg base az 1 f fd ["script","k"] (EJ K):=by
 refine F.ok KG (fun vs H Q E h=>?_) (fun cdv A outer s H vs Q E hr h=>?_)
 ·obtain⟨l,ns,rfl,_⟩:=h;rfl
 ·obtain⟨l,ns,rfl,a,k⟩:=h
  refine⟨_,zd (zR (zp kx (pv 1) (zl zk rfl B.len zW (ac (pv 0) al)) (ar _)) (zi (zt (zN zD (pv 0) (pv 1) (fun _ _=>rfl)))) zv) (zi (zt zf)),?_⟩;refine⟨_,rfl,_,rfl,l,_,rfl,.inl a,_,_,rfl,rfl,_,rfl,?_⟩;refine be (fun h1=>?_) (fun h1=>?_)
  ·cases ns with
   |nil=>have:=of_decide_eq_true h1;simp at this
   |cons n ns=>exact⟨_,rfl,_,rfl,l,_,_,_,rfl,rfl,a,zx (j:=0) rfl,k n⟩
  ·exact k 0
def EK:Sp:=fun vs H Q _=>∃n,vs=[.int n]/\∀p x y,H p=none->EI x y->Q (.ref p) (upd H p (.lst [.int x,.int y]))
def KI:zq ["cell"] ["cell"] (zg jX):=⟨rfl,rfl,rfl,δ,rfl,δ,δ⟩
def KJ{f:Addr}{fd:FuncData}(F:Fun K "_law_box" "_law_box" jX f fd):FnOk P w K mg base az 1 f fd ["cell"] EK:=by
 refine F.ok KI (fun vs H Q E h=>?_) (fun cdv A outer s H vs Q E hr h=>?_)
 ·obtain⟨n,rfl,_⟩:=h;rfl
 ·obtain⟨n,rfl,k⟩:=h
  refine⟨_,zd (zR (zp Hq (pv 0) (zE pZ zf zf) (ar _)) (zi (zt (zO (ac (zE ku (pv 0) (zE pZ zf zf)) (ac zf al))))) zv)
   (zi (zt (zO (ac (zE iR (zE eZ (zE jE (zE iR (pv 0) (zE pZ zf zf)) zf) zf) zf) (ac zf al))))),?_⟩
  have hc:lX 10 18:=⟨ξ,ξ,ξ⟩;have a:(10:Int) ^ (18:Int).toNat=1000000000000000000:=ξ
  refine⟨_,rfl,_,_,rfl,rfl,hc,_,_,rfl,rfl,_,rfl,?_⟩;refine be (fun h1=>?_) (fun h1=>?_)
  ·refine⟨_,rfl,_,_,rfl,rfl,hc,_,_,rfl,rfl,ze (by simp),fun p hp=>k p _ 0 hp ⟨?_,.inl rfl⟩⟩
   have:=of_decide_eq_true h1;omega
  ·refine⟨_,rfl,_,_,rfl,rfl,hc,_,_,rfl,rfl,(by show(0:Int)<10 ^ (18:Int).toNat;rw[a];decide),_,_,rfl,rfl,.inr ⟨ξ,ξ⟩,_,_,rfl,rfl,_,_,rfl,rfl,(by show(0:Int)<2147483629;decide),ze (by simp),fun p hp=>k p _ 1 hp ⟨?_,.inr ⟨rfl,?_⟩⟩⟩
   ·exact Int.emod_nonneg _ ξ
   ·have:=Int.emod_lt_of_pos (n%10 ^ (18:Int).toNat*69621+7001) (show(0:Int)<2147483629 from ξ)
    omega
def hF:Sp:=fun vs H Q _=>∃p m,vs=[.ref p,.int m]/\zG H p/\0<m/\m<18446744073709551616/\∀r H',0<=r->r<m->zu p H H'->zG H' p->Q (.int r) H'
def zz:zq ["box","most","found","mixed"] ["box","most"] (zg jY):=⟨rfl,rfl,rfl,δ,rfl,δ,δ⟩
def nY{f:Addr}{fd:FuncData}(F:Fun K "_law_take" "_law_take" jY f fd):FnOk P w K mg base az 1 f fd ["box","most"] hF:=by
 refine F.ok zz (fun vs H Q E h=>?_) (fun cdv A outer s H vs Q E hr h=>?_)
 ·obtain⟨p,m,rfl,_⟩:=h;rfl
 ·obtain⟨p,m,rfl,⟨x,y,hp,d,g⟩,a,hm,k⟩:=h
  refine⟨_,zd (zR (zp db (zN zD (pv 0) zf (fun _ _=>rfl)) zf (ar _))
    (zd (zr (i:=2) zz.nd rfl (Or.inl rfl) (zE iR (zN zD (pv 0) zf (fun _ _=>rfl)) (pv 1)))
    (zd (lS (zE EH (zN zD (pv 0) zf (fun _ _=>rfl)) (pv 1)) (CC (pv 0) zf set_list))
    (zi (zt (pv 2))))) zv)
   (zd (zr (i:=3) zz.nd rfl (Or.inl rfl) (zE iR (zE eZ (zE eZ (zE jE (zN zD (pv 0) zf (fun _ _=>rfl)) (zN zD (pv 0) zf (fun _ _=>rfl))) (zE jE zf (zN zD (pv 0) zf (fun _ _=>rfl)))) zf) zf))
   (zd (lS (zE iR (zE eZ (zE eZ (zE jE (pv 3) (pv 3)) (zE jE zf (pv 3))) zf) zf) (CC (pv 0) zf set_list))
   (zi (zt (zE iR (zE EH (zN zD (pv 0) zf (fun _ _=>rfl)) zf) (pv 1)))))),?_⟩
  have c:atI ([.int x,.int y]:List V) 0=some (.int x):=zx (j:=0) rfl;have D:atI ([.int x,.int y]:List V) 1=some (.int y):=zx (j:=1) rfl;refine⟨_,rfl,p,_,_,_,rfl,rfl,SqL.of hp,D,rfl,_,rfl,?_⟩;refine be (fun h1=>?_) (fun h1=>?_)
  ·refine⟨_,rfl,p,_,_,_,rfl,rfl,SqL.of hp,c,_,rfl,_,_,rfl,rfl,a,?_⟩
   refine⟨_,rfl,p,_,_,_,rfl,rfl,SqL.of hp,c,_,rfl,_,_,rfl,rfl,⟨a,hm⟩,_,rfl,p,_,_,0,rfl,rfl,hp,rfl,?_⟩;refine⟨_,rfl,k (x%m) _ (Int.emod_nonneg _ ω) (Int.emod_lt_of_pos _ a) (fun b o hb e=>by rw[zj hb];exact e) ⟨x / m,y,ak,Int.ediv_nonneg d ω,?_⟩⟩;rcases g with q|⟨q,hx⟩
   ·exact .inl q
   ·refine .inr ⟨q,Int.lt_of_le_of_lt (Int.ediv_le_self _ d) hx⟩
  ·have hy:y=1/\x<4294967296:=by
    rcases g with q|q
    ·exact absurd (by subst q;rfl) h1
    ·exact q
   obtain⟨rfl,hx⟩:=hy;have hb:CMul x x:=.inl ⟨ω,ω⟩;refine⟨_,rfl,p,_,_,_,rfl,rfl,SqL.of hp,c,_,rfl,p,_,_,_,rfl,rfl,SqL.of hp,c,_,_,rfl,rfl,hb,_,rfl,p,_,_,_,rfl,rfl,SqL.of hp,c,_,_,rfl,rfl,.inl ⟨ξ,ξ⟩,_,_,rfl,rfl,_,_,rfl,rfl,_,_,rfl,rfl,(by show(0:Int)<2147483647;decide),?_⟩;have G:=Int.emod_nonneg (x*x+39373*x+12345) (show(2147483647:Int)≠0 from ξ);have I:=Int.emod_lt_of_pos (x*x+39373*x+12345) (show(0:Int)<2147483647 from ξ);obtain⟨z,l⟩:∃z,z=(x*x+39373*x+12345)%2147483647:=⟨_,rfl⟩;rw[<-l] at G I;show lJ _ _ _ ([some (.ref p),some (.int m),none,some (.int ((x*x+39373*x+12345)%2147483647))]:St) H;rw[<-l];refine⟨_,rfl,_,rfl,_,_,rfl,rfl,.inl ⟨ω,ω⟩,_,rfl,_,_,rfl,rfl,.inl ⟨ξ,ξ⟩,_,_,rfl,rfl,_,_,rfl,rfl,_,_,rfl,rfl,(by show(0:Int)<2147483587;decide),_,rfl,p,_,_,0,rfl,rfl,hp,rfl,?_⟩;have v:=Int.emod_nonneg (z*z+16807*z+7) (show(2147483587:Int)≠0 from ξ);have g1:=Int.emod_lt_of_pos (z*z+16807*z+7) (show(0:Int)<2147483587 from ξ);obtain⟨u,r⟩:∃u,u=(z*z+16807*z+7)%2147483587:=⟨_,rfl⟩;rw[<-r] at v g1;have C:upd H p (.lst [.int ((z*z+16807*z+7)%2147483587),.int 1]) p=some (.lst [.int u,.int 1]):=by rw[r];exact ak
   refine⟨_,rfl,p,_,_,_,rfl,rfl,SqL.of C,zx (j:=0) rfl,_,_,rfl,rfl,⟨ξ,ξ⟩,_,rfl,_,_,rfl,rfl,a,?_⟩;exact k _ _ (Int.emod_nonneg _ ω) (Int.emod_lt_of_pos _ a) (fun b o hb e=>by rw[zj hb];exact e) ⟨u,1,C,v,.inr ⟨rfl,ω⟩⟩
end
end K55
end
section
namespace K55
open K1
open PySem L2 STb
abbrev nZ:Stmt:=top 47
abbrev ri:Stmt:=top 48
section
variable{P:Program}{w:World}{K:Ad}{mg:Str->Option Value}{base:Heap}
def KL{H2:Hp}{as:List Addr}{fs:Ξ}{D l:Addr}{Q:VK}(F:H2 l=some (.lst (as.map V.ref)))(w:Tps H2 as fs)(G:as.length<=100)(y:H2 D=none)(k:∀bs b,Same H2 b->b D=some (.lst (bs.map V.ref))->Tps b bs (fs.filter fun q=>!decide (q=[]))->Q (.ref D) b):cX (dH K l) (cQ 0) (kz (da (jH true K) (aE 0) (dD bq))) (aE 0) [none] H2 D Q:=by
 have E:=w.length;refine zM (xs:=as.map V.ref) (fun j σ ys b=>∃bs v,σ=[v]/\Same H2 b/\b D=some (.lst ys)/\ys=bs.map V.ref/\Tps b bs ((fs.take j).filter fun q=>!decide (q=[]))) ?_ ?_ ?_ ?_
 ·exact⟨[],none,rfl,Same.new y,ak,rfl,.nil⟩
 ·rintro j σ ys b ⟨bs,v,rfl,g,i,rfl,hb⟩
  exact SqL.of (g _ _ F)
 ·rintro j σ ys b x hx p hy ⟨bs,v,rfl,g,i,rfl,hb⟩
  obtain⟨a,C,rfl⟩:=dE hx;obtain⟨f,r,hf⟩:=w.get C;refine⟨_,rfl,ze (by simp),fun t A=>?_⟩;have s:=g.tp hf;have d:Same b (upd b t (.tup [])):=Same.new A;refine .inl ⟨a,t,f,[],rfl,rfl,d.tp s,ak,_,rfl,?_⟩;have u:=g.trans d;have keep:∀(o:HO) c xs,upd b t (.tup []) c=some (.tup xs)->upd (upd b t (.tup [])) D o c=some (.tup xs):=fun o c xs e=>by
   rw[zj (dj e (d _ _ i) (by intro z;cases z))];exact e
  by_cases h:f=[]
  ·subst h
   refine aI (eu p hy ⟨bs,_,rfl,u,d _ _ i,rfl,?_⟩);rw[AM r,List.filter_append]
   simpa using d.tps hb
  ·rw[if_pos rfl,show(!decide (f=[]))=true by simp[h]]
   refine bg ⟨_,rfl,bu (ys:=bs.map V.ref) (by rw[Ab];exact ze ω) p hy (d _ _ i) ⟨bs++[a],_,rfl,u.then y,ak,by rw[Am];rfl,?_⟩⟩;rw[AM r,List.filter_append,show [f].filter (fun q=>!decide (q=[]))=[f] by simp[h]];exact Tps.snoc (Paired.mapP (d.tps hb) fun c xs e=>keep _ c _ e) (keep _ a _ (d.tp s))
 ·rintro σ ys b ⟨bs,v,rfl,g,i,rfl,hb⟩
  rw[Ab,E,take_all] at hb;exact k bs b g i hb
def rn:zq ["piece","found","point"] ["piece"] (zg nZ):=⟨rfl,rfl,rfl,δ,rfl,δ,δ⟩
def KM{f:Addr}{fd:FuncData}(F:Fun K "_law_parts" "_law_parts" nZ f fd):FnOk P w K mg base az 1 f fd ["piece"] qZ:=by
 refine F.ok rn (fun vs H Q E h=>?_) (fun cdv A outer s H vs Q E hr h=>?_)
 ·obtain⟨a,ps,rfl,_⟩:=h;rfl
 ·obtain⟨a,ps,rfl,z,L,k⟩:=h
  have N:=hr.units;refine⟨_,zd (zr (i:=1) rn.nd rfl (Or.inl rfl) (zO (ac (dw al) al)))
   (zd (dW A7 rfl (lT (pv 0)) (zn (i:=2) rn.nd rfl (Or.inr rfl))
    (zi (zr (i:=1) rn.nd rfl (Or.inl rfl) (zE i4 (pv 1) (zy ["piece","found","point"] ["part","point"] [none,some 2] (zA (pv 1)) (fun j C s₀ H₀ ex=>zn (i:=0) (b7 ["part","point"]) rfl (Or.inl rfl)) (fun j C s₀ H₀ ex=>zF)
     (fun j C s₀ H₀ ex=>zE DA (pv 0) (dw (ac (pv 1) al))) (hfr:=ck (zg nZ) δ))))))
   (zi (zt (zy ["piece","found","point"] ["part"] [none] (zA (pv 1)) (fun j C s₀ H₀ ex=>zn (i:=0) (b7 ["part"]) rfl (Or.inl rfl)) (fun j C s₀ H₀ ex=>ik (zp (Jf N) (pv 0) (dw al) (ar _)))
     (fun j C s₀ H₀ ex=>pv 0) (hfr:=bF δ) (tc:=kz (da (jH true K) (aE 0) (dD bq))))))),?_⟩
  refine⟨ze (by simp),fun e he=>⟨ze (by simp),fun l b=>?_⟩⟩;have G:Same H (upd (upd H e (.tup [])) l (.lst [.ref e])):=(Same.new he).then ((Same.new he).free b);have O:e≠l:=zh (H:=upd H e (.tup [])) ak b;refine⟨_,rfl,a,rfl,⟨_,SqT.of (G _ _ z)⟩,CF (K:=K) (a:=a) (xs:=ps.map V.int) (fun i σ H2=>∃l as v,σ=[some (.ref a),some (.ref l),v]/\Same H H2/\H l=none/\H2 l=some (.lst (as.map V.ref))/\Tps H2 as (subs (ps.take i)))
   ⟨l,[e],none,rfl,G,(Same.new he).free b,ak,.cons (by show upd _ _ _ e=_;rw[zj O];exact ak) .nil⟩ (fun i σ H2 _ ⟨_,_,_,_,c,_⟩=>SqT.of (c _ _ z)) ?_ ?_⟩
  ·rintro i x σ H2 hx ⟨l,as,v,rfl,c,M,b,d⟩
   obtain⟨q,eq,rfl⟩:=gh hx;have hi:i<ps.length:=(List.getElem?_eq_some_iff.mp eq).1;have u:=d.length;have T:as.length<=32:=by
    rw[u,qU,AJ];exact fz ω
   have hm:∀f∈subs (ps.take i),f.length<=100:=fun f hf=>by
    have:=Ec _ f hf;rw[AJ] at this;omega
   refine⟨_,rfl,_,rfl,l,rfl,⟨_,SqL.of b⟩,fun D p=>zB (Ej b d ω hm p fun bs J g r hb=>?_)⟩;have S:=hb.length;rw[Ab] at S;refine⟨l,D,_,_,rfl,rfl,g _ _ b,r,by rw[Ab,Ab];exact ze ω,fun y o=>?_⟩;have I:H y=none:=(c.trans g).free o;refine⟨y,as++bs,_,rfl,(c.trans g).then I,I,by rw[ak,Am],?_⟩;rw[AM eq,yb];exact(Same.new o).tps ((g.tps d).append hb)
  ·rintro σ H2 ⟨l,as,v,rfl,c,M,b,d⟩
   rw[Ab,take_all] at d;have u:=d.length;refine⟨_,rfl,l,rfl,⟨_,SqL.of b⟩,fun D p=>zB (KL b d (by rw[u,qU];have:=fz L;omega) p fun bs J g r hb=>?_)⟩;rw[JM] at hb;exact k D bs J (c.trans g) (c.free p) r hb
def KO{H2:Hp}{bs:List Addr}{fs:Ξ}{D l:Addr}{Q:VK}(G:H2 l=some (.lst (bs.map V.ref)))(u:Tps H2 bs fs)(J:bs.length<=1000)(w:H2 D=none)(k:∀(cs:List Addr) a,Same H2 a->a D=some (.lst (cs.map V.ref))->cs.length=bs.length->(∀(i:Nat) c,cs[i]?=some c->∃b f,bs[i]?=some b/\fs[i]?=some f/\a c=some (.tup [.int f.length,.ref b]))->Q (.ref D) a):cX (dH K l) (cQ 0) b8 (dD (zP (gO (fun xs H Q=>∃p ys,xs=[V.ref p]/\(SqL K H p ys\/SqT K H p ys)/\Q (.int ys.length) H) (zP (aE 0) bq)) (zP (aE 0) bq))) [none] H2 D Q:=by
 have I:=u.length;refine zM (xs:=bs.map V.ref) (fun j σ ys a=>∃(cs:List Addr)(v:Option V),σ=[v]/\Same H2 a/\a D=some (.lst ys)/\ys=cs.map V.ref/\cs.length=j/\∀(i:Nat) c,cs[i]?=some c->∃b f,bs[i]?=some b/\fs[i]?=some f/\a c=some (.tup [.int f.length,.ref b])) ?_ ?_ ?_ ?_
 ·exact⟨[],none,rfl,Same.new w,ak,rfl,rfl,fun i c e=>by simp at e⟩
 ·rintro j σ ys a ⟨cs,v,rfl,g,h,rfl,r,hc⟩
  exact SqL.of (g _ _ G)
 ·rintro j σ ys a x hx r hy ⟨cs,v,rfl,g,h,rfl,d,hc⟩
  obtain⟨b,s,rfl⟩:=dE hx;obtain⟨f,A,hf⟩:=u.get s;refine cv ?_;refine⟨_,rfl,b,_,rfl,.inr (SqT.of (g.tp hf)),_,rfl,ze (by simp),fun t y=>?_⟩;rw[show(f.map V.int).length=f.length from Ab _];have q:Same a (upd a t (.tup [.int f.length,.ref b])):=Same.new y;have keep:∀(o:HO) c xs,upd a t (.tup [.int f.length,.ref b]) c=some (.tup xs)->upd (upd a t (.tup [.int f.length,.ref b])) D o c=some (.tup xs):=fun o c xs e=>by
   rw[zj (dj e (q _ _ h) (by intro z;cases z))];exact e
  refine bu (ys:=cs.map V.ref) (by rw[Ab];exact ze ω) r hy (q _ _ h) ⟨cs++[t],_,rfl,(g.trans q).then w,ak,by rw[Am];rfl,by rw[Aw,d];rfl,fun i c e=>?_⟩
  by_cases hi:i<cs.length
  ·rw[List.getElem?_append_left hi] at e
   obtain⟨C,E,e1,e2,e3⟩:=hc i c e;exact⟨C,E,e1,e2,keep _ c _ (q _ _ e3)⟩
  ·rw[List.getElem?_append_right ω] at e
   have F:i-cs.length=0:=by
    rcases Nat.eq_zero_or_pos (i-cs.length) with z|z
    ·exact z
    ·rw[List.getElem?_eq_none (by simp only[Au,List.length_nil];omega)] at e;cases e
   rw[F] at e;obtain rfl:t=c:=by simpa using e
   have:i=j:=ω
   subst this;exact⟨b,f,s,A,keep _ t _ ak⟩
 ·rintro σ ys a ⟨cs,v,rfl,g,h,rfl,d,hc⟩
  rw[Ab] at d;exact k cs a g h d hc
def jh(H:Hp)(c:Addr):Addr:=match H c with
 |some (.tup [_,.ref b])=>b
 |_=>0
def KP{H2:Hp}{cs:List Addr}{D l:Addr}{Q:VK}(o:H2 l=some (.lst (cs.map V.ref)))(p:∀c∈cs,∃n b,H2 c=some (.tup [.int n,.ref b]))(q:cs.length<=1000)(h:H2 D=none)(k:∀a,Same H2 a->a D=some (.lst (cs.map fun c=>V.ref (jh H2 c)))->Q (.ref D) a):cX (dH K l) (cQ 0) b8 (da (dY K) (aE 0) (tC (.int 1))) [none] H2 D Q:=by
 refine zM (xs:=cs.map V.ref) (fun j σ ys a=>∃v,σ=[v]/\Same H2 a/\a D=some (.lst ys)/\ys=(cs.take j).map fun c=>V.ref (jh H2 c)) ?_ ?_ ?_ ?_
 ·exact⟨none,rfl,Same.new h,ak,rfl⟩
 ·rintro j σ ys a ⟨v,rfl,d,f,rfl⟩
  exact SqL.of (d _ _ o)
 ·rintro j σ ys a x hx i hy ⟨v,rfl,d,f,rfl⟩
  obtain⟨c,g,rfl⟩:=dE hx;obtain⟨n,b,e⟩:=p c (Ap g);refine cv ?_;refine⟨_,rfl,c,_,_,_,rfl,rfl,SqT.of (d _ _ e),zx (j:=1) rfl,bu (by rw[Ab];exact ze ω) i hy f ⟨_,rfl,d.then h,ak,?_⟩⟩;rw[AM g,Am];have:jh H2 c=b:=by unfold jh;rw[e]
  rw[<-this];rfl
 ·rintro σ ys a ⟨v,rfl,d,f,rfl⟩
  rw[Ab,take_all] at f;exact k a d f
def n3:zq ["web","found","piece","part","ranked"] ["web"] (zg ri):=⟨rfl,rfl,rfl,δ,rfl,δ,δ⟩
def KQ{f fp:Addr}{fd cD:FuncData}(F:Fun K "_law_pieces" "_law_pieces" ri f fd)(B:Bt mg)(Fp:Fun K "_law_parts" "_law_parts" nZ fp cD)(bp:Binds K cD ["piece"] [])(mp:mg "_law_parts"=some (.ref fp)):FnOk P w K mg base az 2 f fd ["web"] (jR K):=by
 have Gp:FnOk P w K mg base az 1 fp cD ["piece"] qZ:=KM Fp;refine F.ok n3 (fun vs H Q E h=>?_) (fun cdv A outer s H vs Q E hr h=>?_)
 ·obtain⟨l,as,pss,rfl,_⟩:=h;rfl
 ·obtain⟨l,as,pss,rfl,hl,ht,h5,cn,h64,k⟩:=h
  have hu:=d_ hr;have au:=hr.units;refine⟨_,zd (zr (i:=1) n3.nd rfl (Or.inl rfl) mL)
   (zd (dW A7 rfl (zA (pv 0)) (zn (i:=2) n3.nd rfl (Or.inl rfl))
    (zi (dW A7 rfl (zA (zo Gp hr rfl mp Fp.kp bp .nil ao (ac (pv 2) al))) (zn (i:=3) n3.nd rfl (Or.inl rfl))
     (zi (gb hu (pv 1) (pv 3) dG rfl)))))
   (zd (zr (i:=4) n3.nd rfl (Or.inl rfl) (zl (Jj au) rfl B.sorted je (ac
    (zy ["web","found","piece","part","ranked"] ["piece"] [none] (zA (zm (Dx rfl) rfl B.list ff (ac (pv 1) al))) (fun L C s₀ H₀ ex=>zn (i:=0) (b7 ["piece"]) rfl (Or.inl rfl)) (fun L C s₀ H₀ ex=>zF)
     (fun L C s₀ H₀ ex=>dw (ac (zl zk rfl B.len zW (ac (pv 0) al)) (ac (pv 0) al))) (hfr:=bF δ) (te:=dD (zP (gO (fun xs H Q=>∃p ys,xs=[V.ref p]/\(SqL K H p ys\/SqT K H p ys)/\Q (.int ys.length) H) (zP (aE 0) bq)) (zP (aE 0) bq)))) al)))
   (zi (zt (zy ["web","found","piece","part","ranked"] ["one"] [none] (zA (pv 4)) (fun L C s₀ H₀ ex=>zn (i:=0) (b7 ["one"]) rfl (Or.inl rfl)) (fun L C s₀ H₀ ex=>zF)
     (fun L C s₀ H₀ ex=>zN fb (pv 0) zf (fun _ _=>rfl)) (hfr:=bF δ) (te:=da (dY K) (aE 0) (tC (.int 1)))))))),?_⟩
  intro d hd;have aL:=ht.length;refine⟨_,rfl,l,rfl,⟨_,(Same.new hd).seq hl⟩,gM (K:=K) (a:=l) (xs:=as.map V.ref) (fun i σ H2=>∃v I u,σ=[some (.ref l),some (.ref d),v,I,u]/\Same H H2/\H2 d=some (.dT (fC ((pss.take i).flatMap parts))))
   ⟨none,none,none,rfl,Same.new hd,ak⟩ (fun i σ H2 _ ⟨_,_,_,_,r,_⟩=>r.seq hl) ?_ ?_⟩
  ·rintro i x σ H2 hx ⟨v,I,u,rfl,r,N⟩
   obtain⟨a,ea,rfl⟩:=dE hx;obtain⟨ps,aV,a7⟩:=ht.get ea;have dm:=h5 ps (Ap aV);have hi:i<pss.length:=(List.getElem?_eq_some_iff.mp aV).1;refine⟨_,rfl,a,ps,rfl,r.tp a7,dm,fun D cs o G cC M hU=>⟨D,rfl,⟨_,SqL.of M⟩,?_⟩⟩;have oZ:=hU.length;have nT:D≠d:=dj M (G _ _ N) (by intro z;cases z);refine gM (K:=K) (a:=D) (xs:=cs.map V.ref) (fun j σ J=>∃I,σ=[some (.ref l),some (.ref d),some (.ref a),I,u]/\Same H J/\J D=some (.lst (cs.map V.ref))/\Tps J cs (parts ps)/\J d=some (.dT (fC ((pss.take i).flatMap parts++(parts ps).take j))))
    ⟨_,rfl,r.trans G,M,hU,by rw[List.take_zero,List.append_nil];exact G _ _ N⟩ (fun j σ J _ ⟨_,_,_,q,_⟩=>SqL.of q) ?_ ?_
   ·rintro j x σ J hx ⟨I,rfl,cN,aZ,dn,O⟩
    obtain⟨c,ec,rfl⟩:=dE hx;obtain⟨f,ef,hf⟩:=dn.get ec;have S:(fC ((pss.take i).flatMap parts++(parts ps).take j)).length<sizeLine:=by
     refine zZ (AQ (El _) ?_);rw[Aw];have h1:=yn (pss.take i) (fun q hq=>h5 q (List.mem_of_mem_take hq));have h2:=kU ps;have Z:=fz dm;rw[AJ] at h1 ⊢;omega
    refine⟨_,rfl,_,rfl,d,_,rfl,DPut.t (k:=f.map Sum.inl) O (by rw[As];exact hf) S,⟨_,rfl,cN.then hd,?_,?_,?_⟩⟩
    ·rw[zj nT];exact aZ
    ·exact Tps.upd dn O (by intro xs z;cases z)
    ·rw[ak,Em,List.append_assoc,<-AM ef]
   ·rintro σ J ⟨I,rfl,cN,aZ,dn,O⟩
    refine⟨_,_,_,rfl,cN,?_⟩;rw[Ab,oZ,take_all] at O;rw[Eo aV];exact O
  ·rintro σ H2 ⟨v,I,u,rfl,r,N⟩
   rw[Ab,aL,take_all] at N;refine⟨_,rfl,d,_,rfl,N,fun bs hb l2 X=>?_⟩;have tb:=En hb;have iY:=tb.length;have cI:(dd (pss.flatMap parts)).length<=620:=by
    have h1:=fo (pss.flatMap parts);have h2:=yn pss h5;omega
   have W:Same H2 (upd H2 l2 (.lst (bs.map V.ref))):=Same.new X;refine⟨l2,rfl,⟨_,SqL.of ak⟩,fun D M=>zB (KO (K:=K) ak (W.tps tb) ω M fun cs o G ag hcl hc=>?_)⟩;have qy:=G.tps (W.tps tb);refine⟨D,cs,(dd (pss.flatMap parts)).map fun f=>((f.length:Int)::f),rfl,SqL.of ag,?_,(by rw[Ab];exact h64),fun R g hp hs hR=>?_⟩
   ·refine Paired.of_at (by rw[Ab];omega) fun i c y e1 e2=>?_
    obtain⟨b,f,g1,g2,g3⟩:=hc i c e1;rw[Aj,g2] at e2;obtain rfl:=An e2;exact⟨_,b,f,rfl,g3,qB qy i b f g1 g2⟩
   ·have T:Same o (upd o R (.lst (g.map fun q=>V.ref q.2))):=Same.new hR
    have hq:∀q∈g,∃b f,q.1=((f:List Int).length:Int)::f/\o q.2=some (.tup [.int f.length,.ref b])/\Tp o b f:=fun q hq=>by
     obtain⟨m,em⟩:=List.mem_iff_getElem?.mp (hp.mem_iff.mp hq);rw[br.bN,Aj] at em;cases e2:cs[m]? with
     |none=>rw[e2] at em;cases h:(dd (pss.flatMap parts))[m]?<;>rw[h] at em<;>cases em
     |some c=>
      obtain⟨b,f,g1,g2,g3⟩:=hc m c e2;rw[g2,e2] at em;obtain rfl:(((f.length:Int)::f),c)=q:=An em;exact⟨b,f,rfl,g3,qB qy m b f g1 g2⟩
    have hql:g.length<=620:=by rw[hp.length_eq,List.length_zip,Ab];omega
    refine⟨_,rfl,R,rfl,⟨_,SqL.of ak⟩,fun D2 aK=>zB (KP (K:=K) (cs:=g.map (·.2)) (by rw[ak,As];rfl) (fun c tM=>?_) (by rw[Ab];omega) aK fun H5 fq cJ=>?_)⟩
    ·obtain⟨q,Y,rfl⟩:=List.mem_map.mp tM
     obtain⟨b,f,_,g2,_⟩:=hq q Y;exact⟨_,b,T _ _ g2⟩
    ·have sAll:Same H H5:=((r.trans W).trans G).trans (T.trans fq)
     have snd:∀q∈g,∀b f,o q.2=some (.tup [.int (f:List Int).length,.ref b])->jh (upd o R (.lst (g.map fun q=>V.ref q.2))) q.2=b:=fun q _ b f e=>by
      unfold jh;rw[T _ _ e]
     refine k D2 H5 (g.map fun q=>(q.1.tail,jh (upd o R (.lst (g.map fun q=>V.ref q.2))) q.2)) ⟨sAll,(((r.trans W).trans G).trans T).free aK,?_,fun q Y=>?_,?_,?_⟩
     ·rw[cJ,As,As];rfl
     ·obtain⟨U,h0,rfl⟩:=List.mem_map.mp Y
      obtain⟨b,f,g1,g2,g3⟩:=hq U h0;show Tp H5 (jh _ U.2) U.1.tail;rw[snd U h0 b f g2,g1];exact fq.tp (T.tp g3)
     ·rw[As]
      have h1:=hp.map (fun q:List Int×Addr=>q.1.tail);have e:((((dd (pss.flatMap parts)).map fun f=>((f.length:Int)::f)).zip cs).map fun q:List Int×Addr=>q.1.tail)=dd (pss.flatMap parts):=by
       rw[show(fun q:List Int×Addr=>q.1.tail)=(fun l:List Int=>l.tail) ∘ Prod.fst from rfl,<-As,List.map_fst_zip (by rw[Ab];omega),As];exact List.map_id' _
      rw[e] at h1;exact h1
     ·rw[Bi]
      refine hs.imp_of_mem fun{p q} h1 h2 Z=>?_;obtain⟨_,f,g1,_⟩:=hq p h1;obtain⟨_,f',q9,_⟩:=hq q h2;rw[g1,q9] at Z;rw[g1,q9];exact Z
end
end K55
end
section
namespace K55
open K1
open PySem L2 STb
abbrev ro:Stmt:=top 49
abbrev n4:Stmt:=top 50
def texts:List Str:=(["","0","01 12 02","012 013 023 123","01 02 03","012 023 034 014","0123","01 23 45","012 34"]:List Str)++(["012 123 234 034 014","01 12 23 03 13","012 013 014","0 1 2 3"]:List Str)++(["01 12 02 34 45 35","023 234 1"]:List Str)
++(["014 015 023 025 034 123 124 135 245 345","012 013 024 034 125 135 245 345"]:List Str)++(["01234","0123 0124 0134 0234 1234"]:List Str)++(["013 123 234 024 014 145 125 025 056 016 126 267 027 037 345 356 367"]:List Str)
def wordsOf(n:Nat):List Str:=Txt.split (texts.getD n "") " "
def digits(x:Str):List Int:=x.cps.toList.map fun(c:Nat)=>((c:Int)-48)
def known(n:Nat):Ξ:=((wordsOf n).filter fun(x:Str)=>!decide (x="")).map digits
def KR:∀n,n<20->(texts.getD n "").length+2<=1000/\(wordsOf n).length<=20/\∀x∈wordsOf n,x.cps.size<=5/\∀c∈x.cps.toList,48<=c/\c<=57:=δ
def KS:∀c,48<=c->c<=57->intText? ⟨#[c]⟩=some ((c:Int)-48):=by
 intro c h1 h2;have:∀c,c<58->48<=c->intText? ⟨#[c]⟩=some ((c:Int)-48):=δ
 exact this c ω h1
section
variable{P:Program}{w:World}{K:Ad}{mg:Str->Option Value}{base:Heap}
def EM:Sp:=fun vs H Q _=>∃n:Nat,vs=[.int n]/\n<20/\∀D as H',Same H H'->H D=none->H' D=some (.lst (as.map V.ref))->Tps H' as (known n)->Q (.ref D) H'
def ji:zq ["number","some","web","word"] ["number"] (zg ro):=⟨rfl,rfl,rfl,δ,rfl,δ,δ⟩
def KU{H2:Hp}{x:Str}{D:Addr}{Q:VK}(hx:x.cps.size<=5)(hc:∀c∈x.cps.toList,48<=c/\c<=57)(g:H2 D=none)(k:∀a,Same H2 a->a D=some (.lst ((digits x).map V.int))->Q (.ref D) a):cX (qR x) (cQ 0) b8 (gO (fun xs H Q=>∃x n,xs=[.str x]/\intText? x=some n/\x.length<=640/\Q (.int n) H) (zP (aE 0) bq)) [none] H2 D Q:=by
 refine JL (fun j σ ys a=>∃v,σ=[v]/\Same H2 a/\a D=some (.lst ys)/\ys=((digits x).take j).map V.int) ?_ ?_ ?_
 ·exact⟨none,rfl,Same.new g,ak,rfl⟩
 ·rintro j σ ys a c h i hy ⟨v,rfl,f,d,rfl⟩
  have b:x.cps.toList[j]?=some c:=by simpa using h
  obtain⟨l,o⟩:=hc c (Ap b);refine cv ?_;refine⟨_,rfl,⟨#[c]⟩,_,rfl,KS c l o,by show 1<=640;decide,bu (ze ω) i hy d ⟨_,rfl,f.then g,ak,?_⟩⟩;have e:(digits x)[j]?=some ((c:Int)-48):=by unfold digits;rw[Aj,b];rfl
  rw[AM e,Am];rfl
 ·rintro σ ys a ⟨v,rfl,f,d,rfl⟩
  rw[Az (by unfold digits;simp)] at d;exact k a f d
def KW{f:Addr}{fd:FuncData}(F:Fun K "_law_known" "_law_known" ro f fd)(B:Bt mg):FnOk P w K mg base az 1 f fd ["number"] EM:=by
 refine F.ok ji (fun vs H Q E h=>?_) (fun cdv A outer s H vs Q E hr h=>?_)
 ·obtain⟨n,rfl,_⟩:=h;rfl
 ·obtain⟨n,rfl,hn,k⟩:=h
  refine⟨_,zd (zr (i:=1) ji.nd rfl (Or.inl rfl) (zO (ac pe_str (ac pe_str (ac pe_str (ac pe_str (ac pe_str (ac pe_str (ac pe_str (ac pe_str (ac pe_str al)))))))))))
   (zd (zr (i:=1) ji.nd rfl (Or.inl rfl) (zE i4 (pv 1) (zO (ac pe_str (ac pe_str (ac pe_str (ac pe_str al)))))))
   (zd (zr (i:=1) ji.nd rfl (Or.inl rfl) (zE i4 (pv 1) (zO (ac pe_str (ac pe_str al)))))
   (zd (zr (i:=1) ji.nd rfl (Or.inl rfl) (zE i4 (pv 1) (zO (ac pe_str (ac pe_str al)))))
   (zd (zr (i:=1) ji.nd rfl (Or.inl rfl) (zE i4 (pv 1) (zO (ac pe_str (ac pe_str al)))))
   (zd (fO (i3 PySem.F.plainAttrs_list PySem.F.slot_list_append PySem.F.type_list_append p8 (pv 1) (ac pe_str al)))
   (zd (zr (i:=2) ji.nd rfl (Or.inl rfl) (zO al))
   (zd (dW A7 rfl (zA (i3 PySem.F.plainAttrs_str PySem.F.slot_str_split PySem.F.type_str_split JJ (zN zD (pv 1) (zE iR (pv 0) zf) (fun _ _=>rfl)) (ac pe_str al))) (zn (i:=3) ji.nd rfl (Or.inl rfl))
    (zi (zR (zp l0 (pv 3) pe_str (ar _))
     (zi (fO (i3 PySem.F.plainAttrs_list PySem.F.slot_list_append PySem.F.type_list_append p8 (pv 2) (ac (zm zL rfl B.tuple jf (ac
      (zy ["number","some","web","word"] ["sign"] [none] (JK (pv 3)) (fun I C s₀ H₀ ex=>zn (i:=0) (b7 ["sign"]) rfl (Or.inl rfl)) (fun I C s₀ H₀ ex=>zF)
       (fun I C s₀ H₀ ex=>zm Jh rfl B.int qY (ac (pv 0) al)) (hfr:=bF δ)) al)) al)))) zv)))
   (zi (zt (pv 2)))))))))),?_⟩
  have t20:texts.length=20:=rfl;have eC:atI (texts.map V.str) ((n:Int)%20)=some (.str (texts.getD n "")):=by
   rw[show(n:Int)%20=(n:Int) from ω];refine zx ?_;have e:texts[n]?=some texts[n]:=Af ω;rw[Aj,AL,e];rfl
  obtain⟨g1,g2,g3⟩:=KR n hn;refine⟨ze (by simp),fun X h1=>?_⟩;have s1:=Same.new (H:=H) (o:=.lst [.str "",.str "0",.str "01 12 02",.str "012 013 023 123",.str "01 02 03",.str "012 023 034 014",.str "0123",.str "01 23 45",.str "012 34"]) h1;refine⟨_,rfl,ze (by simp),fun Y J=>⟨X,Y,_,_,rfl,rfl,Same.new J _ _ ak,ak,ze (by simp),fun Z h2=>?_⟩⟩;have s2:=(s1.trans (Same.new J)).trans (Same.new (o:=.lst ((texts.take 13).map V.str)) h2);refine⟨_,rfl,ze (by simp),fun m2 L=>⟨Z,m2,_,_,rfl,rfl,Same.new L _ _ ak,ak,ze (by simp),fun l3 h3=>?_⟩⟩;have s3:=(s2.trans (Same.new L)).trans (Same.new (o:=.lst ((texts.take 15).map V.str)) h3);refine⟨_,rfl,ze (by simp),fun m3 M=>⟨l3,m3,_,_,rfl,rfl,Same.new M _ _ ak,ak,ze (by simp),fun l4 h4=>?_⟩⟩;have S:=(s3.trans (Same.new M)).trans (Same.new (o:=.lst ((texts.take 17).map V.str)) h4);refine⟨_,rfl,ze (by simp),fun m4 r=>⟨l4,m4,_,_,rfl,rfl,Same.new r _ _ ak,ak,ze (by simp),fun c N=>?_⟩⟩;have s5:=(S.trans (Same.new r)).trans (Same.new (o:=.lst ((texts.take 19).map V.str)) N);have uD:H c=none:=(S.trans (Same.new r)).free N;refine⟨_,rfl,.inl ⟨rfl,_,SqL.of ak⟩,c,_,_,rfl,rfl,ak,zZ (by simp),ze (by simp),fun b u=>?_⟩;generalize hH6:upd (upd _ c _) c _=H6 at u;have e6:H6 c=some (.lst (texts.map V.str)):=by rw[<-hH6,ak];rfl
  have T:Same H H6:=by
   rw[<-hH6];exact s5.then uD
  have d:H b=none:=T.free u;have U:Same H (upd H6 b (.lst [])):=T.then d;have e7:upd H6 b (.lst []) c=some (.lst (texts.map V.str)):=Same.new u _ _ e6;refine⟨_,rfl,_,rfl,_,_,rfl,rfl,(by show(0:Int)<20;decide),c,_,_,_,rfl,rfl,SqL.of e7,eC,rfl,_,_,rfl,rfl,ξ,ze ω,ze (show(wordsOf n).length<=100000 from ω),fun D O=>⟨D,rfl,⟨_,SqL.of ak⟩,?_⟩⟩;have W:b≠D:=zh (H:=upd H6 b (.lst [])) ak O;have cC:H D=none:=U.free O;refine gM (K:=K) (a:=D) (xs:=(wordsOf n).map V.str) (fun i σ H2=>∃as v,σ=[some (.int n),some (.ref c),some (.ref b),v]/\Same H H2/\H2 D=some (.lst ((wordsOf n).map V.str))/\H2 b=some (.lst (as.map V.ref))/\Tps H2 as ((((wordsOf n).take i).filter fun(x:Str)=>!decide (x="")).map digits))
   ⟨[],none,rfl,U.then cC,ak,by rw[zj W];exact ak,.nil⟩ (fun i σ H2 _ ⟨_,_,_,_,q,_⟩=>SqL.of q) ?_ ?_
  ·rintro i x σ H2 hx ⟨as,v,rfl,p,G,g,j⟩
   rw[Aj] at hx;cases ex:(wordsOf n)[i]? with
   |none=>rw[ex] at hx;cases hx
   |some y=>
    rw[ex] at hx;obtain rfl:=An hx;have hi:i<(wordsOf n).length:=(List.getElem?_eq_some_iff.mp ex).1;obtain⟨y5,yc⟩:=g3 y (Ap ex);refine⟨_,rfl,rfl,_,rfl,?_⟩
    by_cases hy:y=""
    ·subst hy
     refine aI ⟨as,_,rfl,p,G,g,?_⟩;rw[AM ex,List.filter_append,Am]
     simpa using j
    ·rw[show(!decide (V.str y=V.str ""))=true from by simp[hy]]
     refine bg ⟨_,rfl,.inl ⟨rfl,_,SqL.of g⟩,_,rfl,y,rfl,fun D2 sX=>zB (KU y5 yc sX fun H3 aU ag=>⟨D2,_,rfl,.inl ⟨SqL.of ag,fun t eU=>?_⟩⟩)⟩;have l:Same H2 (upd H3 t (.tup ((digits y).map V.int))):=aU.trans (Same.new eU);have aL:=j.length;have il:as.length<=20:=by
      rw[aL,Ab];exact AQ (List.length_filter_le _ _) (by rw[AJ];omega)
     refine⟨b,_,_,rfl,rfl,l _ _ g,zZ (by rw[Ab];omega),⟨as++[t],_,rfl,(p.trans l).then d,?_,by rw[ak,Am];rfl,?_⟩⟩
     ·rw[zj W.symm];exact l _ _ G
     ·rw[AM ex,List.filter_append,Am,show [y].filter (fun(x:Str)=>!decide (x=""))=[y] by simp[hy]]
      exact Tps.upd (Tps.snoc (l.tps j) ak) (l _ _ g) (by intro xs z;cases z)
  ·rintro σ H2 ⟨as,v,rfl,p,G,g,j⟩
   rw[Ab,take_all] at j;exact⟨_,rfl,k b as H2 p d g j⟩
def dq(first a:Int)(ps:List Int):List Int:=ps.map fun x=>first+a*x
def EN:Sp:=fun vs H Q _=>∃p l as pss,vs=[.ref p,.ref l]/\zG H p/\H l=some (.lst (as.map V.ref))/\Tps H as pss/\pss.length<=20/\(∀ps∈pss,ps.length<=10)/\
 ∀D bs ae first a H',zu p H H'->zG H' p->H D=none->H' D=some (.lst (bs.map V.ref))->Tps H' bs ae->0<=first->first<12->1<=a->a<=3->ae.Perm (pss.map (dq first a))->Q (.ref D) H'
def n5:zq ["box","web","gap","first","found","piece"] ["box","web"] (zg n4):=⟨rfl,rfl,rfl,δ,rfl,δ,δ⟩
def KY{H2:Hp}{a D:Addr}{ps:List Int}{first c:Int}{Q:VK}(l:Tp H2 a ps)(o:ps.length<=10)(p:1<=c/\c<=3)(g:H2 D=none)(k:∀b,Same H2 b->b D=some (.lst ((dq first c ps).map V.int))->Q (.ref D) b):cX (iO K a) (cQ 0) b8 (da (fP fun i j=>.int (i+j)) (aE 1) (da (rI CMul fun i j=>.int (i*j)) (aE 2) (aE 0))) [none,some (.int first),some (.int c)] H2 D Q:=by
 refine Dw (xs:=ps.map V.int) (fun j σ ys b=>∃v,σ=[v,some (.int first),some (.int c)]/\Same H2 b/\b D=some (.lst ys)/\ys=((dq first c ps).take j).map V.int) ?_ ?_ ?_ ?_
 ·exact⟨none,rfl,Same.new g,ak,rfl⟩
 ·rintro j σ ys b ⟨v,rfl,d,f,rfl⟩
  exact SqT.of (d.tp l)
 ·rintro j σ ys b x hx h hy ⟨v,rfl,d,f,rfl⟩
  obtain⟨q,eq,rfl⟩:=gh hx;refine cv ?_;refine⟨_,rfl,_,rfl,_,rfl,_,_,rfl,rfl,.inl ⟨ω,ω⟩,_,_,rfl,rfl,bu (by rw[Ab];exact ze ω) h hy f ⟨_,rfl,d.then g,ak,?_⟩⟩;have e:(dq first c ps)[j]?=some (first+c*q):=by unfold dq;rw[Aj,eq];rfl
  rw[AM e,Am];rfl
 ·rintro σ ys b ⟨v,rfl,d,f,rfl⟩
  rw[Az (by unfold dq;simp)] at f;exact k b d f
def K0{f M:Addr}{fd N:FuncData}(F:Fun K "_law_named" "_law_named" n4 f fd)(B:Bt mg)(Ft:Fun K "_law_take" "_law_take" jY M N)(O:Binds K N ["box","most"] [])(mt:mg "_law_take"=some (.ref M)):FnOk P w K mg base az 2 f fd ["box","web"] EN:=by
 have S:FnOk P w K mg base az 1 M N ["box","most"] hF:=nY Ft;refine F.ok n5 (fun vs H Q E h=>?_) (fun cdv A outer s H vs Q E hr h=>?_)
 ·obtain⟨p,l,as,pss,rfl,_⟩:=h;rfl
 ·obtain⟨p,l,as,pss,rfl,hb,I,X,cn,i8,k⟩:=h
  refine⟨_,zd (zr (i:=2) n5.nd rfl (Or.inr rfl) (zE eZ zf (zo S hr rfl mt Ft.kp O .nil ao (ac (pv 0) (ac zf al)))))
   (zd (zr (i:=3) n5.nd rfl (Or.inr rfl) (zo S hr rfl mt Ft.kp O .nil ao (ac (pv 0) (ac zf al))))
   (zd (zr (i:=4) n5.nd rfl (Or.inl rfl) (zO al))
   (zd (dW A7 rfl (zA (pv 1)) (zn (i:=5) n5.nd rfl (Or.inl rfl))
    (zi (fO (i3 PySem.F.plainAttrs_list PySem.F.slot_list_insert PySem.F.type_list_insert Jg (pv 4)
     (ac (zo S hr rfl mt Ft.kp O .nil ao (ac (pv 0) (ac (zE eZ (zl zk rfl B.len zW (ac (pv 4) al)) zf) al)))
     (ac (zm zL rfl B.tuple jf (ac
      (zy ["box","web","gap","first","found","piece"] ["point","first","gap"] [none,some 3,some 2] (lT (pv 5)) (fun T C s₀ H₀ ex=>zn (i:=0) (b7 ["point","first","gap"]) rfl (Or.inl rfl)) (fun T C s₀ H₀ ex=>zF)
       (fun T C s₀ H₀ ex=>zE eZ (pv 1) (zE jE (pv 2) (pv 0))) (hfr:=ck (zg n4) δ)) al)) al))))))
   (zi (zt (pv 4)))))),?_⟩
  refine⟨_,rfl,p,3,rfl,hb,ξ,ξ,fun b H1 a1 a2 cB G=>⟨_,_,rfl,rfl,?_⟩⟩;refine⟨_,rfl,p,12,rfl,G,ξ,ξ,fun c H2 c1 c2 cy U=>⟨ze (by simp),fun D W=>?_⟩⟩;have L:=cB.trans cy;have u:H D=none:=L.free hb U W;have Y:l≠p:=hb.ne I;have aL:=X.length;refine⟨_,rfl,l,rfl,⟨_,SqL.of ((L.then u) _ _ Y I)⟩,gM (K:=K) (a:=l) (xs:=as.map V.ref) (fun i σ d=>∃bs ae v,σ=[some (.ref p),some (.ref l),some (.int (1+b)),some (.int c),some (.ref D),v]/\zu p H d/\zG d p/\d D=some (.lst (bs.map V.ref))/\Tps d bs ae/\ae.Perm ((pss.take i).map (dq c (1+b))))
   ⟨[],[],none,rfl,L.then u,U.new W,ak,.nil,List.Perm.nil⟩ (fun i σ d _ ⟨_,_,_,_,sb,_⟩=>SqL.of (sb _ _ Y I)) ?_ ?_⟩
  ·rintro i x σ d hx ⟨bs,ae,v,rfl,q,g,e,hq,hp⟩
   obtain⟨a,ea,rfl⟩:=dE hx;obtain⟨ps,J,a7⟩:=X.get ea;have hi:i<pss.length:=(List.getElem?_eq_some_iff.mp J).1;have iY:=hq.length;have hql:ae.length=i:=by rw[hp.length_eq,Ab,AJ];omega
   have j:D≠p:=g.ne e;refine⟨_,rfl,.inl ⟨rfl,_,SqL.of e⟩,_,rfl,_,rfl,D,_,rfl,.inl (SqL.of e),_,_,rfl,rfl,p,_,rfl,g,by rw[Ab];omega,by rw[Ab];omega,fun r H4 r0 wx o bE=>?_⟩;rw[Ab] at wx;have Z:Tp H4 a ps:=(q.trans o).tp hb a7;refine⟨_,rfl,a,rfl,⟨_,SqT.of Z⟩,fun D2 aK=>zB (KY Z (i8 ps (Ap J)) ⟨ω,ω⟩ aK fun H5 fq cJ=>⟨D2,_,rfl,.inl ⟨SqL.of cJ,fun t eU=>?_⟩⟩)⟩;have y:Same H4 (upd H5 t (.tup ((dq c (1+b) ps).map V.int))):=fq.trans (Same.new eU);have aZ:=o _ _ j e;have gS:=y _ _ aZ;have cb:=bE.same y;refine⟨D,_,r,_,rfl,rfl,gS,r0,by rw[Ab];omega,zZ (by rw[Ab];omega),⟨bs.take r.toNat++t::bs.drop r.toNat,ae.take r.toNat++dq c (1+b) ps::ae.drop r.toNat,_,rfl,((q.trans o).trans (zu.of y)).then u,cb.upd j,?_,?_,?_⟩⟩
   ·rw[ak,Am,Ar,List.map_take,List.map_drop]
   ·have tq:=y.tps (o.tps g hq)
    exact Tps.upd (Tps.append (tq.take _) (.cons ak (tq.drop _))) gS (by intro xs z;cases z)
   ·rw[AM J,Am]
    have h1:(ae.take r.toNat++dq c (1+b) ps::ae.drop r.toNat).Perm (dq c (1+b) ps::ae):=by
     have:=List.perm_middle (a:=dq c (1+b) ps) (l₁:=ae.take r.toNat) (l₂:=ae.drop r.toNat)
     rwa [List.take_append_drop] at this
    exact h1.trans ((List.perm_append_singleton _ _).symm.trans (List.Perm.append_right _ hp))
  ·rintro σ d ⟨bs,ae,v,rfl,q,g,e,hq,hp⟩
   rw[Ab,aL,take_all] at hp;exact⟨_,rfl,k D bs ae c (1+b) d q g u e hq c1 c2 ω ω hp⟩
end
end K55
end
section
namespace K55
open K1
open PySem L2 STb
abbrev iu:Stmt:=top 51
def hJ(seq:List Int):List (Key×V):=(dd seq).map fun n=>((Sum.inl n:Key),V.bl true)
def K2(seq:List Int):(hJ seq).length<=seq.length:=by unfold hJ;rw[Ab];exact fo seq
def K3(seq:List Int)(n:Int):putK (hJ seq) (Sum.inl n) (.bl true)=hJ (seq++[n]):=by
 unfold putK hJ;rw[gY];have a:(((dd seq).map fun n=>((Sum.inl n:Key),V.bl true)).any fun kv=>decide (kv.1=Sum.inl n))=decide (n∈dd seq):=by
  rw[List.any_map]
  by_cases h:n∈dd seq
  ·rw[decide_eq_true h,List.any_eq_true]
   exact⟨n,h,by simp⟩
  ·rw[decide_eq_false h,List.any_eq_false]
   intro q hq;simp only[Function.comp,decide_eq_true_eq,Sum.inl.injEq];rintro rfl;exact h hq
 rw[a]
 by_cases h:n∈dd seq
 ·rw[decide_eq_true h,if_pos rfl,if_pos h,As]
  refine AY fun q hq=>?_;simp only[Function.comp];split<;>rfl
 ·rw[decide_eq_false h,if_neg (by simp),if_neg h,Am]
  rfl
def K4(seq:List Int):((hJ seq).map fun kv=>kV kv.1)=(dd seq).map V.int:=by unfold hJ;rw[As];rfl
def K5{ms:List Int}(h1:ms.Pairwise (·<=·))(h2:ms.Nodup):aG ms=true:=by
 rw[yj];intro i a b e hb;obtain⟨c,f⟩:=List.getElem?_eq_some_iff.mp e;obtain⟨d,g⟩:=List.getElem?_eq_some_iff.mp hb;have g1:=List.pairwise_iff_getElem.mp h1 i (i+1) c d ω;have g2:=List.pairwise_iff_getElem.mp h2 i (i+1) c d ω;rw[f,g] at g1 g2;omega
def jj(pss:Ξ):Prop:=pss.Nodup/\∀ps∈pss,ps≠[]/\ps.length<=4/\aG ps=true/\∀x∈ps,0<=x/\x<=5
def Base(b:Ξ):Prop:=(∃n,n<20/\b=known n)\/(b.length<=5/\jj b)
def Drawn(ae:Ξ):Prop:=∃b first a,Base b/\0<=first/\first<12/\1<=a/\a<=3/\ae.Perm (b.map (dq first a))
def K6:∀n,n<20->(known n).length<=20/\∀ps∈known n,ps≠[]/\ps.length<=5:=δ
section
variable{P:Program}{w:World}{K:Ad}{mg:Str->Option Value}{base:Heap}
def EO:Sp:=fun vs H Q _=>∃p,vs=[.ref p]/\zG H p/\∀D bs ae H',zu p H H'->zG H' p->H D=none->H' D=some (.lst (bs.map V.ref))->Tps H' bs ae->Drawn ae->Q (.ref D) H'
def k6:zq ["box","found","k","some","j","piece"] ["box"] (zg iu):=⟨rfl,rfl,rfl,δ,rfl,δ,δ⟩
def K7{f ft fn fk:Addr}{fd cw iz dS:FuncData}(F:Fun K "_law_web" "_law_web" iu f fd)(B:Bt mg)(Ft:Fun K "_law_take" "_law_take" jY ft cw)(U:Binds K cw ["box","most"] [])(mt:mg "_law_take"=some (.ref ft))(Fn:Fun K "_law_named" "_law_named" n4 fn iz)(bn:Binds K iz ["box","web"] [])(mn:mg "_law_named"=some (.ref fn))(Fk:Fun K "_law_known" "_law_known" ro fk dS)(bk:Binds K dS ["number"] [])(mk:mg "_law_known"=some (.ref fk)):FnOk P w K mg base az 3 f fd ["box"] EO:=by
 have Gt:FnOk P w K mg base az 1 ft cw ["box","most"] hF:=nY Ft;have Gn:FnOk P w K mg base az 2 fn iz ["box","web"] EN:=K0 Fn B Ft U mt;have Gk:FnOk P w K mg base az 1 fk dS ["number"] EM:=KW Fk B;refine F.ok k6 (fun vs H Q E h=>?_) (fun cdv A outer s H vs Q E hr h=>?_)
 ·obtain⟨p,rfl,_⟩:=h;rfl
 ·obtain⟨p,rfl,hb,k⟩:=h
  have hu:=d_ hr;have au:=hr.units;have g:Room 1 _:=hr.mono ξ;refine⟨_,zd (zR (zp db (zo Gt g rfl mt Ft.kp U .nil ao (ac (pv 0) (ac zf al))) zf (ar _))
    (zi (zt (zo Gn hr rfl mn Fn.kp bn .nil ao (ac (pv 0) (ac (zo Gk g rfl mk Fk.kp bk .nil ao (ac (zo Gt g rfl mt Ft.kp U .nil ao (ac (pv 0) (ac zf al))) al)) al))))) zv)
   (zd (zr (i:=1) k6.nd rfl (Or.inl rfl) (zO al))
   (zd (dW A7 rfl (CD rfl B.range (ac (zo Gt g rfl mt Ft.kp U .nil ao (ac (pv 0) (ac zf al))) al)) (zn (i:=2) k6.nd rfl (Or.inl rfl))
    (zd (zr (i:=3) k6.nd rfl (Or.inl rfl) v9)
    (zd (dW A7 rfl (CD rfl B.range (ac (zE eZ zf (zo Gt g rfl mt Ft.kp U .nil ao (ac (pv 0) (ac zf al)))) al)) (zn (i:=4) k6.nd rfl (Or.inl rfl))
     (zi (gb hu (pv 3) (zo Gt g rfl mt Ft.kp U .nil ao (ac (pv 0) (ac zf al))) dG rfl)))
    (zd (zr (i:=5) k6.nd rfl (Or.inl rfl) (zm zL rfl B.tuple jf (ac (zl xk rfl B.sorted je (ac (zm (kK rfl) rfl B.list ff (ac (pv 3) al)) al)) al)))
    (zi (zR (zp (Jd (in1_units au)) (pv 5) (pv 1) (by with_unfolding_all rfl)) (zi (fO (i3 PySem.F.plainAttrs_list PySem.F.slot_list_append PySem.F.type_list_append p8 (pv 1) (ac (pv 5) al)))) zv))))))
   (zi (zt (zo Gn hr rfl mn Fn.kp bn .nil ao (ac (pv 0) (ac (pv 1) al))))))),?_⟩
  refine⟨_,rfl,p,2,rfl,hb,ξ,ξ,fun r H1 r0 r1 cB u=>⟨rfl,_,rfl,?_⟩⟩;refine be (fun h1=>?_) (fun h1=>?_)
  ·refine⟨_,rfl,_,rfl,p,20,rfl,u,ξ,ξ,fun n H2 n0 n1 cy aS=>?_⟩
   obtain⟨m,rfl⟩:=Int.eq_ofNat_of_zero_le n0;refine⟨m,rfl,ω,fun D as H3 aU cC hD ht=>?_⟩;obtain⟨g1,g2⟩:=K6 m ω;have W:=(cB.trans cy).trans (zu.of aU);have ay:=aS.same aU;refine⟨p,D,as,known m,rfl,ay,hD,ht,g1,fun ps hp=>by have:=(g2 ps hp).2;omega,fun D' bs ae first aN I J v iy aZ S c1 c2 c3 c4 aX=>?_⟩;exact k D' bs ae I (W.trans J) v (W.free hb ay iy) aZ S ⟨known m,first,aN,.inl ⟨m,ω,rfl⟩,c1,c2,c3,c4,aX⟩
  ·refine⟨ze (by simp),fun L hL=>?_⟩
   have hL0:H L=none:=cB.free hb u hL;refine⟨_,rfl,p,6,rfl,u.new hL,ξ,ξ,fun r6 H3 a1 a2 W ay=>⟨r6,rfl,ω,ω,?_⟩⟩;have C:L≠p:=zG.ne (as:=[]) (u.new hL) ak;have mj:zu p H H3:=(cB.then hL0).trans W;refine CG (lo:=0) (n:=r6.toNat) (fun i σ I=>∃as pss v2 v3 M v5,σ=[some (.ref p),some (.ref L),v2,v3,M,v5]/\zu p H I/\zG I p/\I L=some (.lst (as.map V.ref))/\Tps I as pss/\jj pss/\pss.length<=i)
    ⟨[],[],none,none,none,none,rfl,mj,ay,W _ _ C ak,.nil,⟨List.nodup_nil,fun ps h=>nomatch h⟩,Ag _⟩ ?_ ?_
   ·rintro i σ I hi ⟨as,pss,v2,v3,M,v5,rfl,J,v,dQ,S,c,Y⟩
    have aL:=S.length;intro d hd;have eG:H d=none:=J.free hb v hd;have xY:L≠d:=zh dQ hd;refine⟨_,rfl,p,4,rfl,v.new hd,ξ,ξ,fun r4 H5 e1 e2 T b0=>⟨_,_,rfl,rfl,_,rfl,ω,ω,?_⟩⟩;have kT:d≠p:=by
     obtain⟨x,y,e,_⟩:=v.new (o:=.dK []) hd;exact dj ak e (by intro z;cases z)
    have s4:=Same.new (o:=.dK []) hd;refine CG (lo:=0) (n:=(1+r4).toNat) (fun j σ q=>∃seq M,σ=[some (.ref p),some (.ref L),some (.int (0+i)),some (.ref d),M,v5]/\zu p H q/\zG q p/\q L=some (.lst (as.map V.ref))/\Tps q as pss/\q d=some (.dK (hJ seq))/\seq.length=j/\∀x∈seq,0<=x/\x<=5)
     ⟨[],_,rfl,(J.then eG).trans T,b0,T _ _ C (s4 _ _ dQ),T.tps (v.new hd) (s4.tps S),T _ _ kT ak,rfl,fun x h=>nomatch h⟩ ?_ ?_
    ·rintro j σ q hj ⟨seq,M,rfl,a8,cb,N,Z,iB,kP,o_⟩
     refine⟨_,rfl,_,rfl,p,6,rfl,cb,ξ,ξ,fun r H7 f1 f2 G gf=>⟨d,_,rfl,DPut.k (k:=Sum.inl r) (G _ _ kT iB) (zZ (by have:=K2 seq;omega)),⟨seq++[r],_,rfl,(a8.trans G).then eG,gf.upd kT,?_,?_,by rw[ak,K3],by rw[Aw,kP];rfl,?_⟩⟩⟩
     ·rw[zj xY];exact G _ _ C N
     ·exact Tps.upd (G.tps cb Z) (G _ _ kT iB) (by intro xs z;cases z)
     ·intro x hx
      rcases List.mem_append.mp hx with hx|hx
      ·exact o_ x hx
      ·rw[Bd] at hx;subst hx;omega
    ·rintro σ q ⟨seq,M,rfl,a8,cb,N,Z,iB,kP,o_⟩
     refine⟨_,rfl,d,_,rfl,iB,fun l2 hl2=>⟨l2,dd seq,rfl,SqL.of (by rw[ak,K4]),(by have:=fo seq;omega),fun D2 ms hp hs aK=>⟨D2,_,rfl,.inl ⟨SqL.of ak,fun t eU=>?_⟩⟩⟩⟩;have l:Same q (upd (upd (upd q l2 (.lst ((hJ seq).map fun kv=>kV kv.1))) D2 (.lst (ms.map V.int))) t (.tup (ms.map V.int))):=((Same.new hl2).trans (Same.new aK)).trans (Same.new eU);generalize hH7:upd (upd (upd q l2 (.lst ((hJ seq).map fun kv=>kV kv.1))) D2 (.lst (ms.map V.int))) t (.tup (ms.map V.int))=H7 at l;have rg:Tp H7 t ms:=by rw[<-hH7];exact ak
     have G:=a8.trans (zu.of l);have gf:=cb.same l;refine⟨_,rfl,_,rfl,t,L,ms,as,pss,rfl,rfl,rg,SqL.of (l _ _ N),l.tps Z,_,rfl,?_⟩;have iD:ms≠[]/\ms.length<=4/\aG ms=true/\∀x∈ms,0<=x/\x<=5:=by
      refine⟨fun z=>?_,?_,K5 hs (hp.nodup_iff.mpr (jd seq)),fun x hx=>o_ x ((fv seq x).mp (hp.mem_iff.mp hx))⟩
      ·have h0:dd seq=[]:=by rw[z] at hp;exact(List.nil_perm.mp hp)
       cases hq:seq with
       |nil=>rw[hq] at kP;simp at kP;omega
       |cons x r=>
        have:=(fv seq x).mpr (by rw[hq];exact Av);rw[h0] at this;cases this
      ·have:=fo seq
       rw[hp.length_eq];omega
     by_cases O:ms∈pss
     ·rw[decide_eq_true O]
      exact aI ⟨as,pss,_,_,_,_,rfl,G,gf,l _ _ N,l.tps Z,c,ω⟩
     ·rw[decide_eq_false O]
      refine bg ⟨_,rfl,.inl ⟨rfl,_,SqL.of (l _ _ N)⟩,_,rfl,L,_,_,rfl,rfl,l _ _ N,zZ (by rw[Ab];omega),⟨as++[t],pss++[ms],_,_,_,_,rfl,G.then hL0,gf.upd C,by rw[ak,Am];rfl,Tps.upd (Tps.snoc (l.tps Z) rg) (l _ _ N) (by intro xs z;cases z),⟨?_,?_⟩,by rw[Aw];simp;omega⟩⟩
      ·rw[List.nodup_append]
       refine⟨c.1,by simp,fun a ha b X e=>?_⟩;rw[Bd] at X;subst X;subst e;exact O ha
      ·intro ps a7
       rcases List.mem_append.mp a7 with h|h
       ·exact c.2 ps h
       ·rw[Bd] at h;subst h;exact iD
   ·rintro σ I ⟨as,pss,v2,v3,M,v5,rfl,J,v,dQ,S,c,Y⟩
    refine⟨_,rfl,_,rfl,p,L,as,pss,rfl,v,dQ,S,ω,fun ps hp=>by have:=(c.2 ps hp).2.1;omega,fun D' bs ae first aN H5 T b0 iy cJ nt c1 c2 c3 c4 aX=>?_⟩;exact k D' bs ae H5 (J.trans T) b0 (J.free hb v iy) cJ nt ⟨pss,first,aN,.inr ⟨ω,c⟩,c1,c2,c3,c4,aX⟩
end
end K55
end
section
namespace K1
open PySem L2 STb
def EQ:∀a b:List Int,HT.lexLt a b=true->HT.lexLt b a=false
 |[],[],h=>rfl
 |[],_::_,h=>rfl
 |_::_,[],h=>by rw[HT.CV] at h;exact absurd h Ao
 |x::xs,y::ys,h=>by
  rw[HT.zI] at h ⊢
  by_cases e:x=y
  ·rw[if_pos e] at h;rw[if_pos e.symm];exact EQ xs ys h
  ·rw[if_neg e] at h;rw[if_neg (fun z=>e z.symm)]
   have:=of_decide_eq_true h;exact decide_eq_false ω
def ER:∀a b:List Int,HT.lexLt a b=false->HT.lexLt b a=false->a=b
 |[],[],_,_=>rfl
 |[],_::_,h,_=>by rw[HT.zY] at h;exact absurd h ξ
 |_::_,[],_,h=>by rw[HT.zY] at h;exact absurd h ξ
 |x::xs,y::ys,h,h'=>by
  rw[HT.zI] at h h'
  by_cases e:x=y
  ·rw[if_pos e] at h;rw[if_pos e.symm] at h'
   rw[e,ER xs ys h h']
  ·rw[if_neg e] at h;rw[if_neg (fun z=>e z.symm)] at h'
   have:=of_decide_eq_false h;have:=of_decide_eq_false h';omega
def kC:∀a b c:List Int,HT.lexLt b a=false->HT.lexLt c b=false->HT.lexLt c a=false
 |[],b,c,_,_=>by cases c with
  |nil=>rfl
  |cons _ _=>rfl
 |_::_,[],c,h,_=>by rw[HT.zY] at h;exact absurd h ξ
 |_::_,_::_,[],_,h=>by rw[HT.zY] at h;exact absurd h ξ
 |x::xs,y::ys,z::zs,h,h'=>by
  rw[HT.zI] at h h' ⊢
  by_cases e:y=x
  ·rw[if_pos e] at h
   by_cases e2:z=y
   ·rw[if_pos e2] at h';rw[if_pos (e2.trans e)];exact kC xs ys zs h h'
   ·rw[if_neg e2] at h';rw[if_neg ω]
    have:=of_decide_eq_false h';exact decide_eq_false ω
  ·rw[if_neg e] at h
   have h1:=of_decide_eq_false h
   by_cases e2:z=y
   ·rw[if_neg ω]
    exact decide_eq_false ω
   ·rw[if_neg e2] at h'
    have h2:=of_decide_eq_false h';rw[if_neg ω];exact decide_eq_false ω
def key(p:List Int):List Int:=(p.length:Int)::p
def kle(a b:List Int):Bool:=!HT.lexLt (key b) (key a)
def n7{a b:List Int}:kle a b=true↔HT.lexLt (key b) (key a)=false:=by unfold kle;simp
def canon(pss:Ξ):Ξ:=(dd (pss.flatMap parts)).mergeSort kle
def n9(pss:Ξ):(canon pss).Perm (dd (pss.flatMap parts)):=List.mergeSort_perm _ _
def ES(pss:Ξ):(canon pss).Pairwise (fun a b=>kle a b=true):=by
 refine List.pairwise_mergeSort (fun a b c h1 h2=>?_) (fun a b=>?_) _
 ·rw[n7] at h1 h2 ⊢;exact kC _ _ _ h1 h2
 ·rw[Bool.or_eq_true,n7,n7]
  cases h:HT.lexLt (key b) (key a) with
  |false=>exact .inl rfl
  |true=>exact .inr (EQ _ _ h)
def z_{pss:Ξ}{x:List Int}:x∈canon pss↔x∈pss.flatMap parts:=by rw[(n9 pss).mem_iff,fv]
def K8(pss:Ξ):(canon pss).Nodup:=(n9 pss).nodup_iff.mpr (jd _)
def zJ(pss:Ξ):(canon pss).length=(dd (pss.flatMap parts)).length:=(n9 pss).length_eq
def K9{l m:Ξ}(hp:l.Perm m)(h1:l.Pairwise (fun a b=>kle a b=true))(h2:m.Pairwise (fun a b=>kle a b=true)):l=m:=by
 refine List.Perm.eq_of_pairwise (fun a b _ _ g1 g2=>?_) h1 h2 hp;rw[n7] at g1 g2;have:=ER _ _ g2 g1;unfold key at this;exact(List.cons.inj this).2
def canon_of{pss l:Ξ}(hp:l.Perm (dd (pss.flatMap parts)))(hs:l.Pairwise (fun a b=>HT.lexLt ((b.length:Int)::b) ((a.length:Int)::a)=false)):l=canon pss:=
 K9 (hp.trans (n9 pss).symm) (hs.imp fun h=>n7.mpr h) (ES pss)
def rp:∀(n:Nat)(p q:List Int),p.length=n->(q∈subs p↔q.Sublist p)
 |0,p,q,h=>by
  obtain rfl:=List.eq_nil_of_length_eq_zero h;show q∈[[]]↔_;simp
 |n+1,p,q,h=>by
  obtain⟨r,x,rfl⟩:∃r x,p=r++[x]:=by
   rcases List.eq_nil_or_concat p with e|⟨r,x,e⟩
   ·rw[e] at h;cases h
   ·exact⟨r,x,by rw[e,List.concat_eq_append]⟩
  have hr:r.length=n:=by simpa using h
  rw[yb,List.mem_append,rp n r q hr,List.mem_map,List.sublist_append_iff];constructor
  ·rintro(h1|⟨y,hy,rfl⟩)
   ·exact⟨q,[],by simp,h1,List.nil_sublist _⟩
   ·exact⟨y,[x],rfl,(rp n r y hr).mp hy,List.Sublist.refl _⟩
  ·rintro⟨a,d,rfl,b,c⟩
   cases c with
   |cons _ h=>
    obtain rfl:=List.sublist_nil.mp h;exact .inl (by simpa using b)
   |cons_cons _ h=>
    obtain rfl:=List.sublist_nil.mp h;exact .inr ⟨a,(rp n r a hr).mpr b,rfl⟩
def iw{p q:List Int}:q∈parts p↔q≠[]/\q.Sublist p:=by
 obtain⟨t,e,a⟩:=yh p;have hs:=rp p.length p q rfl;rw[e] at hs;unfold parts;rw[e];show q∈t↔_;constructor
 ·intro h
  exact⟨a q h,hs.mp (Ax _ h)⟩
 ·rintro⟨h1,h2⟩
  rcases List.mem_cons.mp (hs.mpr h2) with h|h
  ·exact absurd h h1
  ·exact h
def rq:∀p:List Int,aG p=true↔p.Pairwise (·<·)
 |[]=>by simp[aG]
 |[a]=>by simp[aG]
 |a::b::r=>by
  have c:=rq (b::r);rw[show aG (a::b::r)=(decide (a<b)&&aG (b::r)) from rfl,AC,decide_eq_true_eq,c,List.pairwise_cons (a:=a)];constructor
  ·rintro⟨h1,h2⟩
   refine⟨fun x hx=>?_,h2⟩;rcases List.mem_cons.mp hx with rfl|hx
   ·exact h1
   ·have:=(List.pairwise_cons.mp h2).1 x hx
    omega
  ·rintro⟨h1,h2⟩
   exact⟨h1 b Av,h2⟩
def k7{p:List Int}:eT p=true↔p≠[]/\p.length<=5/\(∀x∈p,0<=x/\x<=99)/\p.Pairwise (·<·):=by
 unfold eT;simp only[AC,decide_eq_true_eq,List.all_eq_true,rq];constructor
 ·rintro⟨⟨⟨h1,h2⟩,a⟩,b⟩
  exact⟨fun z=>by rw[z] at h1;simp at h1,h2,a,b⟩
 ·rintro⟨h1,h2,a,b⟩
  refine⟨⟨⟨?_,h2⟩,a⟩,b⟩;cases p with
  |nil=>exact absurd rfl h1
  |cons _ _=>simp
def K_{p q:List Int}(h:eT p=true)(hq:q∈parts p):eT q=true:=by
 rw[k7] at h ⊢;rw[iw] at hq;exact⟨hq.1,AQ hq.2.length_le h.2.1,fun x hx=>h.2.2.1 x (hq.2.subset hx),h.2.2.2.sublist hq.2⟩
def K'{pss:Ξ}(g:pss.Nodup)(hp:∀p∈pss,eT p=true):Ef pss pss.length:=by
 intro i p hi e;refine⟨fun hm=>?_,hp p (Ap e)⟩;obtain⟨j,b⟩:=List.mem_iff_getElem?.mp hm;obtain⟨c,a⟩:=List.getElem?_eq_some_iff.mp b;rw[AJ] at c;obtain⟨d,f⟩:=List.getElem?_eq_some_iff.mp e;have:=List.pairwise_iff_getElem.mp g j i ω d ω;rw[List.getElem_take] at a;exact this (a.trans f.symm)
def ET{pss:Ξ}(a:pss.length<=20)(b:pss.Nodup)(hp:∀p∈pss,eT p=true)(h:(dd (pss.flatMap parts)).length<=200):bv pss=true:=by
 rw[JN pss a (K' b hp),decide_eq_true h]
def gk{pss:Ξ}(h:bv pss=true):pss.length<=20/\(∀p∈pss,eT p=true)/\(∀p∈pss,p.length<=5)/\(dd (pss.flatMap parts)).length<=200:=by
 unfold bv at h;simp only[AC,decide_eq_true_eq,List.all_eq_true] at h;obtain⟨⟨⟨h1,h2⟩,c⟩,b⟩:=h;have a:∀p∈pss,eT p=true:=fun p hp=>by rw[<-yk];exact h2 p hp
 exact⟨h1,a,fun p hp=>(k7.mp (a p hp)).2.1,b⟩
def over(o p:List Int):Bool:=decide (p.length<o.length)&&p.all fun x=>decide (x∈o)
end K1
end
section
namespace K55
open K1
open PySem L2 STb
def La(b:Ξ):Prop:=b.Nodup/\b.length<=17/\(∀ps∈b,ps≠[]/\ps.length<=5/\aG ps=true/\∀x∈ps,0<=x/\x<=7)/\(b.flatMap parts).length<=200
def Lb:∀n,n<20->(known n).Nodup/\(known n).length<=17/\(∀ps∈known n,ps≠[]/\ps.length<=5/\aG ps=true/\∀x∈ps,0<=x/\x<=7)/\((known n).flatMap parts).length<=200:=δ
def EU{m:Nat}:∀{b:Ξ},(∀ps∈b,(parts ps).length<=m)->(b.flatMap parts).length<=m*b.length
 |[],_=>by simp
 |p::r,h=>by
  have h1:=h p Av;have h2:=EU (b:=r) fun q hq=>h q (Ax _ hq);rw[List.flatMap_cons,Aw,Au,Nat.mul_succ];omega
def Lc{b:Ξ}(h:Base b):La b:=by
 rcases h with ⟨n,a,rfl⟩|⟨e,hs⟩
 ·exact Lb n a
 ·refine⟨hs.1,ω,fun ps hp=>?_,?_⟩
  ·obtain⟨h1,h2,c,d⟩:=hs.2 ps hp
   exact⟨h1,ω,c,fun x hx=>by have:=d x hx;omega⟩
  ·have:=EU (m:=15) (b:=b) fun ps hp=>by
    rw[kU];have h2:=(hs.2 ps hp).2.1;have:2 ^ ps.length<=2 ^ 4:=Nat.pow_le_pow_right ξ h2;omega
   omega
def Ld{first a:Int}(b:1<=a){p q:List Int}(h:dq first a p=dq first a q):p=q:=by
 unfold dq at h;refine(List.map_inj_right (f:=fun x=>first+a*x) (fun x y e=>?_)).mp h;have:a*x=a*y:=ω
 exact Int.eq_of_mul_eq_mul_left ω this
def Le{first f:Int}(i:0<=first)(h1:first<12)(j:1<=f)(l:f<=3){p:List Int}(h:p≠[]/\p.length<=5/\aG p=true/\∀x∈p,0<=x/\x<=7):eT (dq first f p)=true:=by
 obtain⟨a,b,c,d⟩:=h;rw[k7];unfold dq;refine⟨fun z=>a (List.map_eq_nil_iff.mp z),by rw[Ab];exact b,fun y hy=>?_,?_⟩
 ·obtain⟨x,hx,rfl⟩:=List.mem_map.mp hy
  have:=d x hx;have g:f=1\/f=2\/f=3:=ω
  rcases g with rfl|rfl|rfl<;>omega
 ·rw[rq] at c
  rw[Bi];refine c.imp fun{x y} e=>?_;have:f*x<f*y:=Int.mul_lt_mul_of_pos_left e ω;omega
def k8{q:Ξ}(h:Drawn q):bv q=true/\q.Nodup/\q.length<=17:=by
 obtain⟨b,first,d,hb,f,h1,a,g,hp⟩:=h;obtain⟨n1,n2,i,j⟩:=Lc hb;have l:q.length<=17:=by rw[hp.length_eq,Ab];exact n2
 have c:q.Nodup:=by
  rw[hp.nodup_iff];unfold List.Nodup at n1 ⊢;rw[Bi];exact n1.imp fun{x y} e z=>e (Ld a z)
 refine⟨ET ω c (fun p hm=>?_) ?_,c,l⟩
 ·obtain⟨r,hr,rfl⟩:=List.mem_map.mp (hp.mem_iff.mp hm)
  exact Le f h1 a g (i r hr)
 ·refine AQ (fo _) ?_
  rw[(hp.flatMap_right parts).length_eq];have:∀b:Ξ,((b.map (dq first d)).flatMap parts).length=(b.flatMap parts).length:=by
   intro b
   induction b with
   |nil=>rfl
   |cons p r ih=>
    rw[Ar,List.flatMap_cons,List.flatMap_cons,Aw,Aw,ih,kU,kU];unfold dq;rw[Ab]
  rw[this];exact j
end K55
end
section
namespace K1
open PySem L2 STb
def Lf(q:List Int):Ξ:=if q.length=1 then [] else(Bc q.length).map fun k=>q.take k++q.drop (k+1)
def Bm:∀(o p:List Int),o.Pairwise (·<·)->p.Pairwise (·<·)->(∀x∈p,x∈o)->p.Sublist o
 |[],p,_,_,h=>by
  cases p with
  |nil=>exact List.Sublist.slnil
  |cons a r=>exact absurd (h a Av) (by simp)
 |b::o,p,ho,hp,h=>by
  obtain⟨f,c⟩:=List.pairwise_cons.mp ho;cases p with
  |nil=>exact List.nil_sublist _
  |cons a r=>
   obtain⟨d,g⟩:=List.pairwise_cons.mp hp
   by_cases e:a=b
   ·subst e
    refine(Bm o r c g fun x hx=>?_).cons_cons a;rcases List.mem_cons.mp (h x (Ax _ hx)) with rfl|q
    ·have:=d x hx;omega
    ·exact q
   ·have i:a∈o:=by
     rcases List.mem_cons.mp (h a Av) with q|q
     ·exact absurd q e
     ·exact q
    have j:=f a i;refine(Bm o (a::r) c hp fun x hx=>?_).cons b;rcases List.mem_cons.mp (h x hx) with q|q
    ·exfalso
     rcases List.mem_cons.mp hx with z|z
     ·omega
     ·have:=d x z;omega
    ·exact q
end K1
end
section
namespace K55
open K1
open PySem L2 STb
def Lg:∀n,n<20->(dd ((known n).flatMap parts)).length<=56:=δ
def six:Ξ:=(parts [0,1,2,3,4,5]).filter fun q=>decide (q.length<=4)
def Lh:six.length=56:=δ
def Li{b:Ξ}(h:Base b):(dd (b.flatMap parts)).length<=56:=by
 rcases h with ⟨n,a,rfl⟩|⟨c,hs⟩
 ·exact Lg n a
 ·rw[<-Lh]
  refine(jd _).length_le_of_subset fun x hx=>?_;rw[fv,List.mem_flatMap] at hx;obtain⟨p,hp,hx⟩:=hx;obtain⟨_,d,hr,hb⟩:=hs.2 p hp;rw[iw] at hx;have e:=hx.2.length_le;unfold six;rw[List.mem_filter,iw];refine⟨⟨hx.1,hx.2.trans (Bm _ _ ξ ((rq p).mp hr) fun y hy=>?_)⟩,decide_eq_true ω⟩;have:=hb y hy;have:y=0\/y=1\/y=2\/y=3\/y=4\/y=5:=ω
  rcases this with rfl|rfl|rfl|rfl|rfl|rfl<;>decide
def k_{q:Ξ}(h:Drawn q):(dd (q.flatMap parts)).length<=56:=by
 obtain⟨b,first,d,hb,_,_,_,_,hp⟩:=h;refine AQ ?_ (Li hb);have e:((dd (b.flatMap parts)).map (dq first d)).length=(dd (b.flatMap parts)).length:=Ab _;rw[<-e];refine(jd _).length_le_of_subset fun x hx=>?_;rw[fv,List.mem_flatMap] at hx;obtain⟨p,hm,hx⟩:=hx;obtain⟨r,hr,rfl⟩:=List.mem_map.mp (hp.mem_iff.mp hm);rw[iw] at hx;obtain⟨a,c⟩:=hx;unfold dq at c;obtain⟨y,hy,rfl⟩:=List.sublist_map_iff.mp c;refine List.mem_map.mpr ⟨y,?_,rfl⟩;rw[fv,List.mem_flatMap];exact⟨r,hr,iw.mpr ⟨fun z=>a (by rw[z];rfl),hy⟩⟩
end K55
end
section
namespace K55
open K1
open PySem L2 STb
def a6(pss:Ξ):Prop:=bv pss=true/\(canon pss).length<64
abbrev rv:Stmt:=top 25
abbrev n_:Stmt:=top 26
def EW{H:Hp}:∀{a:List (List Int×Addr)},(∀q∈a,Tp H q.2 q.1)->Tps H (a.map (·.2)) (a.map (·.1))
 |[],_=>.nil
 |q::r,h=>.cons (h q Av) (EW fun x hx=>h x (Ax _ hx))
def jl{H H2:Hp}{pss:Ξ}{D:Addr}{a:List (List Int×Addr)}(t:Told H H2 pss D a):∃bs,Same H H2/\H D=none/\H2 D=some (.lst (bs.map V.ref))/\Tps H2 bs (canon pss):=by
 obtain⟨b,c,d,hq,hp,hs⟩:=t;have e:a.map (·.1)=canon pss:=canon_of hp (List.pairwise_map.mpr hs);refine⟨a.map (·.2),b,c,by rw[d,As];rfl,?_⟩;rw[<-e];exact EW hq
section
variable{P:Program}{w:World}{K:Ad}{mg:Str->Option Value}{base:Heap}
def Bo(K:Ad):Sp:=fun vs H Q _=>∃l as pss,vs=[.ref l]/\SqL K H l (as.map V.ref)/\Tps H as pss/\a6 pss/\∀D H2 bs,Same H H2->H D=none->H2 D=some (.lst (bs.map V.ref))->Tps H2 bs (canon pss)->Q (.ref D) H2
def Lj:zq ["web"] ["web"] (zg n_):=⟨rfl,rfl,rfl,δ,rfl,δ,δ⟩
def Lk:zq ["web"] ["web"] (zg rv):=⟨rfl,rfl,rfl,δ,rfl,δ,δ⟩
def Bp(K:Ad):Sp:=fun vs H Q _=>∃l as pss,vs=[.ref l]/\SqL K H l (as.map V.ref)/\Tps H as pss/\a6 pss/\∀H2,Same H H2->Q .non H2
def Ll{f fw:Addr}{fd c5:FuncData}(F:Fun K "must_be_web" "must_be_web" rv f fd)(Fw:Fun K "is_web" "is_web" qW fw c5)(d:Binds K c5 ["web"] [])(e:mg "is_web"=some (.ref fw))(g:FnOk P w K mg base az 6 fw c5 ["web"] (Er K)):FnOk P w K mg base az 7 f fd ["web"] (Bp K):=by
 refine F.ok Lk (fun vs H Q E h=>?_) (fun cdv A outer s H vs Q E hr h=>?_)
 ·obtain⟨l,as,pss,rfl,_⟩:=h;rfl
 ·obtain⟨l,as,pss,rfl,b,c,hw,k⟩:=h
  refine⟨_,zi (zR (fL (fN (zo g hr rfl e Fw.kp d .nil ao (ac (pv 0) al)))) tH zv),?_⟩;refine⟨_,rfl,l,as,pss,rfl,b,c,(fun _=>by rw[<-zJ];exact hw.2),fun H1 a=>⟨_,rfl,?_⟩⟩;rw[hw.1];exact aI (k H1 a)
def Lm{f fw fa:Addr}{fd c5 c:FuncData}(F:Fun K "pieces" "pieces" n_ f fd)(Fw:Fun K "must_be_web" "must_be_web" rv fw c5)(q:Binds K c5 ["web"] [])(r:mg "must_be_web"=some (.ref fw))(x:FnOk P w K mg base az 7 fw c5 ["web"] (Bp K))(Fa:Fun K "all_parts" "all_parts" sAll fa c)(u:Binds K c ["some"] [])(v:mg "all_parts"=some (.ref fa))(y:FnOk P w K mg base az 5 fa c ["some"] (jR K)):FnOk P w K mg base az 8 f fd ["web"] (Bo K):=by
 refine F.ok Lj (fun vs H Q E h=>?_) (fun cdv A outer s H vs Q E hr h=>?_)
 ·obtain⟨l,as,pss,rfl,_⟩:=h;rfl
 ·obtain⟨l,as,pss,rfl,d,e,hw,k⟩:=h
  have b:Room 5 _:=hr.mono ξ;refine⟨_,zd (fO (zo x hr rfl r Fw.kp q .nil ao (ac (pv 0) al)))
   (zi (zt (zo y b rfl v Fa.kp u .nil ao (ac (pv 0) al)))),?_⟩
  obtain⟨g,_,i,_⟩:=gk hw.1;refine⟨_,rfl,l,as,pss,rfl,d,e,hw,fun H1 a=>?_⟩;refine⟨_,rfl,l,as,pss,rfl,a.seq d,a.tps e,i,g,(by rw[<-zJ];exact hw.2),fun D H2 z t=>?_⟩;obtain⟨bs,j,o,p,hb⟩:=jl t;exact k D H2 bs (a.trans j) (a.free o) p hb
end
end K55
end
section
namespace STb
def EY(ns:List Int):∀i,i<=ns.length->PyProof.Rows.firstMet (fun i=>ns.getD i 0) i=dd (ns.take i):=by
 intro i
 induction i with
 |zero=>intro _;simp[PyProof.Rows.firstMet,dd]
 |succ i ih=>
  intro hi;have hx:ns[i]?=some ns[i]:=Af ω;have a:ns.take (i+1)=ns.take i++[ns[i]]:=by rw[List.take_add_one,hx];rfl
  rw[PyProof.Rows.firstMet_succ,ih ω,a,gY];have b:ns.getD i 0=ns[i]:=by rw[AL,hx];rfl
  rw[b];unfold PyProof.Rows.step_dedup
  by_cases q:ns[i]∈dd (ns.take i)
  ·rw[if_pos q];simp[q]
  ·rw[if_neg q];simp[q]
def ix{a:Type}[DecidableEq a](l:List a)(x:a):x∈dd l↔x∈l:=by
 suffices ∀(n:Nat),x∈dd (l.take n)↔x∈l.take n by simpa using this l.length
 intro n
 induction n with
 |zero=>simp[dd]
 |succ n ih=>
  rw[List.take_add_one];cases e:l[n]? with
  |none=>simpa[e] using ih
  |some y=>
   show x∈dd (l.take n++[y])↔x∈l.take n++[y];rw[gY]
   by_cases q:y∈dd (l.take n)
   ·rw[if_pos q,List.mem_append,Bd,ih]
    exact⟨.inl,fun z=>z.elim id fun z=>by
     subst z;exact ih.mp q⟩
   ·rw[if_neg q,List.mem_append,List.mem_append,ih]
def Ln{c:Type}[DecidableEq c](l:List c):(dd l).Nodup:=by
 suffices ∀(n:Nat),(dd (l.take n)).Nodup by simpa using this l.length
 intro n
 induction n with
 |zero=>simp[dd]
 |succ n ih=>
  rw[List.take_add_one];cases e:l[n]? with
  |none=>simpa[e] using ih
  |some y=>
   show(dd (l.take n++[y])).Nodup;rw[gY]
   by_cases q:y∈dd (l.take n)
   ·rw[if_pos q];exact ih
   ·rw[if_neg q,List.nodup_append]
    refine⟨ih,by simp,fun a d b hb=>?_⟩;rw[List.mem_singleton.mp hb];exact fun z=>q (z▸d)
def EZ{f:Type}[DecidableEq f](l:List f):(dd l).length<=1↔∀x∈l,∀y∈l,x=y:=by
 constructor
 ·intro h x hx y hy
  have c:=(ix l x).mpr hx;have d:=(ix l y).mpr hy
  match hd:dd l,h,c,d with
  |[a],_,c,d=>rw[List.mem_singleton.mp c,List.mem_singleton.mp d]
  |a::b::r,h,_,_=>simp at h
 ·intro h
  have e:=Ln l
  match hd:dd l with
  |[]=>simp
  |[a]=>simp
  |a::b::r=>
   rw[hd] at e;have:=h a ((ix l a).mp (by rw[hd];simp)) b ((ix l b).mp (by rw[hd];simp));subst this;simp at e
end STb
namespace L2
open PySem PySem.Spec PyProof.Rows
section
variable{X:Cx}
def Lo(hc:X.calm=true):z0 X (.type "set") (fun xs H Q=>∃(l:Addr)(ns:List Int),xs=[.ref l]/\SqL X.K H l (ns.map V.int)/\ns.length<1000/\
  ∀D S,H D=none->Q (.ref D) (upd H D (.set S (STb.dd ns).length))):=by
 intro aa s σ H xs us Q I r h;obtain⟨l,ns,rfl,hq,p,q⟩:=h;obtain⟨u,rfl,g⟩:=vals1 r;cases g;obtain⟨a,d,p1,_⟩:=I.list hq;have hi:=intsAre_of d;have j:a.length=ns.length:=by simpa using (A4 d).symm
 refine call_set_list (ns:=ns) (I.ok.hd hc) p1.isList (by simpa using hi) (by rw[Ai];unfold scanBound;omega) fun h' tk T f=>?_;have hsz:a.toArray.size=ns.length:=by rw[Ai];exact j
 have c:firstMet (fun i=>ns.getD i 0) a.toArray.size=STb.dd ns:=by rw[hsz,STb.EY ns _ (Ag _),List.take_length]
 rw[c] at T;exact⟨.ref s⁻¹,_,I.laid (o:=.set _ (STb.dd ns).length) (fun b u e=>f b u (Al e) e) (Ag _) (show Heap.SetOf _ _ _ _ _ from T),rfl,q _ _ (I.hok.fresh (Ag _))⟩
def Lp:z0 X (.builtin "len") (fun xs H Q=>∃D S n,xs=[.ref D]/\H D=some (.set S n)/\Q (.int n) H):=by
 intro aa s σ H xs us Q I r h;obtain⟨D,S,n,rfl,hq,q⟩:=h;obtain⟨u,rfl,a⟩:=vals1 r;cases a;obtain⟨o,es,ep,t,h1,h2,b,f,g,c,d,e⟩:=(show s.heap.SetOf (intKind X.prog X.w) D S n from I.hok D _ hq);unfold scanBound at c;exact call_len_set h1 h2 b d ω ⟨.int n,H,I.tok _,⟨_,by rw[e]⟩,q⟩
end
end L2
end
section
namespace L2
open PySem PySem.Spec PyProof.Rows
section
variable{X:Cx}
def Lq:z0 X (.builtin "isinstance") (fun xs H Q=>∃n,xs=[.int n,.ty "int"]/\Q (.bl true) H):=by
 intro aa s σ H xs us Q I r h;obtain⟨n,rfl,q⟩:=h;obtain⟨u,c,rfl,a,b⟩:=vals2 r;cases b;exact uT I a (.int n) (by first|rfl|kernel_rfl|decide +kernel) fun tk=>⟨.bl true,H,I.tok _,rfl,q⟩
def Lr:z0 X (.builtin "isinstance") (fun xs H Q=>∃n,xs=[.int n,.ty "bool"]/\Q (.bl false) H):=by
 intro aa s σ H xs us Q I r h;obtain⟨n,rfl,q⟩:=h;obtain⟨u,c,rfl,a,b⟩:=vals2 r;cases b;exact uT I a (.int n) (by first|rfl|kernel_rfl|decide +kernel) fun tk=>⟨.bl false,H,I.tok _,rfl,q⟩
def E4(ns:List Int):∀k,k<=ns.length->preSum (fun i=>(ns[i]?).getD 0) k=(ns.take k).sum
 |0,_=>by simp[preSum]
 |k+1,h=>by
  have a:=E4 ns k ω;have e:ns[k]?=some ns[k]:=Af ω;show preSum (fun i=>(ns[i]?).getD 0) k+(ns[k]?).getD 0=_;rw[a,List.take_add_one,e,List.sum_append];simp
def ints_get{ns:List Int}{a:List Value}(r:Vals (ns.map V.int) a){i:Nat}{v:Value}(h:a[i]?=some v):∃n t,ns[i]?=some n/\v=.int n t:=by
 have c:a.length=ns.length:=by rw[<-r.length,Ab]
 have hi:i<ns.length:=by rw[<-c];exact(List.getElem?_eq_some_iff.mp h).1
 have e:ns[i]?=some ns[i]:=Af hi;obtain⟨u,hu,b⟩:=r.get (show(ns.map V.int)[i]?=some (V.int ns[i]) by rw[Aj,e];rfl);rw[h] at hu;obtain rfl:=An hu;obtain⟨t,rfl⟩:=b;exact⟨_,t,e,rfl⟩
def Ls(hc:X.calm=true):z0 X (.builtin "sum") (fun xs H Q=>∃(l:Addr)(ns:List Int),xs=[.ref l]/\SqL X.K H l (ns.map V.int)/\Q (.int ns.sum) H):=by
 intro aa s σ H xs us Q I r h;obtain⟨l,ns,rfl,hq,q⟩:=h;obtain⟨u,rfl,w⟩:=vals1 r;cases w;obtain⟨a,g,p1,_⟩:=I.list hq;have x:=I.ok.hd hc;have d:=p1.isList;have c:l<s⁻¹:=by obtain⟨_,e,_⟩:=d;exact Al e
 have y:a.length=ns.length:=by rw[<-g.length,Ab]
 refine call_sum_walkAnyS (wpAny_pyIter_list d ?_);refine⟨s⁻¹,[s⁻¹,l],[s⁻¹],_,a.toArray.size,_,_,fun i=>(ns[i]?).getD 0,rfl,(Walks.list (A:=X.A.in1) x _ l (Aq c) a.toArray).toS,
  ⟨⟨_,Ak _ rfl,rfl,rfl⟩,d.push _⟩,fun b hb=>?_,fun i v j=>?_,fun s' t' hm=>?_⟩
 ·have f:b<=s⁻¹:=by
   simp only[List.mem_cons,List.not_mem_nil,or_false] at hb;rcases hb with rfl|rfl
   ·exact Ag _
   ·exact Nat.le_of_lt c
  exact Nat.lt_of_le_of_lt f (Al (Ak _ rfl))
 ·obtain⟨n,t,e,rfl⟩:=ints_get g (show a[i]?=some v by simpa using j)
  exact⟨t,by simp only[e,Option.getD_some]⟩
 ·have e:preSum (fun i=>(ns[i]?).getD 0) a.toArray.size=ns.sum:=by
   rw[Ai,y,E4 ns _ (Ag _),Az (Ag _)]
  rw[e,Moved.eq_with hm];exact⟨.int _,H,I.kept (LSm.kept_iter fun b o hb p=>hm.heap b o hb p),⟨_,rfl⟩,q⟩
end
end L2
end
section
namespace K1
open PySem L2 STb
def lens(kn:Ξ):List Int:=kn.map fun p=>(p.length:Int)
end K1
end
section
namespace DPr
open PySem PyProof.Rows
section
variable{prog:Program}{w:World}{A:Around}{E:Ω}{s:Shared}
def Lu:typeLookup (.type "list") "keys"=pure none:=by rw[typeLookup_type,builtinLookup_eq_fast];kernel_rfl
def Lv{a:Addr}{o:Obj}{xs:Array Value}{k:Nat}{Q:Option Value->Shared->Prop}(hx:s.heap.get? a=some o)(hc:o.cls=.type "list")(j:o.data=.seq xs k)(hd:o.dict=none)(p:A.handled=none)(h:∀h' tk e,Heap.NewExcOf s.heap h' e "AttributeError"->Q none {s with heap:=h',toks:=tk}):wpAny (model prog w) A (getAttr? (.ref a) "keys") Q E s:=by
 obtain⟨c,r,u,l⟩:=o;simp only at hc j hd;subst hc j hd;obtain⟨hp,g,d,tk,os⟩:=s;have i:∀b,(⟨hp,g,d,b,os⟩:Shared).TypeIs (.ref a) "list":=fun _=>⟨_,hx,rfl⟩;have f1:=sub_AttributeError;have f3:=F.slot_list_getattribute.lookup;have f4:=F.slot_list_getattribute.bind (.ref a);have f5:=am_list_getattr_none;unfold getAttr? getAttrBy? getAttrBy
 repeat(any_goals(first|assumption|exact i _|((with_reducible show wpAny _ _ (call (Value.builtin "list.__getattribute__") _ _) _ _ _);refine call_meets F.slot_list_getattribute (i _) am_entry_list_getattribute (F.args_list_getattribute_2 _ _) (meets_getattribute_miss_list a xs k l "keys" _ Lu ξ (by size_fits)) ⟨hx,p,fun h' b e f=>?_⟩)|wp_step))
 obtain⟨t',q,he⟩:=f.there;show wpAny _ _ (getattributeRaised _ _ _ _ _ _ _) _ _ _;unfold getattributeRaised
 repeat(any_goals(first|assumption|wp_step))
 exact h _ _ _ f.of
def rx:entryFor table "dict.update.loop"=some Builtin.«dict.update.loop»:=entryFor_of_tree (by kernel_rfl)
def j0:plainId "dict.update.loop"=true:=δ
abbrev lp(D I:Addr)(i:Int):Code:=.builtin "dict.update.loop" ⟨[.ref D,.ref I,rawInt i,.none],[]⟩
variable{K:Type}[DecidableEq K]{knd:KeyKind prog w K}
abbrev Pr(K:Type):Type:=Addr×List K×Addr×Value
def Good(knd:KeyKind prog w K)(h:Heap)(x:Pr K):Prop:=h.IsTuple x.1 #[.ref x.2.2.1,x.2.2.2]/\AH knd h x.2.1 x.2.2.1
def Lw(xs:List (List K×Addr×Value))(ts:List (Pr K)):List (List K×Addr×Value):=ts.foldl (fun acc x=>storedH acc x.2.1 x.2.2.1 x.2.2.2) xs
def E5{h h':Heap}{x:Pr K}{D I:Addr}{o:Obj}(g:Good knd h x)(w:∃o,h.get? D=some o/\o.cls=.type "dict")(y:∃o,h.get? I=some o/\o.cls=.type "list_iterator")(i:∀b o,b≠D->b≠I->h.get? b=some o->h'.get? b=some o):Good knd h' x:=by
 obtain⟨⟨j,e1,e,l⟩,p,it,n,e2,f,q⟩:=g;obtain⟨A,r,s⟩:=w;obtain⟨C,u,v⟩:=y;have ne:∀{a:Addr}{d:Obj},h.get? a=some d->d.cls=.type "tuple"->a≠D/\a≠I:=fun{a d} c ca=>by
  refine⟨fun z=>?_,fun z=>?_⟩
  ·rw[z,r] at c
   rw[<-An c,s] at ca;exact absurd ca ξ
  ·rw[z,u] at c
   rw[<-An c,v] at ca;exact absurd ca ξ
 exact⟨⟨j,i _ _ (ne e1 e).1 (ne e1 e).2 e1,e,l⟩,p,it,n,i _ _ (ne e2 f).1 (ne e2 f).2 e2,f,q⟩
def E6{h h':Heap}{D I:Addr}{xs:List (List K×Addr×Value)}(d:h.DictOfH (tupleKind knd) D xs)(c:D≠I)(r:∃o,h.get? I=some o/\o.cls=.type "list_iterator")(e:∀b o,b≠I->h.get? b=some o->h'.get? b=some o):h'.DictOfH (tupleKind knd) D xs:=by
 obtain⟨o,es,ep,f,hc,hd,he,g,i⟩:=d;obtain⟨s,j,l⟩:=r;refine⟨o,es,ep,e _ _ c f,hc,hd,he,fun x hx=>?_,i⟩;obtain⟨p,it,n,e2,a,q⟩:=g x hx;refine⟨p,it,n,e _ _ (fun z=>?_) e2,a,q⟩;rw[z,j] at e2;rw[<-An e2,l] at a;exact absurd a ξ
def pair_items{t:Addr}{b:Array Value}{Q:List Value->Shared->Prop}(c:s.heap.IsTuple t b)(h:Q b.toList s):wpAny (model prog w) A (Builtin.Dict.pairItems (.ref t)) Q E s:=by
 obtain⟨o,a,hc,n,hd⟩:=c;unfold Builtin.Dict.pairItems;refine Aa (wpAny_typeOf (show s.TypeIs (.ref t) "tuple" from⟨o,a,hc⟩) ?_);rw[if_pos ξ];exact Aa (wpAny_seqItems a hd (Ac h))
def Lx(xs:List (List K×Addr×Value))(k:List K)(a:Addr)(v:Value):(storedH xs k a v).length<=xs.length+1:=by
 unfold storedH;split
 ·rw[Ab];omega
 ·rw[Aw];simp
def ry{D I L:Addr}{ts:List (Pr K)}{R:Result->Shared->Prop}(u:A.handled=none)(hu:A.units+1<cLine)(p:D≠I)(F:L≠D)(y:L≠I):∀(k j:Nat)(s:Shared)(xs:List (List K×Addr×Value)),ts.length-j=k->j<=ts.length->s.heap.IsListIter I L j->s.heap.IsList L (ts.map fun x=>Value.ref x.1).toArray->(∀x∈ts,Good knd s.heap x)->
   s.heap.DictOfH (tupleKind knd) D xs->xs.length+k<=sizeLine->
   (∀h' tk,h'.DictOfH (tupleKind knd) D (Lw xs (ts.drop j))->(∀b o,b≠D->b≠I->s.heap.get? b=some o->h'.get? b=some o)->R (.ok (.ret .none)) {s with heap:=h',toks:=tk})->
   codeAny (model prog w) A (lp D I j) R s
 |0,j,s,xs,hk,hj,ap,hl,hg,hd,hz,hQ=>by
  have Q:j=ts.length:=ω
  subst Q;have W:=Walks.list (prog:=prog) (w:=w) (A:=A.in1) u I L y (ts.map fun x=>Value.ref x.1).toArray;refine A0 rx ?_;rw[AZ j0 _];unfold Builtin.«dict.update.loop»;dsimp only[rawInt];refine Aa (W.done s _ _ ⟨by simpa using ap,hl⟩ fun h' tk d=>?_);dsimp only;unfold Builtin.Dict.addKeywords;refine Aa (wpAny_of_eq (a:=()) rfl ?_);obtain⟨c,f,g,_⟩:=ap;refine Ac (hQ h' tk ?_ fun b o _ hb e=>d b o (by simpa using hb) e);rw[List.drop_length];exact E6 hd p ⟨c,f,g⟩ fun b o hb e=>d b o (by simpa using hb) e
 |k+1,j,s,xs,hk,hj,ap,hl,hg,hd,hz,hQ=>by
  have W:=Walks.list (prog:=prog) (w:=w) (A:=A.in1) u I L y (ts.map fun x=>Value.ref x.1).toArray;have h:j<ts.length:=ω
  refine A0 rx ?_;rw[AZ j0 _];unfold Builtin.«dict.update.loop»;dsimp only[rawInt];refine Aa (W.item j s _ _ (by simpa using h) ⟨ap,hl⟩ fun v h1 tk G z d=>?_);have S:v=.ref (ts[j]).1:=by
   have:(ts.map fun x=>Value.ref x.1).toArray[j]?=some (Value.ref (ts[j]).1):=by simp[h]
   exact An (G.symm.trans this)
  subst S;have X:=hg ts[j] (A3 h);obtain⟨c,f,g,_⟩:=id ap;have C:∃o,s.heap.get? D=some o/\o.cls=.type "dict":=by
   obtain⟨o,es,ep,N,hc,_⟩:=hd;exact⟨o,N,hc.1⟩
  have i:∀b o,b≠D->b≠I->s.heap.get? b=some o->h1.get? b=some o:=fun b o _ hb e=>d b o (by simpa using hb) e;have T:∀x∈ts,Good knd h1 x:=fun x hx=>E5 (o:=c) (hg x hx) C ⟨c,f,g⟩ i;have U:h1.DictOfH (tupleKind knd) D xs:=E6 hd p ⟨c,f,g⟩ fun b o hb e=>d b o (by simpa using hb) e;obtain⟨O,P⟩:=T ts[j] (A3 h);dsimp only;refine Aa (AA (Aa (wpAny_tryCatch (pair_items (s:={s with heap:=h1,toks:=tk}) O ?_))));dsimp only;refine AA (wpAny_dictSet_heap (knd:=tupleKind knd) (s:={s with heap:=h1,toks:=tk}) (hsz:=by omega) (tupleKind_room_in1 hu) P U fun h2 H q=>?_);have E:∀b o,b≠D->b≠I->s.heap.get? b=some o->h2.get? b=some o:=fun b o hb hi e=>by rw[q.2 b hb];exact i b o hb hi e
  have l:h2.IsListIter I L (j+1):=z.1.at fun o e=>by rw[q.2 I (Ne.symm p)];exact e
  have r:h2.IsList L (ts.map fun x=>Value.ref x.1).toArray:=z.2.at fun o e=>by rw[q.2 L F];exact e
  refine Ac ⟨plainId_quiet j0 _,?_⟩;refine ry u hu p F y k (j+1) {s with heap:=h2,toks:=_} _ ω ω l r (fun x hx=>E5 (o:=c) (hg x hx) C ⟨c,f,g⟩ E) H (by have:=Lx xs (ts[j]).2.1 (ts[j]).2.2.1 (ts[j]).2.2.2;omega) fun h' J M k3=>hQ h' J ?_ fun b o hb hi e=>k3 b o hb hi (E b o hb hi e);rw[List.drop_eq_getElem_cons h];exact M
end
end DPr
end
section
namespace L2
open PySem PySem.Spec PyProof.Rows
section
variable{X:Cx}
def oa(d:Addr)(o:Obj)(kvs:List (List Key×V)):It:=⟨fun i H=>i<kvs.length/\H d=some (.frz o (.dT kvs)),fun i H v H'=>H'=H/\∃kv b,kvs[i]?=some kv/\v=.ref b/\H b=some (.tup (kv.1.map kV)),fun i H=>i=kvs.length/\H d=some (.frz o (.dT kvs))⟩
def kt_at{H:Hp}:∀{l:List (List Key×V)}{m:List (List Key×Addr×Value)}{i:Nat}{kv:List Key×V},KT H l m->l[i]?=some kv->∃w,m[i]?=some w/\H w.2.1=some (.tup (kv.1.map kV))
 |_,_,0,_,.cons h _,e=>by cases e;exact⟨_,rfl,h.2.1⟩
 |_,_,i+1,_,.cons _ t,e=>kt_at (i:=i) t (by simpa using e)
def Ly{P:Program}{w:World}{K:Ad}{tg:Expr}(d it:Addr){o:Obj}{kvs:List (List Key×V)}{es:Array DictEntry}{ep:Nat}(hx:o.ExactDict)(r:o.data=.dict es ep)(hsz:es.size=kvs.length):Turn P w K tg (oa d o kvs) [it] it (fun i h=>h.IsKeyIter it d i es.size ep) where
 mem:=by simp
 obj:=fun i h st b hb=>by
  have e:b=it:=by simpa using hb
  subst e;obtain⟨o,e,c,dd⟩:=st;exact⟨o,e,fun v z=>by rw[dd] at z;cases z⟩
 keep:=fun i h h' st k=>by
  obtain⟨o,e,c⟩:=st;exact⟨o,k it (by simp) o e,c⟩
 item:=by
  intro X f hw g hc i aa s σ H E I hf st j;subst f hw g;obtain⟨f0,f1,f2,f3,f4,f5⟩:=hf it (by simp);obtain⟨hi,l⟩:=j;obtain⟨x,z,hs,ys,p,o',es',O,h1,h2,G,J,S⟩:=(show zC X.prog X.w H s.heap d (.frz o (.dT kvs)) from I.hok d _ l);obtain rfl:o=o':=An (x.symm.trans h1);have q:=r.symm.trans G;injection q with q hep
  subst q;have hm:Dk.IsD s.heap d es ep:=⟨o,x,hx,r⟩;have a:i<es.size:=by rw[hsz];exact hi
  refine Dk.item st hm a fun h' u D=>?_;have N:Inv X aa σ H {s with heap:=h'}:=I.turned (t':=s.toks) (fun b o hb e=>(D.2 b hb).trans e) f0 f1 f3 f4 f5;obtain⟨T,e1,e2,e3⟩:=id u;have C:kvs[i]?=some kvs[i]:=Af hi;obtain⟨y,L,hb⟩:=kt_at p C;have g3:es.toList[i]?=some es[i]:=by simp[a]
  rw[J,Aj,L] at g3;simp only[A1,A9] at g3;have M:es[i].key=.ref y.2.1:=by rw[<-g3];rfl
  exact⟨_,rfl,iN (s:={s with heap:=h'}) e1 e2 e3 ξ ⟨.ref y.2.1,H,N,by rw[M];rfl,⟨rfl,_,_,C,rfl,hb⟩,u,fun b hb=>(hf b hb).1⟩⟩
 done:=by
  intro X f hw g hc i aa s σ H E I hf st j;subst f hw g;obtain⟨f0,f1,f2,f3,f4,f5⟩:=hf it (by simp);obtain⟨hi,l⟩:=j;have hm:Dk.IsD s.heap d es ep:=⟨o,(show zC X.prog X.w H s.heap d (.frz o (.dT kvs)) from I.hok d _ l).1,hx,r⟩;have a:i=es.size:=by rw[hsz];exact hi
  subst a;exact Dk.done (I.ok.hd hc) st hm fun h' F=>⟨rfl,I.turned (t':=s.toks) (fun b o hb e=>F b o hb e) f0 f1 f3 f4 f5⟩
 self:=fun A i s Q E st h=>wpAny_pyIter_keyiter st h
def Lz(te:TE):TI:=fun σ H R=>te σ H fun x H1=>∃d kvs,x=.ref d/\Rd H1 d (.dT kvs)/\∀o H2,H2 d=some (.frz o (.dT kvs))->(∀b,b≠d->H2 b=H1 b)->R (oa d o kvs) H2
def E7{tg l:Expr}{tl:TE}(E:PE X l tl):PI X tg l (Lz tl):=by
 intro aa s σ H R I h;refine aD (E aa s σ H _ I h) fun v a ⟨x,H1,I1,r,u⟩=>?_;obtain⟨d,kvs,e,hd,q⟩:=u;subst e;cases r;have go:∀(o:Obj)(H2:Hp),Inv X aa σ H2 a->H2 d=some (.frz o (.dT kvs))->(∀b,b≠d->H2 b=H1 b)->wpAny (model X.prog X.w) X.A (pyIter (.ref d)) (pL X aa σ tg R) X.xe a:=by
  intro o H2 I2 j y;obtain⟨D,z,hs,ys,c,o',es,ep,h1,h2,f,i,p⟩:=(show zC X.prog X.w H2 a.heap d (.frz o (.dT kvs)) from I2.hok d _ j);obtain rfl:o=o':=An (D.symm.trans h1);have hsz:es.size=kvs.length:=by
   have:=congrArg List.length i;rw[Ab,<-A4 c] at this
   simpa using this
  have hm:Dk.IsD a.heap d es ep:=⟨o,h1,h2,f⟩;refine Dk.iter hs hm ?_;have hfr:H2 a⁻¹=none:=I2.hok.fresh (Ag _);refine⟨a⁻¹,[a⁻¹],_,_,_,rfl,I2.kept (t':=a.toks) fun b o e=>Ae _ e,Ly d _ h2 f hsz,⟨_,Ak _ rfl,rfl,rfl⟩,fun b hb=>?_,q o H2 j y⟩;have e:b=a⁻¹:=by simpa using hb
  subst e;exact I2.fpOk (Ag _) hfr
 rcases hd with hd|⟨o,hd⟩
 ·obtain⟨z,hs,ys,c,o,es,ep,h1,h2,f,i,p⟩:=(show zC X.prog X.w H1 a.heap d (.dT kvs) from I1.hok d _ hd)
  have g:KT (upd H1 d (.frz o (.dT kvs))) kvs ys:=KT.keeps c fun b zs e=>by rw[zj (fun C=>by rw[C,hd] at e;cases e)];exact e
  exact go o (upd H1 d (.frz o (.dT kvs))) (mC (ob:=.frz o (.dT kvs)) (t':=a.toks) I1 (by rw[hd];exact True.intro) (Heap.SameBut.refl _ _) ⟨o,h1⟩ ⟨h1,z,hs,ys,g,o,es,ep,h1,h2,f,i,p⟩) ak fun b hb=>zj hb
 ·exact go o H1 I1 hd fun _ _=>rfl
def E8{d:Addr}{o:Obj}{kvs:List (List Key×V)}{g:TG}{tb:TS}{D:Ends}{σ:St}{H:Hp}(a:Nat->St->Hp->Prop)(s:a 0 σ H)(u:∀i σ H,i<=kvs.length->a i σ H->H d=some (.frz o (.dT kvs)))(hs:∀i kv b σ H,kvs[i]?=some kv->H b=some (.tup (kv.1.map kV))->a i σ H->g (.ref b) σ H fun f H2=>tb {D with nx:=a (i+1),ct:=a (i+1),bk:=D.nx} f H2)(hd:∀σ H,a kvs.length σ H->D.nx σ H):∃W:Nat->Nat->St->Hp->Prop,(∃m,W 0 m σ H)/\∀i m σ H,W i m σ H->
   ((oa d o kvs).stop i H/\D.nx σ H)\/((oa d o kvs).go i H/\∃N:St->Hp->Prop,(∀h H',N h H'->∃j,j<m/\W (i+1) j h H')/\∀x H',(oa d o kvs).yld i H x H'->g x σ H' fun f H2=>tb {D with nx:=N,ct:=N,bk:=D.nx} f H2):=by
 refine⟨fun i m σ H=>m=kvs.length-i/\i<=kvs.length/\a i σ H,⟨kvs.length,by simp,AK _,s⟩,?_⟩;rintro i m σ H ⟨rfl,hi,p⟩;have q:=u i σ H hi p
 by_cases c:i<kvs.length
 ·refine .inr ⟨⟨c,q⟩,a (i+1),fun h H' l=>⟨kvs.length-(i+1),ω,rfl,c,l⟩,fun x H' y=>?_⟩
  obtain⟨e,kv,b,r,rfl,hb⟩:=y;subst e;exact hs i kv b σ _ r hb p
 ·have:i=kvs.length:=ω
  subst this;exact .inl ⟨⟨rfl,q⟩,hd σ H p⟩
end
end L2
end
section
namespace L2
open PySem PySem.Spec PyProof.Rows
def Rd.same{H H':Hp}{a:Addr}{u:HO}(r:Rd H a u)(s:Same H H'):Rd H' a u:=by
 rcases r with r|⟨o,r⟩
 ·exact .inl (s _ _ r)
 ·exact .inr ⟨o,s _ _ r⟩
section
variable{X:Cx}{o:Expr}{to:TE}{bf aB:Pos}
def LD(to:TE):TE:=fun σ H Q=>to σ H fun x H1=>zk6 x [] H1 Q
def LF(i:PE X o to)(j:attributeBase o "values" X.env (eval o X.env)=eval o X.env:=by rfl)(l:(bf.endLine==aB.line)=true:=by rfl):PE X (.Call (.Attribute o "values" bf) [] [] aB) (LD to):=by
 intro aa s σ H Q I h;refine wpAny_Call_method0_late j l (aD (i aa s σ H _ I h) fun v b ⟨x,H1,I1,f,c⟩=>?_);have g:=c;obtain⟨d,kvs,rfl,_,hd,_⟩:=c;cases f;obtain⟨_,_,_,_,ob,_,_,e,ex,_⟩:=(show zC X.prog X.w H1 b.heap d (.dT kvs) from hd.ok I1.hok);exact⟨"dict","dict.values",PySem.F.plainAttrs_dict,PySem.F.slot_dict_values,PySem.F.type_dict_values,⟨ob,e,ex.1⟩,(fun a z=>by cases z;exact⟨ob,e,ex.2.1⟩),Calls.callWith_builtin rfl (PySem.evalArgs_none (gj aa b σ H1 (.ref d) [] (.ref d) [] Q I1 rfl .nil g))⟩
end
end L2
end
section
namespace K55
open K1
open PySem L2 STb
abbrev rz:Stmt:=top 28
abbrev iC:Stmt:=top 29
abbrev Ch:Type:=List (List Int×Int)
def ksC(cs:Ch):Ξ:=cs.map (·.1)
def bb(cs:Ch):List (List Key×V):=cs.map fun c=>((c.1.map Sum.inl:List Key),V.int c.2)
def bX(cs:Ch)(ps:List Int)(n:Int):Ch:=if ps∈ksC cs then cs.map (fun c=>if c.1=ps then(c.1,n) else c) else cs++[(ps,n)]
def hX(cs:Ch):(bb cs).length=cs.length:=Ab _
def j6(cs:Ch):(ksC cs).length=cs.length:=Ab _
def Br(cs:Ch):(bb cs).map (·.1)=(ksC cs).map (·.map Sum.inl):=by unfold bb ksC;rw[As,As];rfl
def LG(cs:Ch):(bb cs).map (·.2)=(cs.map (·.2)).map V.int:=by unfold bb;rw[As,As];rfl
def dF(cs:Ch)(ps:List Int)(n:Int):putK (bb cs) (ps.map Sum.inl) (.int n)=bb (bX cs ps n):=by
 unfold putK bb bX;have a:((cs.map fun c=>((c.1.map Sum.inl:List Key),V.int c.2)).any fun kv=>decide (kv.1=ps.map Sum.inl))=decide (ps∈ksC cs):=by
  rw[List.any_map]
  by_cases h:ps∈ksC cs
  ·rw[decide_eq_true h,List.any_eq_true]
   obtain⟨c,hc,e⟩:=List.mem_map.mp h;exact⟨c,hc,decide_eq_true (gX.mpr e)⟩
  ·rw[decide_eq_false h,List.any_eq_false]
   intro c hc;simp only[Function.comp,decide_eq_true_eq,gX];rintro rfl;exact h (List.mem_map.mpr ⟨c,hc,rfl⟩)
 rw[a]
 by_cases h:ps∈ksC cs
 ·rw[decide_eq_true h,if_pos rfl,if_pos h,As,As]
  refine AY fun c hc=>?_;simp only[Function.comp]
  by_cases e:c.1=ps
  ·rw[if_pos e,if_pos (gX.mpr e)]
  ·rw[if_neg e,if_neg (fun z=>e (gX.mp z))]
 ·rw[decide_eq_false h,if_neg (by simp),if_neg h,Am]
  rfl
def E9(cs:Ch)(ps:List Int)(n:Int):ksC (bX cs ps n)=if ps∈ksC cs then ksC cs else ksC cs++[ps]:=by
 unfold bX
 by_cases h:ps∈ksC cs
 ·rw[if_pos h,if_pos h]
  unfold ksC;rw[As];refine AY fun c _=>?_;simp only[Function.comp];split<;>rfl
 ·rw[if_neg h,if_neg h]
  unfold ksC;rw[Am]
  rfl
def dg{cs:Ch}(ps:List Int)(n:Int)(h:(ksC cs).Nodup):(ksC (bX cs ps n)).Nodup:=by
 rw[E9]
 by_cases e:ps∈ksC cs
 ·rw[if_pos e];exact h
 ·rw[if_neg e,List.nodup_append]
  refine⟨h,by simp,fun a c b hb z=>?_⟩;rw[Bd] at hb;subst hb;subst z;exact e c
def putC_mem{cs:Ch}{ps q:List Int}{n:Int}(h:q∈ksC (bX cs ps n)):q∈ksC cs\/q=ps:=by
 rw[E9] at h
 by_cases e:ps∈ksC cs
 ·rw[if_pos e] at h;exact .inl h
 ·rw[if_neg e] at h
  rcases List.mem_append.mp h with h|h
  ·exact .inl h
  ·exact .inr (List.mem_singleton.mp h)
def E_(cs:Ch)(ps:List Int)(n:Int):(bX cs ps n).length<=cs.length+1:=by
 unfold bX;split
 ·rw[Ab];omega
 ·rw[Aw];simp
def Bz:∀{cs:Ch},(ksC cs).Nodup->∀c∈cs,bI (bb cs) (c.1.map Sum.inl)=some (.int c.2)
 |[],_,c,hc=>absurd hc (by simp)
 |d::cs,h,c,hc=>by
  have h':(d.1::ksC cs).Nodup:=h;rw[List.nodup_cons] at h';unfold bI bb;rw[Ar,List.find?_cons];rcases List.mem_cons.mp hc with rfl|hc
  ·rw[decide_eq_true rfl];rfl
  ·have a:¬d.1.map Sum.inl=(c.1.map Sum.inl:List Key):=fun z=>h'.1 (by rw[gX.mp z];exact List.mem_map.mpr ⟨c,hc,rfl⟩)
   rw[decide_eq_false a];exact Bz h'.2 c hc
def LH{H:Hp}{cs:Ch}{bs:List Addr}(h:Paired (fun(p:List Key×V) b=>H b=some (.tup (p.1.map kV))) (bb cs) bs):Tps H bs (ksC cs):=by
 unfold bb at h;unfold ksC
 induction cs generalizing bs with
 |nil=>cases h;exact .nil
 |cons x l ih=>
  rw[Ar] at h;cases h with
  |cons r t=>
   refine .cons ?_ (ih t);show H _=_;rw[r,As]
   rfl
def gn(kn:Ξ):Bool:=decide (((dd (lens kn)).length:Int)<=1)
abbrev eB(c:List Int×Int):Bool:=!decide (V.int c.2=V.int 0)
def fg(kn:Ξ)(cs:Ch):Bool:=decide (∀k∈ksC cs,k∈kn)&&(gn (ksC cs)&&(cs.map eB).all id)
abbrev LI(K:Ad):List V->Hp->VK->Prop:=fun xs H Q=>∃p ys,xs=[.ref p]/\(SqL K H p ys\/SqT K H p ys)/\Q (.int ys.length) H
abbrev E'(K:Ad):TE:=gO (LI K) (zP (aE 0) bq)
section
variable{P:Program}{w:World}{K:Ad}{mg:Str->Option Value}{base:Heap}
def LJ{H2:Hp}{L D:Addr}{as:List Addr}{kn:Ξ}{Q:VK}(l:SqL K H2 L (as.map V.ref))(d:Tps H2 as kn)(q:kn.length<=1000)(e:H2 D=none)(k:∀a,Same H2 a->a D=some (.lst ((lens kn).map V.int))->Q (.ref D) a):cX (dH K L) (cQ 0) b8 (E' K) [none] H2 D Q:=by
 have h:=d.length;refine zM (xs:=as.map V.ref) (fun j σ ys a=>∃v:Option V,σ=[v]/\Same H2 a/\a D=some (.lst ys)/\ys=(lens (kn.take j)).map V.int) ?_ ?_ ?_ ?_
 ·exact⟨none,rfl,Same.new e,ak,rfl⟩
 ·rintro j σ ys a ⟨v,rfl,b,c,rfl⟩
  exact b.seq l
 ·rintro j σ ys a x hx f hy ⟨v,rfl,b,c,rfl⟩
  obtain⟨o,g,rfl⟩:=dE hx;obtain⟨p,ep,hp⟩:=d.get g;have i:(as.map V.ref).length<=sizeLine:=by rw[Ab];exact ze ω
  refine cv ?_;refine⟨_,rfl,o,_,rfl,.inr (SqT.of (b.tp hp)),bu i f hy c ⟨_,rfl,b.then e,ak,?_⟩⟩;unfold lens;rw[AM ep,Am,Am,Ab]
  rfl
 ·rintro σ ys a ⟨v,rfl,b,c,rfl⟩
  rw[Ab,h,Az (Ag _)] at c;exact k a b c
def LK(kn:Ξ):(lens kn).length=kn.length:=Ab _
def Fd(K:Ad):Sp:=fun vs H Q _=>∃l as kn,vs=[.ref l]/\SqL K H l (as.map V.ref)/\Tps H as kn/\kn.length<1000/\∀H',Same H H'->Q (.bl (gn kn)) H'
def LL:zq ["some"] ["some"] (zg iC):=⟨rfl,rfl,rfl,δ,rfl,δ,δ⟩
def LM{f:Addr}{fd:FuncData}(F:Fun K "is_of_one_height" "is_of_one_height" iC f fd)(B:Bt mg):FnOk P w K mg base az 1 f fd ["some"] (Fd K):=by
 refine F.ok LL (fun vs H Q E h=>?_) (fun cdv A outer s H vs Q E hr h=>?_)
 ·obtain⟨l,as,kn,rfl,_⟩:=h;rfl
 ·obtain⟨l,as,kn,rfl,b,j,o,k⟩:=h
  refine⟨_,zi (zt (gN p5 (zl Lp rfl B.len zW (ac (zm (Lo rfl) rfl B.set jP (ac
   (zy ["some"] ["piece"] [none] (zA (pv 0)) (fun a C s₀ H₀ ex=>zn (i:=0) (b7 ["piece"]) rfl (Or.inl rfl)) (fun a C s₀ H₀ ex=>zF) (fun a C s₀ H₀ ex=>zl zk rfl B.len zW (ac (pv 0) al)) (hfr:=bF δ) (te:=E' K)) al)) al)) zf (ar _))),?_⟩
  refine⟨_,rfl,l,rfl,⟨_,b⟩,fun D c=>zB (LJ b j ω c fun q d e=>⟨D,lens kn,rfl,SqL.of e,by rw[LK];exact o,fun S p g=>⟨S,p,_,rfl,ak,_,_,rfl,rfl,k _ (d.trans (Same.new g))⟩⟩)⟩
end
end K55
end
section
namespace K55
open K1
open PySem L2 STb
def BJ(xs:List V)(i:Nat)(h:i<=xs.length):cM xs (some (i:Int)) none=xs.drop i:=by
 unfold cM;rw[HT.uY,HT.p6,Nat.min_eq_left h];exact Az (by rw[List.length_drop];exact Ag _)
end K55
end
section
namespace K55
open K1
open PySem L2 STb
abbrev rA:Stmt:=top 30
def zu.frz{d:Addr}{H H1 H2 f:Hp}(a:Same H H1)(b:∀c,c≠d->H2 c=H1 c)(e:Same H2 f):zu d H f:=fun c u hc h=>e _ _ (by rw[b c hc];exact a _ _ h)
section
variable{P:Program}{w:World}{K:Ad}{mg:Str->Option Value}{base:Heap}
def LN{H2:Hp}{d D:Addr}{o:Obj}{cs:Ch}{Q:VK}(hd:H2 d=some (.frz o (.dT (bb cs))))(l:cs.length<=1000)(h:H2 D=none)(k:∀a,Same H2 a->a D=some (.lst ((cs.map eB).map V.bl))->Q (.ref D) a):cX (yz d o (bb cs)) (cQ 0) b8 (da uI (aE 0) (tC (.int 0))) [none] H2 D Q:=by
 refine jG cs.length (fun j σ ys a=>∃v:Option V,σ=[v]/\Same H2 a/\a D=some (.lst ys)/\ys=((cs.map eB).take j).map V.bl) ?_ ?_ ?_ ?_ ?_
 ·exact⟨none,rfl,Same.new h,ak,rfl⟩
 ·rintro σ ys a ⟨v,rfl,b,c,rfl⟩
  exact⟨(hX cs).symm,b _ _ hd⟩
 ·rintro i σ ys a hi ⟨v,rfl,b,c,rfl⟩
  exact⟨by rw[hX];exact hi,b _ _ hd⟩
 ·rintro i σ ys a x H' hi hy ⟨v,rfl,b,c,rfl⟩ ⟨rfl,kv,f,rfl⟩
  have g:cs[i]?=some cs[i]:=Af hi;have e:(cs.map eB)[i]?=some (eB cs[i]):=by rw[Aj,g];rfl
  obtain rfl:(((cs[i]).1.map Sum.inl:List Key),V.int (cs[i]).2)=kv:=by
   unfold bb at f;rw[Aj,g] at f;exact An f
  refine cv ?_;exact⟨_,rfl,rfl,bu (ze ω) hi hy c ⟨_,rfl,b.then h,ak,by rw[AM e,Am];rfl⟩⟩
 ·rintro σ ys a ⟨v,rfl,b,c,rfl⟩
  rw[Az (by rw[Ab];exact Ag _)] at c;exact k a b c
def Fe(K:Ad):Sp:=fun vs H Q _=>∃l d as pss cs,vs=[.ref l,.ref d]/\SqL K H l (as.map V.ref)/\Tps H as pss/\a6 pss/\(canon pss).length<=59/\Rd H d (.dT (bb cs))/\cs.length<=(canon pss).length+1/\cs.length<=59/\
 ∀H',zu d H H'->Rd H' d (.dT (bb cs))->Q (.bl (fg (canon pss) cs)) H'
def Ff:zq ["web","chain","every"] ["web","chain"] (zg rz):=⟨rfl,rfl,rfl,δ,rfl,δ,δ⟩
def LO{f fp J:Addr}{fd M N:FuncData}(F:Fun K "is_chain" "is_chain" rz f fd)(B:Bt mg)(Fp:Fun K "pieces" "pieces" n_ fp M)(bp:Binds K M ["web"] [])(mp:mg "pieces"=some (.ref fp))(Gp:FnOk P w K mg base az 8 fp M ["web"] (Bo K))(Fo:Fun K "is_of_one_height" "is_of_one_height" iC J N)(bo:Binds K N ["some"] [])(mo:mg "is_of_one_height"=some (.ref J))(Go:FnOk P w K mg base az 1 J N ["some"] (Fd K)):FnOk P w K mg base az 9 f fd ["web","chain"] (Fe K):=by
 refine F.ok Ff (fun vs H Q E h=>?_) (fun cdv A outer s H vs Q E hr h=>?_)
 ·obtain⟨l,d,as,pss,cs,rfl,_⟩:=h;rfl
 ·obtain⟨l,d,as,pss,cs,rfl,hl,ht,hw,u,hd,pR,cT,k⟩:=h
  have hu:=d_ hr;have v:=hr.units;have y:Room 1 _:=hr.mono ξ;refine⟨_,zd (zr (i:=2) Ff.nd rfl (Or.inl rfl) (zo Gp hr rfl mp Fp.kp bp .nil ao (ac (pv 0) al)))
   (zd (zR (zp iU (zl Kq rfl B.len zW (ac (zE (Kp v) (zm (Kr v) rfl B.set jP (ac (pv 1) al)) (zm (Ko rfl v) rfl B.set jP (ac (pv 2) al))) al)) zf (ar _)) (zi (zt dG)) zv)
   (zd (zR (fL (fN (zo Go y rfl mo Fo.kp bo .nil ao (ac (zm (J6 rfl) rfl B.list ff (ac (pv 1) al)) al)))) (zi (zt dG)) zv)
   (zi (zt (zl (kI rfl) rfl B.all k4 (ac
    (zy ["web","chain","every"] ["weight"] [none] (J9 (LF (pv 1))) (fun O C s₀ H₀ ex=>zn (i:=0) (b7 ["weight"]) rfl (Or.inl rfl)) (fun O C s₀ H₀ ex=>zF)
     (fun O C s₀ H₀ ex=>gN l0 (pv 0) zf (ar _)) (hfr:=bF δ) (te:=da uI (aE 0) (tC (.int 0)))) al)))))),?_⟩
  refine⟨_,rfl,l,as,pss,rfl,hl,ht,hw,fun EV H1 es S pY tU b=>?_⟩;have G:(canon pss).Nodup:=K8 pss;have cO:(canon pss).length<=(dd (canon pss)).length:=G.length_le_of_subset fun x hx=>(ix _ x).mpr hx;have hdk:(dd (ksC cs)).length<=cs.length:=by have:=fo (ksC cs);rw[j6] at this;exact this
  refine⟨_,rfl,d,bb cs,ksC cs,rfl,hd.same S,Br cs,by rw[j6];exact cT,fun q uR S1 c=>⟨_,rfl,EV,es,canon pss,rfl,SqL.of (Same.new c _ _ tU),(Same.new c).tps b,u,fun S2 g=>?_⟩⟩;refine⟨S1,S2,_,_,q,_,rfl,rfl,Same.new g _ _ ak,ak,(uR.mono (Same.new c)).mono (Same.new g),(TB.zip ((Same.new c).tps b)).mono (Same.new g),ω,ω,fun j T Z t7=>⟨Z,j,q,rfl,ak,_,_,rfl,rfl,_,rfl,?_⟩⟩;have p:=((S.trans (Same.new (o:=cq P w S1 (dd (ksC cs)) q) c)).trans (Same.new (o:=cq P w S2 (dd (canon pss)) ((canon pss).zip es)) g)).trans (Same.new (o:=cq P w Z j q) t7);refine be (fun h1=>?_) (fun h1=>?_)
  ·have h2:=of_decide_eq_true h1
   have I:¬∀k∈ksC cs,k∈canon pss:=fun z=>by
    cases j with
    |nil=>simp at h2
    |cons x r=>
     obtain⟨g1,g2⟩:=(T x).mp Av;exact g2 ((ix _ x).mpr (z x ((ix _ x).mp g1)))
   have:=k _ (zu.of p) (hd.same p);rw[show fg (canon pss) cs=false from by unfold fg;rw[decide_eq_false I];rfl] at this;exact this
  ·have a:∀k∈ksC cs,k∈canon pss:=fun x hx=>by
    refine Classical.byContradiction fun hn=>?_;have:x∈j:=(T x).mpr ⟨(ix _ x).mpr hx,fun z=>hn ((ix _ x).mp z)⟩;refine h1 (decide_eq_true ?_);have:=List.length_pos_of_mem this;omega
   refine⟨_,rfl,d,bb cs,rfl,hd.same p,fun bs pb L U=>⟨L,bs,ksC cs,rfl,SqL.of ak,(Same.new U).tps (LH pb),by rw[j6];omega,fun H5 fq=>⟨_,rfl,?_⟩⟩⟩;have e:=(p.trans (Same.new (o:=.lst (bs.map V.ref)) U)).trans fq;cases ho:gn (ksC cs) with
   |false=>
    have:=k H5 (zu.of e) (hd.same e);rw[show fg (canon pss) cs=false from by unfold fg;rw[decide_eq_true a,ho];rfl] at this;exact bg this
   |true=>
    refine aI ?_;refine⟨_,rfl,d,bb cs,rfl,rfl,hd.same e,fun vw W=>⟨vw,d,bb cs,rfl,ak,hd.same (e.trans (Same.new W)),fun o H6 X bR=>fun D hD=>zB (LN X ω hD fun H7 Y nF=>⟨D,cs.map eB,rfl,SqL.of nF,?_⟩)⟩⟩;have:=k H7 (zu.frz (e.trans (Same.new W)) bR Y) (.inr ⟨o,Y _ _ X⟩);unfold fg at this;rw[decide_eq_true a,ho,Bool.true_and,Bool.true_and] at this;exact this
def Fg(K:Ad):Sp:=fun vs H Q _=>∃l d as pss cs,vs=[.ref l,.ref d]/\SqL K H l (as.map V.ref)/\Tps H as pss/\a6 pss/\(canon pss).length<=59/\Rd H d (.dT (bb cs))/\cs.length<=(canon pss).length+1/\cs.length<=59/\fg (canon pss) cs=true/\
 ∀H',zu d H H'->Rd H' d (.dT (bb cs))->Q .non H'
def LP:zq ["web","chain"] ["web","chain"] (zg rA):=⟨rfl,rfl,rfl,δ,rfl,δ,δ⟩
def LQ{f b:Addr}{fd c:FuncData}(F:Fun K "must_be_chain" "must_be_chain" rA f fd)(Fi:Fun K "is_chain" "is_chain" rz b c)(o:Binds K c ["web","chain"] [])(p:mg "is_chain"=some (.ref b))(q:FnOk P w K mg base az 9 b c ["web","chain"] (Fe K)):FnOk P w K mg base az 10 f fd ["web","chain"] (Fg K):=by
 refine F.ok LP (fun vs H Q E h=>?_) (fun cdv A outer s H vs Q E hr h=>?_)
 ·obtain⟨l,d,as,pss,cs,rfl,_⟩:=h;rfl
 ·obtain⟨l,d,as,pss,cs,rfl,i,j,hw,a,hd,h1,h2,hc,k⟩:=h
  refine⟨_,zi (zR (fL (fN (zo q hr rfl p Fi.kp o .nil ao (ac (pv 0) (ac (pv 1) al))))) tH zv),?_⟩;refine⟨_,rfl,_,rfl,l,d,as,pss,cs,rfl,i,j,hw,a,hd,h1,h2,fun H1 e g=>⟨_,rfl,?_⟩⟩;rw[hc];exact aI (k H1 e g)
end
end K55
end
section
namespace K55
open K1
open PySem L2 STb
abbrev BQ:Stmt:=top 52
def Wt(a:Int)(c:List Int×Int):Prop:=(c.1.length:Int)=a+1/\c.2≠0/\-1000000000000000<=c.2/\c.2<=1000000000000000
def putC_at{cs:Ch}{ps:List Int}{n:Int}{c:List Int×Int}(h:c∈bX cs ps n):c∈cs\/c=(ps,n):=by
 unfold bX at h;split at h
 ·obtain⟨d,hd,e⟩:=List.mem_map.mp h
  by_cases z:d.1=ps
  ·rw[if_pos z] at e
   exact .inr (by rw[<-e,z])
  ·rw[if_neg z] at e
   exact .inl (by rw[<-e];exact hd)
 ·rcases List.mem_append.mp h with h|h
  ·exact .inl h
  ·exact .inr (List.mem_singleton.mp h)
def LR{r:Int}(a:0<=r)(h1:r<3):∃wd:Int,atI ([.int 3,.int 20,.int (10 ^ (15:Int).toNat)]:List V) r=some (.int wd)/\0<wd/\wd<=1000000000000000:=by
 have:r=0\/r=1\/r=2:=ω
 rcases this with rfl|rfl|rfl
 ·exact⟨3,zx (j:=0) rfl,ξ,ξ⟩
 ·exact⟨20,zx (j:=1) rfl,ξ,ξ⟩
 ·exact⟨_,zx (j:=2) rfl,ξ,ξ⟩
section
variable{P:Program}{w:World}{K:Ad}{mg:Str->Option Value}{base:Heap}
def rC(K:Ad):Sp:=fun vs H Q _=>∃p KN ks kn a,vs=[.ref p,.ref KN,.int a]/\zG H p/\H KN=some (.lst (ks.map V.ref))/\Tps H ks kn/\kn.length<=1000/\
 ∀D cs H',zu p H H'->zG H' p->H D=none->H' D=some (.dT (bb cs))->(ksC cs).Nodup->(∀q∈ksC cs,q∈kn)->cs.length<=kn.length->(∀c∈cs,Wt a c)->Q (.ref D) H'
def og:zq ["box","known","high","found","piece","wide","weight"] ["box","known","high"] (zg BQ):=⟨rfl,rfl,rfl,δ,rfl,δ,δ⟩
def LS{f ft:Addr}{fd cw:FuncData}(F:Fun K "_law_chain" "_law_chain" BQ f fd)(B:Bt mg)(Ft:Fun K "_law_take" "_law_take" jY ft cw)(bt:Binds K cw ["box","most"] [])(mt:mg "_law_take"=some (.ref ft)):FnOk P w K mg base az 2 f fd ["box","known","high"] (rC K):=by
 have Gt:FnOk P w K mg base az 1 ft cw ["box","most"] hF:=nY Ft;refine F.ok og (fun vs H Q E h=>?_) (fun cdv A outer s H vs Q E hr h=>?_)
 ·obtain⟨p,KN,ks,kn,cF,rfl,_⟩:=h;rfl
 ·obtain⟨p,KN,ks,kn,cF,rfl,hb,W,bL,hz,k⟩:=h
  have hu:=d_ hr;have au:=hr.units;have l:Room 1 _:=hr.mono ξ;refine⟨_,zd (zr (i:=3) og.nd rfl (Or.inl rfl) mL)
   (zd (dW A7 rfl (zA (pv 1)) (zn (i:=4) og.nd rfl (Or.inl rfl))
    (zi (zR (PW.pt (tj (zp db (zl zk rfl B.len zW (ac (pv 4) al)) (zE eZ (pv 2) zf) (ar _)) (ti (zp iU (zo Gt l rfl mt Ft.kp bt .nil ao (ac (pv 0) (ac zf al))) zf (ar _)))))
     (zd (zr (i:=5) og.nd rfl (Or.inl rfl) (zN zD (zO (ac zf (ac zf (ac (zE pZ zf zf) al)))) (zo Gt l rfl mt Ft.kp bt .nil ao (ac (pv 0) (ac zf al))) (fun _ _=>rfl)))
     (zd (zr (i:=6) og.nd rfl (Or.inl rfl) (zE ku (zo Gt l rfl mt Ft.kp bt .nil ao (ac (pv 0) (ac (zE eZ (zE jE zf (pv 5)) zf) al))) (pv 5)))
     (zi (zR (zp l0 (pv 6) zf (ar _)) (zi (gb hu (pv 3) (pv 4) (pv 6) rfl)) zv)))) zv)))
   (zi (zt (pv 3)))),?_⟩
  intro D M;have aL:=bL.length;have T:=Same.new (o:=.dT []) M;have lW:KN≠D:=zh W M;have g:D≠p:=by
   obtain⟨x,y,e,_⟩:=hb;exact(zh e M).symm
  have u:KN≠p:=hb.ne W;refine⟨_,rfl,KN,rfl,⟨_,SqL.of (T _ _ W)⟩,gM (K:=K) (a:=KN) (xs:=ks.map V.ref) (fun i σ H2=>∃(cs:Ch)(v4 v5 v6:Option V),σ=[some (.ref p),some (.ref KN),some (.int cF),some (.ref D),v4,v5,v6]/\zu p H H2/\zG H2 p/\H2 KN=some (.lst (ks.map V.ref))/\Tps H2 ks kn/\H2 D=some (.dT (bb cs))/\(ksC cs).Nodup/\(∀q∈ksC cs,q∈kn)/\cs.length<=i/\∀c∈cs,Wt cF c)
   ⟨[],none,none,none,rfl,zu.of T,hb.same T,T _ _ W,T.tps bL,ak,List.nodup_nil,(fun q hq=>nomatch hq),Ag _,(fun c hc=>nomatch hc)⟩ (fun i σ H2 _ ⟨_,_,_,_,_,_,_,h,_⟩=>SqL.of h) ?_ ?_⟩
  ·rintro i x σ H2 hx ⟨cs,v4,v5,v6,rfl,S,G,eY,X,Y,I,b,d,J⟩
   obtain⟨a,ea,rfl⟩:=dE hx;obtain⟨ps,aV,a7⟩:=X.get ea;have hi:i<kn.length:=(List.getElem?_eq_some_iff.mp aV).1;have U:ps∈kn:=Ap aV;refine⟨_,rfl,a,_,rfl,.inr (SqT.of a7),_,rfl,_,_,rfl,rfl,rfl,_,rfl,?_⟩;refine be (fun hV=>?_) (fun _=>?_)
   ·refine⟨_,rfl,p,3,rfl,G,ξ,ξ,fun r H3 r0 r1 v N=>⟨_,_,rfl,rfl,_,rfl,?_⟩⟩
    have gZ:=v _ _ u eY;have dN:=v.tps G X;have ag:=v _ _ g Y;have oY:=v.tp G a7;refine be (fun _=>?_) (fun _=>?_)
    ·refine⟨_,_,rfl,rfl,⟨ξ,ξ,ξ⟩,ze (by simp),fun L hL=>?_⟩
     have j:=Same.new (o:=.lst [.int 3,.int 20,.int (10 ^ (15:Int).toNat)]) hL;have hLp:L≠p:=by
      obtain⟨x,y,e,_⟩:=N;exact(zh e hL).symm
     refine⟨_,rfl,p,3,rfl,N.same j,ξ,ξ,fun q H5 q0 q1 C Z=>?_⟩;obtain⟨wd,ew,w0,w1⟩:=LR q0 q1;refine⟨L,_,q,_,rfl,rfl,SqL.of (C _ _ hLp ak),ew,?_⟩;have ye:=C _ _ u (j _ _ gZ);have oJ:=C.tps (N.same j) (j.tps dN);have cJ:=C _ _ g (j _ _ ag);have dm:=C.tp (N.same j) (j.tp oY);have mQ:zu p H H5:=((S.trans v).trans (zu.of j)).trans C;refine⟨_,rfl,_,rfl,_,_,rfl,rfl,.inl ⟨ξ,ξ⟩,_,_,rfl,rfl,p,_,rfl,Z,ω,ω,fun t H6 t0 t1 O cb=>⟨_,rfl,_,_,rfl,rfl,?_⟩⟩;have qL:=O _ _ u ye;have kw:=O.tps Z oJ;have gS:=O _ _ g cJ;have om:=O.tp Z dm;have kG:=mQ.trans O;refine⟨_,rfl,rfl,_,rfl,?_⟩;refine be (fun hw0=>?_) (fun _=>?_)
     ·refine⟨_,rfl,_,rfl,_,rfl,D,_,rfl,DPut.t (k:=ps.map Sum.inl) gS (by rw[As];exact om) (by rw[hX];exact zZ ω),⟨bX cs ps (t-wd),_,_,_,rfl,kG.then M,cb.upd g,by rw[zj lW];exact qL,Tps.upd kw gS (by intro xs z;cases z),by rw[ak,dF],dg _ _ I,fun q hq=>?_,by have:=E_ cs ps (t-wd);omega,fun c hc=>?_⟩⟩
      rcases putC_mem hq with h|rfl
      ·exact b q h
      ·exact U
      ·rcases putC_at hc with h|rfl
       ·exact J c h
       ·have e1:=of_decide_eq_true hV
        injection e1 with e1
        rw[Ab] at e1;refine⟨e1,?_,by show -1000000000000000<=t-wd;omega,by show t-wd<=1000000000000000;omega⟩;intro z;have z':t-wd=0:=z;have p9:(!decide (V.int (t-wd)=V.int 0))=true:=hw0;rw[z'] at p9;exact absurd p9 ξ
     ·exact⟨cs,_,_,_,rfl,kG,cb,qL,kw,gS,I,b,ω,J⟩
    ·exact⟨cs,_,_,_,rfl,S.trans v,N,gZ,dN,ag,I,b,ω,J⟩
   ·refine aI ?_
    exact⟨cs,_,_,_,rfl,S,G,eY,X,Y,I,b,ω,J⟩
  ·rintro σ H2 ⟨cs,v4,v5,v6,rfl,S,G,eY,X,Y,I,b,d,J⟩
   rw[Ab,aL] at d;exact⟨_,rfl,k D cs H2 S G M Y I b d J⟩
end
end K55
end
section
namespace K55
open K1
open PySem L2 STb
abbrev iG:Stmt:=top 31
def BW(H:Hp)(t:Addr)(c:List Int×Int):Prop:=∃b,H t=some (.tup [.ref b,.int c.2])/\Tp H b c.1
def Prs(H:Hp)(ts:List Addr)(cs:Ch):Prop:=Paired (BW H) ts cs
def Prs.same{H H':Hp}{ts:List Addr}{cs:Ch}(h:Prs H ts cs)(s:Same H H'):Prs H' ts cs:=Paired.mapP h fun _ _ ⟨b,e1,e2⟩=>⟨b,s _ _ e1,s.tp e2⟩
def Prs.length{H:Hp}{ts:List Addr}{cs:Ch}(h:Prs H ts cs):ts.length=cs.length:=A4 h
def Prs.upd{H:Hp}{d:Addr}{o o':HO}{ts:List Addr}{cs:Ch}(h:Prs H ts cs)(hd:H d=some o')(a:∀xs,o'≠.tup xs):Prs (L2.upd H d o) ts cs:=
 Paired.mapP h fun t c ⟨b,e1,e2⟩=>⟨b,by rw[zj (dj e1 hd fun z=>a _ z.symm)];exact e1,by show L2.upd H d o b=_;rw[zj (dj (show H b=some _ from e2) hd fun z=>a _ z.symm)];exact e2⟩
def Prs.snoc{H:Hp}{ts:List Addr}{cs:Ch}{t:Addr}{c:List Int×Int}(h:Prs H ts cs)(q:BW H t c):Prs H (ts++[t]) (cs++[c]):=Paired.snoc h q
def Prs.append{H:Hp}{ts us:List Addr}{cs ds:Ch}(h:Prs H ts cs)(q:Prs H us ds):Prs H (ts++us) (cs++ds):=by
 induction h with
 |nil=>exact q
 |cons r t ih=>exact .cons r ih
def Prs.get{H:Hp}:∀{ts:List Addr}{cs:Ch}{i:Nat}{t:Addr},Prs H ts cs->ts[i]?=some t->∃c,cs[i]?=some c/\BW H t c
 |_,_,0,_,.cons h _,e=>by cases e;exact⟨_,rfl,h⟩
 |_,_,i+1,_,.cons _ t,e=>Prs.get (i:=i) t (by simpa using e)
def aY(cs:Ch)(q:List Int):Int:=((cs.find? fun c=>decide (c.1=q)).map (·.2)).getD 0
def LU(cs:Ch)(q:List Int):(bI (bb cs) (q.map Sum.inl)).getD (.int 0)=.int (aY cs q):=by
 unfold bI aY bb
 induction cs with
 |nil=>rfl
 |cons c r ih=>
  rw[Ar,List.find?_cons,List.find?_cons]
  by_cases e:c.1=q
  ·rw[decide_eq_true e,decide_eq_true (gX.mpr e)];rfl
  ·rw[decide_eq_false e,decide_eq_false (fun z=>e (gX.mp z))];exact ih
def gA(acc:Ch)(t:List Int×Int):Ch:=bX acc t.1 (aY acc t.1+t.2)
def a0(ts:Ch):Ch:=ts.foldl gA []
def sumC(ts:Ch):Ch:=(a0 ts).filter eB
def ol(ts:Ch)(t:List Int×Int):a0 (ts++[t])=gA (a0 ts) t:=by unfold a0;rw[List.foldl_append];rfl
def la{c:Type}{P:List c->Prop}(d:P [])(hs:∀l x,P l->P (l++[x]))(l:List c):P l:=by
 have:∀n,∀l:List c,l.length=n->P l:=by
  intro n
  induction n with
  |zero=>intro l a;rw[List.eq_nil_of_length_eq_zero a];exact d
  |succ n ih=>
   intro l a;have b:l≠[]:=fun z=>by rw[z] at a;simp at a
   rw[<-List.dropLast_concat_getLast b];exact hs _ _ (ih _ (by rw[List.length_dropLast];omega))
 exact this _ l rfl
def rD(ts:Ch):(ksC (a0 ts)).Nodup:=la (P:=fun ts=>(ksC (a0 ts)).Nodup) List.nodup_nil (fun l x h=>by rw[ol];exact dg _ _ h) ts
def Fh(ts:Ch):(a0 ts).length<=ts.length:=la (P:=fun ts=>(a0 ts).length<=ts.length) (Ag _) (fun l x h=>by
 rw[ol,Aw];have:=E_ (a0 l) x.1 (aY (a0 l) x.1+x.2);unfold gA;simp;omega) ts
def LV{cs:Ch}{q:List Int}(v:Int)(h:q∉ksC cs):bX cs q v=cs++[(q,v)]:=by unfold bX;rw[if_neg h]
def sg(k:Nat)(n:Int):Int:=if(k:Int)%2=0 then n else -n
section
variable{P:Program}{w:World}{K:Ad}{mg:Str->Option Value}{base:Heap}
def Fj(K:Ad):Sp:=fun vs H Q _=>∃l ts cs,vs=[.ref l]/\SqL K H l (ts.map V.ref)/\Prs H ts cs/\cs.length<=1000/\∀D H',Same H H'->H D=none->H' D=some (.dT (bb (sumC cs)))->Q (.ref D) H'
def lb:zq ["terms","sums","piece","weight","told"] ["terms"] (zg iG):=⟨rfl,rfl,rfl,δ,rfl,δ,δ⟩
def LW{f:Addr}{fd:FuncData}(F:Fun K "sum_of" "sum_of" iG f fd):FnOk P w K mg base az 1 f fd ["terms"] (Fj K):=by
 refine F.ok lb (fun vs H Q E h=>?_) (fun cdv A outer s H vs Q E hr h=>?_)
 ·obtain⟨l,ts,cs,rfl,_⟩:=h;rfl
 ·obtain⟨l,ts,cs,rfl,hl,hp,hz,k⟩:=h
  have hu:=d_ hr;have mE:=hp.length;refine⟨_,zd (zr (i:=1) lb.nd rfl (Or.inl rfl) mL)
   (zd (dW A7 rfl (zA (pv 0)) (kr rfl (zT (zn (i:=2) lb.nd rfl (Or.inl rfl)) (zT (zn (i:=3) lb.nd rfl (Or.inl rfl)) kq)))
    (zi (gb hu (pv 1) (pv 2) (zE eZ (Is hu (pv 1) (pv 2) zf ⟨rfl,rfl,rfl,rfl⟩) (pv 3)) rfl)))
   (zd (zr (i:=4) lb.nd rfl (Or.inl rfl) mL)
   (zd (dW A7 rfl (E7 (pv 1)) (zn (i:=2) lb.nd rfl (Or.inl rfl))
    (zi (zR (zp l0 (fY hu (pv 1) (pv 2) (fun _ _=>rfl)) zf (ar _)) (zi (gb hu (pv 4) (pv 2) (fY hu (pv 1) (pv 2) (fun _ _=>rfl)) rfl)) zv)))
   (zi (zt (pv 4)))))),?_⟩
  intro d hd;refine⟨_,rfl,l,rfl,⟨_,(Same.new hd).seq hl⟩,gM (K:=K) (a:=l) (xs:=ts.map V.ref) (fun i σ H2=>∃(C L:Option V),σ=[some (.ref l),some (.ref d),C,L,none]/\Same H H2/\H2 d=some (.dT (bb (a0 (cs.take i)))))
   ⟨none,none,rfl,Same.new hd,ak⟩ (fun i σ H2 _ ⟨_,_,_,r,_⟩=>r.seq hl) ?_ ?_⟩
  ·rintro i x σ H2 hx ⟨C,L,rfl,r,v⟩
   obtain⟨t,et,rfl⟩:=dE hx;obtain⟨c,G,b,e1,e2⟩:=hp.get et;have lH:H2 b=some (.tup ((c.1.map Sum.inl:List Key).map kV)):=by rw[As];exact r.tp e2
   have q:(bb (a0 (cs.take i))).length<sizeLine:=by
    rw[hX];have:=Fh (cs.take i);rw[AJ] at this;exact zZ ω
   refine⟨t,_,rfl,SqT.of (r _ _ e1),rfl,_,_,rfl,_,_,rfl,rfl,?_⟩;refine⟨_,rfl,d,rfl,.inr ⟨_,.inl v⟩,_,rfl,_,DGet.t (k:=c.1.map Sum.inl) v lH,?_⟩;rw[LU];refine⟨_,rfl,_,_,rfl,rfl,_,rfl,_,rfl,d,_,rfl,DPut.t (k:=c.1.map Sum.inl) v lH q,⟨_,_,rfl,r.then hd,?_⟩⟩;rw[ak,dF,AM G,ol]
   rfl
  ·rintro σ H2 ⟨C,L,rfl,r,v⟩
   rw[Ab,mE,take_all] at v;intro T hT;have W:H T=none:=r.free hT;have S:d≠T:=zh v hT;have X:=rD cs;have jQ:=Fh cs;unfold sumC at k;generalize a0 cs=p at v X jQ k;refine⟨_,rfl,d,bb p,rfl,.inl (by rw[zj S];exact v),fun o H3 eQ bR=>E8 (fun i σ y=>∃(C:Option V),σ=[some (.ref l),some (.ref d),C,L,some (.ref T)]/\Same H y/\y d=some (.frz o (.dT (bb p)))/\y T=some (.dT (bb ((p.take i).filter eB))))
    ⟨_,rfl,fun b u e=>by rw[bR b (zh e hd),zj (zh e W)];exact r _ _ e,eQ,by rw[bR T (Ne.symm S)];exact ak⟩ (fun i σ y _ ⟨_,_,_,h,_⟩=>h) ?_ ?_⟩
   ·rintro i kv b σ y M hb ⟨C,rfl,N,O,I⟩
    have hi:i<p.length:=by
     have:=(List.getElem?_eq_some_iff.mp M).1;rw[hX] at this;exact this
    have G:p[i]?=some p[i]:=Af hi;obtain rfl:(((p[i]).1.map Sum.inl:List Key),V.int (p[i]).2)=kv:=by
     unfold bb at M;rw[Aj,G] at M;exact An M
    have J:p[i]∈p:=A3 hi;have o9:(p[i]).1∉ksC ((p.take i).filter eB):=fun z=>by
     obtain⟨c',hc',e'⟩:=List.mem_map.mp z;obtain⟨j,U⟩:=List.getElem?_of_mem ((List.mem_filter.mp hc').1);have Y:j<i:=by
      have:=(List.getElem?_eq_some_iff.mp U).1;rw[AJ] at this;omega
     rw[List.getElem?_take_of_lt Y] at U;have h1:(ksC p)[j]?=some (p[i]).1:=by unfold ksC;rw[Aj,U];exact congrArg some e'
     have h2:(ksC p)[i]?=some (p[i]).1:=by unfold ksC;rw[Aj,G];rfl
     have Z:j<(ksC p).length:=by rw[j6];omega
     have:=(List.getElem?_inj Z X).mp (h1.trans h2.symm);omega
    have q:(bb ((p.take i).filter eB)).length<sizeLine:=by
     rw[hX];have:=List.length_filter_le eB (p.take i);rw[AJ] at this;exact zZ ω
    have g:DGet y d (.ref b) (some (.int (p[i]).2)):=.inr ⟨bb p,(p[i]).1.map Sum.inl,b,.inr ⟨o,O⟩,rfl,hb,(Bz X _ J).symm⟩;have ua:T≠d:=Ne.symm S;refine⟨_,rfl,_,rfl,d,_,rfl,g,rfl,_,rfl,?_⟩;cases hz0:eB p[i] with
    |true=>
     have D:(!decide (V.int (p[i]).2=V.int 0))=true:=hz0;rw[D];refine bg ⟨_,rfl,_,rfl,d,_,rfl,g,_,rfl,_,rfl,T,_,rfl,DPut.t (k:=(p[i]).1.map Sum.inl) I hb q,⟨_,rfl,N.then W,by rw[zj S];exact O,?_⟩⟩;rw[ak,dF,LV _ o9,AM G,List.filter_append,List.filter_cons_of_pos hz0]
     rfl
    |false=>
     have D:(!decide (V.int (p[i]).2=V.int 0))=false:=hz0;rw[D];refine aI ⟨_,rfl,N,O,?_⟩;rw[AM G,List.filter_append,List.filter_cons_of_neg (by rw[hz0];decide),List.filter_nil,List.append_nil];exact I
   ·rintro σ y ⟨C,rfl,N,O,I⟩
    rw[hX,take_all] at I;exact⟨_,rfl,k T y N W I⟩
end
end K55
end
section
namespace K55
open K1
open PySem L2 STb
def zS(c:List Int×Int)(r:Ch)(x:List Int):aY (c::r) x=if c.1=x then c.2 else aY r x:=by
 unfold aY;rw[List.find?_cons]
 by_cases e:c.1=x
 ·rw[decide_eq_true e,if_pos e];rfl
 ·rw[decide_eq_false e,if_neg e]
def rG:∀{cs:Ch}{x:List Int},x∉ksC cs->aY cs x=0
 |[],_,_=>rfl
 |c::r,x,h=>by
  rw[zS,if_neg (fun z=>h (by unfold ksC;rw[Ar,z];exact Av))];exact rG fun z=>h (Ax _ z)
def uJ(q:List Int)(v:Int)(x:List Int):∀cs:Ch,aY (cs.map fun c=>if c.1=q then(c.1,v) else c) x=if x=q/\q∈ksC cs then v else aY cs x
 |[]=>by simp[aY,ksC]
 |c::r=>by
  rw[Ar,zS,zS,uJ q v x r];have hm:(q∈ksC (c::r))↔(c.1=q\/q∈ksC r):=by
   show q∈c.1::ksC r↔_;rw[List.mem_cons];constructor
   ·rintro(h|h)
    ·exact .inl h.symm
    ·exact .inr h
   ·rintro(h|h)
    ·exact .inl h.symm
    ·exact .inr h
  by_cases e:c.1=q
  ·rw[if_pos e]
   by_cases f:x=q
   ·subst f
    rw[if_pos e,if_pos ⟨rfl,hm.mpr (.inl e)⟩]
   ·rw[if_neg (fun z=>f (z.symm.trans e)),if_neg (fun z=>f z.1),if_neg (fun z=>f z.1),if_neg (fun z=>f (z.symm.trans e))]
  ·rw[if_neg e]
   by_cases f:c.1=x
   ·rw[if_pos f,if_pos f,if_neg (fun z=>e (f.trans z.1))]
   ·rw[if_neg f,if_neg f]
    by_cases g:x=q/\q∈ksC r
    ·rw[if_pos g,if_pos ⟨g.1,hm.mpr (.inr g.2)⟩]
    ·rw[if_neg g,if_neg (fun z=>g ⟨z.1,(hm.mp z.2).resolve_left e⟩)]
def Fq(q:List Int)(v:Int)(x:List Int):∀cs:Ch,aY (cs++[(q,v)]) x=if x∈ksC cs then aY cs x else if q=x then v else 0
 |[]=>by simp[aY,ksC];split<;>rfl
 |c::r=>by
  rw[List.cons_append,zS,zS,Fq q v x r]
  by_cases e:c.1=x
  ·rw[if_pos e,if_pos e,if_pos (by show x∈c.1::ksC r;rw[e];exact Av)]
  ·rw[if_neg e,if_neg e]
   by_cases h:x∈ksC r
   ·rw[if_pos h,if_pos (show x∈ksC (c::r) from Ax _ h)]
   ·have a:¬x∈ksC (c::r):=fun z=>by
     rcases List.mem_cons.mp (show x∈c.1::ksC r from z) with z|z
     ·exact e z.symm
     ·exact h z
    rw[if_neg h,if_neg a]
def LX(cs:Ch)(q:List Int)(v:Int)(x:List Int):aY (bX cs q v) x=if x=q then v else aY cs x:=by
 unfold bX
 by_cases h:q∈ksC cs
 ·rw[if_pos h,uJ]
  by_cases e:x=q
  ·rw[if_pos ⟨e,h⟩,if_pos e]
  ·rw[if_neg (fun z=>e z.1),if_neg e]
 ·rw[if_neg h,Fq]
  by_cases e:x=q
  ·subst e
   rw[if_neg h,if_pos rfl,if_pos rfl]
  ·rw[if_neg e]
   by_cases g:x∈ksC cs
   ·rw[if_pos g]
   ·rw[if_neg g,if_neg (fun z=>e z.symm),rG g]
def cZ(ts:Ch)(x:List Int):Int:=(ts.map fun c=>if c.1=x then c.2 else 0).sum
def LY(ts:Ch)(t:List Int×Int)(x:List Int):cZ (ts++[t]) x=cZ ts x+if t.1=x then t.2 else 0:=by
 unfold cZ;rw[Am,List.sum_append];simp
def LZ(ts:Ch)(t:List Int×Int)(x:List Int):cZ (t::ts) x=(if t.1=x then t.2 else 0)+cZ ts x:=by unfold cZ;rw[Ar,List.sum_cons]
def L3(ts us:Ch)(x:List Int):cZ (ts++us) x=cZ ts x+cZ us x:=by unfold cZ;rw[Am,List.sum_append]
def L4(x:List Int)(ts:Ch):aY (a0 ts) x=cZ ts x:=la (P:=fun ts=>aY (a0 ts) x=cZ ts x) rfl (fun l t h=>by
 rw[ol,LY];unfold gA;rw[LX]
 by_cases e:x=t.1
 ·subst e
  rw[if_pos rfl,if_pos rfl,h]
 ·rw[if_neg e,if_neg (fun z=>e z.symm),h];omega) ts
def Fu(x:List Int):∀{cs:Ch},(ksC cs).Nodup->aY (cs.filter eB) x=aY cs x
 |[],_=>rfl
 |c::r,h=>by
  have h':(c.1::ksC r).Nodup:=h;rw[List.nodup_cons] at h';have a:=Fu x h'.2;cases hz:eB c with
  |true=>rw[List.filter_cons_of_pos hz,zS,zS,a]
  |false=>
   have b:c.2=0:=by
    have:(!decide (V.int c.2=V.int 0))=false:=hz;have:=of_decide_eq_true (by simpa using this:decide (V.int c.2=V.int 0)=true);injection this
   rw[List.filter_cons_of_neg (by rw[hz];decide),zS,a]
   by_cases e:c.1=x
   ·rw[if_pos e,b]
    exact rG (by rw[<-e];exact h'.1)
   ·rw[if_neg e]
def BX(ts:Ch)(x:List Int):aY (sumC ts) x=cZ ts x:=by unfold sumC;rw[Fu x (rD ts),L4]
def ow(ts:Ch):(ksC (sumC ts)).Nodup:=(rD ts).sublist ((List.filter_sublist (p:=eB) (l:=a0 ts)).map _)
def BY:∀{cs:Ch},(ksC cs).Nodup->∀c∈cs,aY cs c.1=c.2
 |[],_,c,h=>absurd h (by simp)
 |d::r,h,c,hc=>by
  have h':(d.1::ksC r).Nodup:=h;rw[List.nodup_cons] at h';rw[zS];rcases List.mem_cons.mp hc with e|hc'
  ·rw[e,if_pos rfl]
  ·rw[if_neg (fun z=>h'.1 (by rw[z];exact List.mem_map.mpr ⟨c,hc',rfl⟩))]
   exact BY h'.2 c hc'
def rH{ts:Ch}{c:List Int×Int}(h:c∈sumC ts):c.2≠0/\cZ ts c.1=c.2:=by
 refine⟨fun z=>?_,?_⟩
 ·have:=(List.mem_filter.mp h).2
  have:(!decide (V.int c.2=V.int 0))=true:=this;rw[z] at this;exact absurd this ξ
 ·rw[<-BX]
  exact BY (ow ts) c h
def L5{ts:Ch}{x:List Int}(h:∀t∈ts,t.1≠x):cZ ts x=0:=by
 induction ts with
 |nil=>rfl
 |cons t r ih=>rw[LZ,if_neg (h t Av),ih fun u hu=>h u (Ax _ hu)];rfl
def Fv(f:List Int×Int->Ch)(x:List Int):∀cs:Ch,cZ (cs.flatMap f) x=(cs.map fun c=>cZ (f c) x).sum
 |[]=>rfl
 |c::r=>by rw[List.flatMap_cons,L3,Ar,List.sum_cons,Fv f x r]
def L6{kn:Ξ}{n:Nat}(h:∀q∈kn,q.length=n):gn kn=true:=by
 unfold gn;refine decide_eq_true ?_;have:(dd (lens kn)).length<=1:=(EZ _).mpr fun x hx y hy=>by
  unfold lens at hx hy;obtain⟨a,c,rfl⟩:=List.mem_map.mp hx;obtain⟨b,hb,rfl⟩:=List.mem_map.mp hy;rw[h a c,h b hb]
 omega
def BZ{kn:Ξ}{cs:Ch}{n:Nat}(h1:∀c∈cs,c.1∈kn)(h2:∀c∈cs,c.1.length=n)(a:∀c∈cs,c.2≠0):fg kn cs=true:=by
 unfold fg;rw[decide_eq_true (fun k hk=>by obtain⟨c,hc,rfl⟩:=List.mem_map.mp hk;exact h1 c hc),L6 (n:=n) (fun q hq=>by obtain⟨c,hc,rfl⟩:=List.mem_map.mp hq;exact h2 c hc),Bool.true_and,Bool.true_and,List.all_map,List.all_eq_true];intro c hc;show(!decide (V.int c.2=V.int 0))=true;rw[decide_eq_false (fun z=>a c hc (by injection z))]
 rfl
end K55
end
section
namespace K55
open K1
open PySem L2 STb
def fE{H:Hp}{d b:Addr}{kvs:List (List Key×V)}{o:HO}(r:Rd H d (.dT kvs))(h:H b=some o)(h1:∀k,o≠.dT k)(h2:∀q k,o≠.frz q (.dT k)):b≠d:=by
 rintro rfl;rcases r with r|⟨q,r⟩
 ·exact h1 _ (An (h.symm.trans r))
 ·exact h2 _ _ (An (h.symm.trans r))
def zu.lst{H H':Hp}{d b:Addr}{kvs:List (List Key×V)}{xs:List V}(s:zu d H H')(r:Rd H d (.dT kvs))(h:H b=some (.lst xs)):H' b=some (.lst xs):=s _ _ (fE r h (by intro k z;cases z) (by intro q k z;cases z)) h
def zu.tpD{H H':Hp}{d b:Addr}{kvs:List (List Key×V)}{ps:List Int}(s:zu d H H')(r:Rd H d (.dT kvs))(h:Tp H b ps):Tp H' b ps:=s _ _ (fE r (show H b=some _ from h) (by intro k z;cases z) (by intro q k z;cases z)) h
def zu.tpsD{H H':Hp}{d:Addr}{kvs:List (List Key×V)}{as:List Addr}{pss:Ξ}(s:zu d H H')(r:Rd H d (.dT kvs))(h:Tps H as pss):Tps H' as pss:=Paired.mapP h fun _ _ q=>s.tpD r q
def zu.freeD{H H':Hp}{d l:Addr}{u:HO}(s:zu d H H')(r:Rd H' d u)(h:H' l=none):H l=none:=by
 cases q:H l with
 |none=>rfl
 |some o=>
  have a:l≠d:=fun z=>by
   rw[z] at h;rcases r with r|⟨_,r⟩<;>rw[h] at r<;>cases r
  rw[s _ _ a q] at h;cases h
def zu.thenD{H H1:Hp}{d a:Addr}{o:HO}(e:zu d H H1)(h:H a=none):zu d H (L2.upd H1 a o):=fun b u hb q=>by rw[zj (zh q h)];exact e b u hb q
def L7{cs:Ch}{i:Nat}{kv:List Key×V}(h:(bb cs)[i]?=some kv):∃c,cs[i]?=some c/\kv=((c.1.map Sum.inl:List Key),V.int c.2):=by
 unfold bb at h;rw[Aj] at h;cases e:cs[i]? with
 |none=>rw[e] at h;cases h
 |some c=>rw[e] at h;exact⟨c,rfl,(An h).symm⟩
def L8{H:Hp}{b:Addr}{ps:List Int}(h:H b=some (.tup ((ps.map Sum.inl:List Key).map kV))):Tp H b ps:=by rw[As] at h;exact h
def L9{cs:Ch}{i:Nat}{c:List Int×Int}(f:List Int×Int->Ch)(h:cs[i]?=some c):(cs.take (i+1)).flatMap f=(cs.take i).flatMap f++f c:=by rw[AM h,List.flatMap_append];simp
structure WC(H:Hp)(l d:Addr)(as:List Addr)(pss:Ξ)(cs:Ch):Prop where
 hl:H l=some (.lst (as.map V.ref))
 ht:Tps H as pss
 hw:a6 pss
 h59:(canon pss).length<=58
 hd:Rd H d (.dT (bb cs))
 ln:cs.length<=(canon pss).length
 hc:fg (canon pss) cs=true
 nd:(ksC cs).Nodup
def WC.same{H H':Hp}{l d:Addr}{as:List Addr}{pss:Ξ}{cs:Ch}(h:WC H l d as pss cs)(s:Same H H'):WC H' l d as pss cs:=⟨s _ _ h.hl,s.tps h.ht,h.hw,h.h59,h.hd.same s,h.ln,h.hc,h.nd⟩
def WC.walked{H H':Hp}{l d:Addr}{as:List Addr}{pss:Ξ}{cs:Ch}(h:WC H l d as pss cs)(s:zu d H H')(r:Rd H' d (.dT (bb cs))):WC H' l d as pss cs:=⟨s.lst h.hd h.hl,s.tpsD h.hd h.ht,h.hw,h.h59,r,h.ln,h.hc,h.nd⟩
end K55
end
section
namespace STb
open PySem PySem.SetTable PyProof.Rows
def iv:Value->Int
 |.int n _=>n
 |_=>0
def SI(prog:Program)(w:World)(h:Heap)(S:Addr)(ns:List Int):Prop:=
 ∃o es ep t,h.get? S=some o/\o.ExactSet/\o.data=.set es ep t/\Tb t (es.map (·.1))/\ElemsOf (intKind prog w) es.toList/\(es.toList.map fun e=>iv e.2).Perm ns/\ns.Nodup/\
  ((t.mask=7/\es.size<=4)\/(t.mask=31/\es.size<=18))/\(w.params.followText "set-order"=true\/(t.led=true/\t.plain=true))
def SI.keep{prog:Program}{w:World}{h h':Heap}{S:Addr}{ns:List Int}(x:SI prog w h S ns)(k:∀o,h.get? S=some o->h'.get? S=some o):SI prog w h' S ns:=
 let ⟨o,es,ep,t,h1,r⟩:=x;⟨o,es,ep,t,k o h1,r⟩
def L_{l:List Nat}{n:Nat}(b:l.Nodup)(c:l.length=n)(hb:∀q∈l,q<n):l.Perm (Bc n):=by
 refine(List.perm_ext_iff_of_nodup b List.nodup_range).mpr fun q=>⟨fun h=>List.mem_range.mpr (hb q h),fun h=>?_⟩;apply Classical.byContradiction;intro z;have a:(q::l).Nodup:=List.nodup_cons.mpr ⟨z,b⟩;have sub:(q::l) ⊆ Bc n:=fun x hx=>by
  rcases List.mem_cons.mp hx with e|e
  ·rw[e];exact h
  ·exact List.mem_range.mpr (hb x e)
 have:=a.length_le_of_subset sub;rw[Au,List.length_range] at this;omega
def L'{t:SetTable}{hs:Array Int}(T:Tb t hs)(h:Int):∃ne,¬eK t (pos t.mask h ne)/\(∀m,m<ne->eK t (pos t.mask h m))/\t.freeSlot h=some (pos t.mask h ne,false):=by
 obtain⟨ne,a,he,hm⟩:=xO T h;refine⟨ne,he,hm,?_⟩;unfold SetTable.freeSlot;have b:t.probeStart h=pr t.mask h 0:=rfl;rw[b];rcases probe_spec T (hashAt:=fun _=>h+1) a he hm (AK _) with ⟨e,_⟩|⟨N,i,_,_,_,e,_⟩
 ·rw[e];rfl
 ·omega
def Ma{t:SetTable}{es:Array (Int×Value)}{want m2:Nat}(hw:SetTable.sizeAbove want-1=m2)(hc:eH m2)(v:m2%2=1)(hr:es.size<=m2):∃es' t',relayAll t es want=(es',t',false)/\t'.mask=m2/\t'.led=t.led/\t'.plain=t.plain/\Tb t' (es'.map (·.1)):=by
 obtain⟨c,a,e1,e2,e3,j,f,l,d,o⟩:=D0 hc v t.finger (t.movedTo m2) t.led t.plain (es.map (·.1)) (by rw[AV];exact hr);have r:t.relaid (es.map (·.1)) want=some (c,a):=by
  unfold SetTable.relaid;rw[hw];exact e1
 rw[AV] at f d;obtain⟨b,f1,f2,f3,f4⟩:=xX (es:=es) d;have h:a.filterMap (es[·]?)=b.toArray:=by
  apply Array.toList_inj.mp;rw[Array.toList_filterMap,f1]
 have w:b.length=es.size:=by rw[f2,Ay,f]
 have g:(b.toArray.map (·.1))=a.map fun q=>((es.map (·.1))[q]?).getD 0:=by
  apply Array.ext_getElem?;intro i;rw[Array.getElem?_map,Array.getElem?_map,List.getElem?_toArray];cases q:a[i]? with
  |none=>
   have:a.toList.length<=i:=by rw[Ay];exact Array.getElem?_eq_none_iff.mp q
   rw[List.getElem?_eq_none ω]
   rfl
  |some p=>
   have e:=f4 i p (by rw[AD];exact q);have hp:=d p (by rw[<-AD] at q;exact Ap q);rw[e,getElem?_pos es p hp];simp[hp]
 have T2:Tb c (b.toArray.map (·.1)):=by rw[g];exact o
 refine⟨b.toArray,c,?_,e2,e3,j,T2⟩;unfold relayAll;rw[r];dsimp only;have s:coversAll a es.size=true:=by
  unfold coversAll;rw[List.isPerm_iff];exact L_ l (by rw[Ay];exact f) d
 have u:c.fits (a.filterMap (es[·]?)).size=true:=by rw[h];exact fits_of T2
 rw[s,u,h]
 rfl
section
variable{prog:Program}{w:World}{A:Around}{E:Ω}{s:Shared}
def Fx{e:Int×Value}{l:List (Int×Value)}(h:ElemsOf (intKind prog w) l)(he:e∈l):∃n t,e=((intKind prog w).hash n,.int n t):=by
 obtain⟨⟨k,h1,h2⟩,_⟩:=h e he;obtain⟨t,a⟩:=Value.isInt_shape h1;exact⟨k,t,Prod.ext h2 a⟩
def Mb{S:Addr}{ns:List Int}(X:SI prog w s.heap S ns)(hn:ns.length<18){n:Int}{tk:Tok}{Q:Bool->Shared->Prop}(h:∀(r:Bool) h',SI prog w h' S (if n∈ns then ns else ns++[n])->AN S s.heap h'->Q r {s with heap:=h'}):wpAny (model prog w) A (setAddHashed S (.int n tk) ((intKind prog w).hash n)) Q E s:=by
 obtain⟨o,es,ep,t,v,hex,hd,T,C,hp,Z,mk,wk⟩:=id X;have hf:=fits_of T;have M:(intKind prog w).is n (.int n tk)=true:=intKind_is _ _ _ _;have N:es.size=ns.length:=by have:=hp.length_eq;simpa using this
 have hb:es.size<scanBound:=by unfold scanBound;omega
 unfold setAddHashed setAddHashedIn;refine AA (Aa (AW v hd hf ?_));dsimp only;rw[byScan_of (knd:=intKind prog w) rfl hb C];simp only[↓reduceIte];unfold setAddByScan;refine Aa ?_;refine Aa (wpAny_rule ?_);refine Aa (wpAny_setScan_of M v hd hf C ?_);cases hr:List.findIdx? (fun e=>(intKind prog w).is n e.2) es.toList with
 |some j=>
  dsimp only;obtain⟨hj,wb,_⟩:=List.findIdx?_eq_some_iff_getElem.mp hr;have F:n∈ns:=by
   refine hp.mem_iff.mp (List.mem_map.mpr ⟨es.toList[j],A3 hj,?_⟩);obtain⟨t',e⟩:=Value.isInt_shape wb;rw[e];rfl
  refine Ac (Ac ?_);have e:s={s with heap:=s.heap}:=by cases s;rfl
  have:=h false s.heap (by rw[if_pos F];exact X) (Heap.SameBut.refl _ _);exact this
 |none=>
  dsimp only;have G:n∉ns:=fun z=>by
   obtain⟨e,he,e2⟩:=List.mem_map.mp (hp.mem_iff.mpr z);obtain⟨m,t',e3⟩:=Fx C he;have:=List.findIdx?_eq_none_iff.mp hr e he;subst e3;obtain rfl:m=n:=e2;rw[intKind_is] at this;exact Bool.noConfusion this
  obtain⟨ne,he,hm,ef⟩:=L' T ((intKind prog w).hash n);have cG:(es.map (·.1)).size+1<=t.mask:=by
   rw[AV];rcases mk with ⟨a,b⟩|⟨a,b⟩<;>omega
  obtain⟨p1,p2,p3⟩:=DY T he hm cG;rw[AV] at p1;obtain⟨c,p,D⟩:∃c p,t.put (pos t.mask ((intKind prog w).hash n) ne)=(c,p):=⟨_,_,rfl⟩;have uo:c.led=t.led:=by
   have e1:c=(t.put (pos t.mask ((intKind prog w).hash n) ne)).1:=by rw[D]
   rw[e1];rfl
  have H:c.plain=t.plain:=by
   have e1:c=(t.put (pos t.mask ((intKind prog w).hash n) ne)).1:=by rw[D]
   rw[e1];rfl
  rw[D] at p1 p2 p3;dsimp only at p1 p2 p3;have I:(insertAt es p ((intKind prog w).hash n,Value.int n tk)).size=es.size+1:=nk _ _ _ p1;have d:(insertAt es p ((intKind prog w).hash n,Value.int n tk)).map (·.1)=insertAt (es.map (·.1)) p ((intKind prog w).hash n):=ins_map (·.1) es p _ p1;have T1:Tb c ((insertAt es p ((intKind prog w).hash n,Value.int n tk)).map (·.1)):=by rw[d];exact p3
  have f1:=fits_of T1;have O:layNew t es ((intKind prog w).hash n) (.int n tk)=(insertAt es p ((intKind prog w).hash n,Value.int n tk),c,false,false):=by
   unfold layNew;rw[ef];dsimp only;rw[D];dsimp only;unfold SetTable.orStandIn;rw[f1]
   rfl
  have f:=layNew_perm t es ((intKind prog w).hash n) (.int n tk);rw[O] at f;rw[O];dsimp only at f ⊢;rw[Array.toList_push] at f;have P:ElemsOf (intKind prog w) (insertAt es p ((intKind prog w).hash n,Value.int n tk)).toList:=(C.push M rfl).perm f;have U:((insertAt es p ((intKind prog w).hash n,Value.int n tk)).toList.map fun e=>iv e.2).Perm (ns++[n]):=by
   refine(f.map _).trans ?_;rw[Am];exact hp.append_right _
  have g:(ns++[n]).Nodup:=by
   rw[List.nodup_append];refine⟨Z,by simp,fun x hx y hy=>?_⟩;rw[List.mem_singleton.mp hy];exact fun z=>G (z▸hx)
  have i:w.params.followText "set-order"=true\/(c.led=true/\c.plain=true):=by rw[uo,H];exact wk
  have l:(insertAt es p ((intKind prog w).hash n,Value.int n tk)).size<scanBound:=by rw[I];unfold scanBound;omega
  generalize insertAt es p ((intKind prog w).hash n,Value.int n tk)=bA at *;refine Aa (Ac ?_);have tail:wpAny (model prog w) A (storeSet S bA c >>= fun _=>if(!false&&c.tooFull)=true then(do
      (match (relayAll c bA (SetTable.grown bA.size)).2.2 with|true=>rule "set.scan.the-table-gave-way" |false=>pure ())
      storeSet S (relayAll c bA (SetTable.grown bA.size)).1 (relayAll c bA (SetTable.grown bA.size)).2.1
      pure (some true))
     else pure (some true)) (fun a s'=>wpAny (model prog w) A (match a with|some added=>pure added|none=>setAddHashedIn S (.int n tk) ((intKind prog w).hash n) 99999) Q E s') E s:=by
   refine Aa (wpAny_storeSet_of v hd ?_ (fits_of_scanBound l));have J:=qM (es':=bA) (t':=c) v hd;have W:=AR s.heap S (Obj.putSet bA c);have fl:c.fill=es.size+1:=by
    unfold SetTable.fill;rw[T1.dum,T1.size,AV,I]
    rfl
   have Y:c.tooFull=decide ((es.size+1)*5 ≥ t.mask*3):=by unfold SetTable.tooFull;rw[fl,p2]
   by_cases q:(es.size+1)*5 ≥ t.mask*3
   ·rw[Y,decide_eq_true q]
    simp only[Bool.not_false,Bool.and_self,if_true];have h5:es.size+1=5/\t.mask=7:=by rcases mk with ⟨a,b⟩|⟨a,b⟩<;>omega
    obtain⟨L,t3,r1,r2,r3,r4,r5⟩:=Ma (t:=c) (es:=bA) (want:=SetTable.grown bA.size) (m2:=31) (by rw[I,h5.1];decide +kernel) gd rfl ω;have u:=relayAll_perm c bA (SetTable.grown bA.size);rw[r1] at u ⊢;dsimp only at u ⊢;have nh:L.size=bA.size:=by rw[<-Ay,u.length_eq,Ay]
    refine Aa (Ac ?_);refine Aa (wpAny_storeSet_of J rfl ?_ (fits_of_scanBound (by rw[nh];exact l)));refine Ac (Ac (h true _ ?_ (W.trans (AR _ S _))));rw[if_neg G];exact⟨_,L,ep+1+1,t3,qM J rfl,hex,rfl,r5,P.perm u,(u.map _).trans U,g,.inr ⟨r2,ω⟩,by rw[r3,r4];exact i⟩
   ·rw[Y,decide_eq_false q]
    simp only[Bool.and_false,Ah,if_false];have uZ:(c.mask=7/\bA.size<=4)\/(c.mask=31/\bA.size<=18):=by
     rcases mk with ⟨a,b⟩|⟨a,b⟩
     ·left;omega
     ·right;omega
    refine Ac (Ac (h true _ ?_ W));rw[if_neg G];exact⟨_,bA,ep+1,c,J,hex,rfl,T1,P,U,g,uZ,i⟩
  cases hpl:c.plain with
  |true=>
   simp only[if_true];refine Aa ?_;rw[hashByValue_scannable 8 rfl];refine Ac ?_;simp only[plainKind,if_true];exact tail
  |false=>
   simp only[Ah,if_false];refine Aa (Ac ?_);simp only[if_true];exact tail
end
section
variable{prog:Program}{w:World}{A:Around}{R:Result->Shared->Prop}{I:Addr}{fp wr:List Addr}{G:Array GenState->Array GenState->Prop}{n:Nat}{P:Nat->Value->Prop}{St:Nat->Shared->Prop}
def Mc(W:WalksS prog w A.in1 I fp wr G n P St)(S:Addr)(f:S∉fp)(val:Nat->Int)(g:∀i v,P i v->∃t,v=.int (val i) t)(hb:n<=18):∀(k i:Nat)(s:Shared),n-i=k->i<=n->St i s->SI prog w s.heap S (firstMet val i)->
   (∀s',Moved (S::wr) G s s'->SI prog w s'.heap S (firstMet val n)->R (.ok (.ret .none)) s')->
   codeAny (model prog w) A (.builtin "set.update.loop" ⟨[.ref S,.ref I],[]⟩) R s:=by
 have c:S∉wr:=fun h=>f (W.sub _ h);have y:∀b∈wr,b∈S::wr:=fun b hb=>Ax _ hb;intro k
 induction k with
 |zero=>
  intro i s hk hi a l hR;have p:i=n:=ω
  subst p;refine A0 F.entry_set_update_loop ?_;rw[AZ F.plain_set_update_loop _];show wpAny _ A.in1 (pyNext (.ref I) >>= _) _ _ s;refine Aa (W.done s _ _ a fun s' hm=>?_);show wpAny _ A.in1 (ret Value.none) _ _ s';exact Ac (hR s' (hm.mono y) (l.keep fun o e=>hm.heap S o c e))
 |succ k ih=>
  intro i s hk hi a l hR;have d:i<n:=ω
  refine A0 F.entry_set_update_loop ?_;rw[AZ F.plain_set_update_loop _];show wpAny _ A.in1 (pyNext (.ref I) >>= _) _ _ s;refine Aa (W.item i s _ _ d a fun v s' C D hm=>?_);obtain⟨t,rfl⟩:=g i v C;have L:SI prog w s'.heap S (firstMet val i):=l.keep fun o e=>hm.heap S o c e;show wpAny _ A.in1 (holding [Value.int (val i) t] (setAdd S (.int (val i) t)) >>= _) _ _ s';refine Aa (AA ?_);unfold setAdd;refine AA ?_;refine Aa ((intKind prog w).pyHash (k:=val i) (intKind_is _ _ _ _) ?_);have M:(firstMet val i).length<18:=by have:=firstMet_length_le val i;omega
  refine Mb (s:={s' with toks:=s'.toks+1}) L M fun r h' j u=>?_;have N:SI prog w h' S (firstMet val (i+1)):=by
   rw[firstMet_succ];unfold step_dedup
   by_cases q:val i∈firstMet val i
   ·rw[if_pos q] at j;rw[if_pos (List.any_eq_true.mpr ⟨_,q,by simp⟩)];exact j
   ·rw[if_neg q] at j;rw[if_neg fun z=>by obtain⟨x,hx,e⟩:=List.any_eq_true.mp z;exact q (eq_of_beq e▸hx)];exact j
  refine Ac ⟨plainId_quiet F.plain_set_update_loop _,ih (i+1) _ ω d (W.frame _ s' _ _ D (Nat.le_succ _) fun b hb o e=>?_) N fun E H J=>?_⟩
  ·rw[u.2 b (fun h:b=S=>f (by rw[<-h];exact hb))];exact e
  ·refine hR E (Moved.trans W.gtrans ((hm.mono y).then_heap (Nat.le_succ _) fun b o hb e=>?_) H) J
   rw[u.2 b (fun h:b=S=>hb (by rw[h];exact Av))];exact e
end
section
variable{prog:Program}{w:World}{A:Around}{E:Ω}{s:Shared}
def Md{l:Addr}{a:Array Value}{ns:List Int}{Q:Ω}(hh:A.handled=none)(hl:s.heap.IsList l a)(hi:IntsAre a.toList ns)(hb:a.size<=18)(h:∀(h':Heap)(tk:Nat),SI prog w h' s⁻¹ (dd ns)->
   (∀b o,b<s⁻¹->s.heap.get? b=some o->h'.get? b=some o)->Q (.ref s⁻¹) {s with heap:=h',toks:=tk}):
  wpAny (model prog w) A (call (.type "set") [.ref l]) Q E s:=by
 obtain⟨c,tl,fJ⟩:=F.called_set.mro;have fu:=F.called_set.made;have aJ:=F.called_set.sub;have x:firstMet (fun i=>ns.getD i 0) a.size=dd ns:=by
  have hn:a.size=ns.length:=by rw[<-Ay];exact hi.length
  rw[hn,EY ns _ (Ag _),List.take_length]
 refine wpAny_call (codeAny_of_tree ?_);show wpAny _ _ (callAny (.type "set") _) _ _ _;refine Ac ⟨Code.quiet_builtin _ δ,A0 F.entry_type_call ?_⟩;rw[Around.under_plain (weight_type_call_type "set" [.ref l] []) rfl];have h1:=F.called_set.notType;have h2:=F.called_set.canCreate;have nu:=F.typeCall_set_1 (.ref l)
 repeat(any_goals(first|assumption|wp_step))
 refine codeAny_mono (x8 (.ref l) (E:=E) (Q₁:=fun obj G=>∃led:Bool,(w.params.followText "set-order"=true\/led=true)/\obj=.ref s⁻¹/\G={s with heap:=s.heap.push {cls:=.type "set",dict:=none,data:=.set #[] 0 (.fresh 0 0 led)}}) ⟨_,by cases w.params.followText "set-order" <;> simp,rfl,rfl⟩) fun r G hr=>?_;cases r with
 |error e=>exact hr
 |ok fl=>
  cases fl with
  |ret obj=>
   obtain⟨led,T,rfl,rfl⟩:=hr;have M:(s.heap.push {cls:=.type "set",dict:=none,data:=.set #[] 0 (.fresh 0 0 led)}).get? s⁻¹=some {cls:=.type "set",dict:=none,data:=.set #[] 0 (.fresh 0 0 led)}:=Ak _ rfl;have hG:Shared.TypeIs {s with heap:=s.heap.push {cls:=.type "set",dict:=none,data:=.set #[] 0 (.fresh 0 0 led)}} (.ref s⁻¹) "set":=⟨_,M,rfl⟩;have mI:=F.called_set.init.lookup;have oz:=F.called_set.init.bind (.ref s⁻¹)
   repeat(any_goals(first|assumption|wp_step))
   refine codeAny_mono (codeAny_call_builtin (R:=wants (fun r H=>r=.none/\∃h' tk,H={s with heap:=h',toks:=tk}/\
     SI prog w h' s⁻¹ (dd ns)/\
     (∀b o,b<s⁻¹->s.heap.get? b=some o->h'.get? b=some o)) E) F.called_set.init.plain F.entry_set_init (check_set_init_1 hG ?_)) fun P H q=>?_
   ·obtain⟨U,J,d,u,L⟩:=hl
    obtain⟨oW,W,jq,X⟩:=U;simp only at d L;subst d;subst L;have N:(s.heap.push {cls:=.type "set",dict:=none,data:=.set #[] 0 (.fresh 0 0 led)}).get? l=some {cls:=.type "list",dict:=W,data:=.seq a u,slots:=X}:=Ae _ J;have oN:=F.sub_list_set;have oo:=F.sub_list_frozenset;have hne:(Value.type "list" == Value.type "dict")=false:=ξ
    have y:(s.heap.push {cls:=.type "set",dict:=none,data:=.set #[] 0 (.fresh 0 0 led)}).IsList l a:=⟨_,N,rfl,u,rfl⟩;unfold Builtin.«set.__init__» noKeywords Builtin.Frozenset.updateFrom;generalize hPI:pyIter=PI
    wp_walk
    subst hPI;refine wpAny_pyIter_list y ?_;refine Aa (wpAny_runValue ?_);have O:l<s⁻¹:=Al J;have oB:A.in1.in1.in1.handled=none:=by simp[hh]
    have f:l≠(s.heap.push {cls:=.type "set",dict:=none,data:=.set #[] 0 (.fresh 0 0 led)}).objs.size:=by
     rw[Heap.size_push];exact Aq (Ba O)
    have C:s⁻¹∉[(s.heap.push {cls:=.type "set",dict:=none,data:=.set #[] 0 (.fresh 0 0 led)}).objs.size,l]:=by
     rw[Heap.size_push];simp only[List.mem_cons,Bd,List.not_mem_nil,or_false,not_or];exact⟨Aq (Nat.lt_succ_self _),Nat.ne_of_gt O⟩
    have g:∀(i:Nat)(v:Value),a[i]?=some v->∃t,v=.int ((fun i=>ns.getD i 0) i) t:=fun i v S=>
     PyProof.Rows.IntsAre.int_at hi i v (by rw[AD];exact S)
    refine Mc ((Walks.list oB _ l f a).toS) s⁻¹
     C (fun i=>ns.getD i 0) g hb (a.size-0) 0 _ ω (AK _)
     ⟨⟨_,Ak _ rfl,rfl,rfl⟩,⟨_,Ae _ N,rfl,u,rfl⟩⟩ ?hS0 ?hR
    case hS0=>
     have j:∀I,((s.heap.push {cls:=.type "set",dict:=none,data:=.set #[] 0 (.fresh 0 0 led)}).push I).get? s⁻¹
      =some {cls:=.type "set",dict:=none,data:=.set #[] 0 (.fresh 0 0 led)}:=fun I=>Ae _ M
     exact⟨_,#[],0,.fresh 0 0 led,j _,⟨rfl,rfl,rfl⟩,rfl,(by simpa using qJ 0 0 led),fun e he=>by simp at he,List.Perm.refl _,List.nodup_nil,.inl ⟨rfl,AK _⟩,T.imp id fun z=>⟨z,rfl⟩⟩
    case hR=>
     intro s' hm p;obtain⟨h',g',d',Y,Z⟩:=s';have eg:g'=s.gens:=hm.gens;have ed:d'=s.drawn:=hm.drawn;have eo:Z=s.os:=hm.os;subst eg;subst ed;subst eo;show wpAny _ _ _ _ _ _;refine Ac ?_;show wpAny _ _ (ret Value.none) _ _ _;rw[x] at p;refine Ac ⟨rfl,h',Y,rfl,p,fun b o hb e=>?_⟩;have D:b≠s⁻¹:=Aq hb;have aS:b≠(s.heap.push {cls:=.type "set",dict:=none,data:=.set #[] 0 (.fresh 0 0 led)}).objs.size:=by
      rw[Heap.size_push];exact Aq (Ba hb)
     exact hm.heap b o (by simp only[List.mem_cons,Bd,List.not_mem_nil,or_false,not_or];exact⟨D,aS⟩) (Ae _ (Ae _ e))
   ·cases P with
    |error e=>exact q
    |ok fl₂=>
     cases fl₂ with
     |ret r=>
      obtain⟨rfl,h',tk,rfl,p,hk'⟩:=q
      repeat(any_goals(first|assumption|wp_step))
      exact h _ _ p hk'
     |_=>exact q.elim
  |_=>exact hr.elim
end
end STb
namespace L2
open PySem PySem.Spec PyProof.Rows
def du(P:Program)(w:World)(D:Addr)(ns:List Int):HO:=.ext fun h=>STb.SI P w h D ns
section
variable{X:Cx}
def Me{P:Program}{w:World}{H:Hp}{h:Heap}{D:Addr}{ns:List Int}(x:STb.SI P w h D ns):zC P w H h D (du P w D ns):=
 ⟨x,(let ⟨o,_,_,_,h1,_⟩:=x;⟨o,h1⟩),fun h1 h2 y a=>y.keep fun o e=>a o e⟩
def Fy{aa:Ψ}{s:Shared}{σ:St}{H:Hp}{D:Addr}{ns:List Int}(I:Inv X aa σ H s)(e:H D=some (du X.prog X.w D ns)):STb.SI X.prog X.w s.heap D ns:=
 (show zC X.prog X.w H s.heap D (du X.prog X.w D ns) from I.hok D _ e).1
def Mf:z0 X (.builtin "len") (fun xs H Q=>∃D ns,xs=[.ref D]/\H D=some (du X.prog X.w D ns)/\Q (.int ns.length) H):=by
 intro aa s σ H xs us Q I r h;obtain⟨D,ns,rfl,hq,q⟩:=h;obtain⟨u,rfl,a⟩:=vals1 r;cases a;obtain⟨o,es,ep,t,h1,h2,c,T,_,hp,_,mk,_⟩:=Fy I hq;have d:es.size=ns.length:=by have:=hp.length_eq;simpa using this
 exact call_len_set h1 h2 c (STb.fits_of T) (by rcases mk with ⟨_,b⟩|⟨_,b⟩<;>omega) ⟨.int ns.length,H,I.tok _,⟨_,by rw[d]⟩,q⟩
def B0(hc:X.calm=true):z0 X (.type "set") (fun xs H Q=>∃(l:Addr)(ns:List Int),xs=[.ref l]/\SqL X.K H l (ns.map V.int)/\ns.length<=18/\
  ∀D,H D=none->Q (.ref D) (upd H D (du X.prog X.w D (STb.dd ns)))):=by
 intro aa s σ H xs us Q I r h;obtain⟨l,ns,rfl,hq,g,q⟩:=h;obtain⟨u,rfl,d⟩:=vals1 r;cases d;obtain⟨f,a,p1,_⟩:=I.list hq;have hi:=intsAre_of a;have i:f.length=ns.length:=by simpa using (A4 a).symm
 refine STb.Md (ns:=ns) (I.ok.hd hc) p1.isList (by simpa using hi) (by rw[Ai];omega) fun h' tk T c=>?_;exact⟨.ref s⁻¹,_,I.laid (o:=du X.prog X.w s⁻¹ (STb.dd ns)) (fun b u e=>c b u (Al e) e) (Ag _) (Me T),rfl,q _ (I.hok.fresh (Ag _))⟩
end
end L2
end
section
namespace STb
open PySem PySem.SetTable PyProof.Rows
def ord(w:World)(S:Addr)(ep:Nat)(es:Array (Int×Value)):Array (Int×Value):=if w.params.followText "set-order"=true then pickOrder (w.params.setOrder S ep) es else es
def B1(w:World)(S:Addr)(ep:Nat)(es:Array (Int×Value)):(ord w S ep es).toList.Perm es.toList:=by
 unfold ord;split
 ·obtain⟨l,h1,h2⟩:=yG (w.params.setOrder S ep) es.size 0 es.toList #[] (by simp)
  have:(pickOrder (w.params.setOrder S ep) es).toList=l:=by simpa[pickOrder] using h2
  rw[this];exact h1
 ·exact List.Perm.refl _
def Mg{xs:Array Nat}(hr:Ris xs):below xs 0=0:=by
 obtain⟨h1,h2,_⟩:=ni hr 0;rcases Nat.eq_zero_or_pos (below xs 0) with e|e
 ·exact e
 ·have hx:(0:Nat)<xs.size:=ω
  exact absurd (h2 0 xs[0] (getElem?_pos xs 0 hx) e) (Nat.not_lt_zero _)
def Mh{xs:Array Nat}(hr:Ris xs){i j:Nat}(e:xs[i]?=some j):below xs (j+1)=i+1:=by
 obtain⟨h1,h2,c⟩:=ni hr (j+1);have hi:i<xs.size:=(Array.getElem?_eq_some_iff.mp e).1;rcases Nat.lt_trichotomy (below xs (j+1)) (i+1) with q|q|q
 ·have:=c i j e ω;omega
 ·exact q
 ·have hx:i+1<xs.size:=ω
  have a:=h2 (i+1) xs[i+1] (getElem?_pos xs (i+1) hx) q;have b:=hr i (i+1) j xs[i+1] e (getElem?_pos xs (i+1) hx) ω;omega
def Fz:Manifest.owners.lookup (String.ofList ['r','o','t','a','r','e','t','i','_','t','e','s'].reverse)=some Manifest.sig_set_iterator:=by kernel_rfl
def lf:Slot "set_iterator" "__next__" "set_iterator.__next__":=
 .of (owner:="set_iterator") (n:="__next__") (by rw[typeLookup_type,builtinLookup_eq_fast];kernel_rfl) δ δ δ
  (by first|exact .inl δ|exact .inr δ) (by rw[isSubtype_type];kernel_rfl)
def FB:entryFor table "set_iterator.__next__"=some Builtin.«set_iterator.__next__»:=entryFor_of_tree (by kernel_rfl)
def FC(a:Value):argsOk "set_iterator.__next__" ⟨[a],[]⟩:=by
 unfold argsOk;rw[signature?_of (id:="set_iterator.__next__") (n:=['_','_','t','x','e','n','_','_']) (o:=['r','o','t','a','r','e','t','i','_','t','e','s']) (by kernel_rfl) Fz];kernel_rfl
def FD:Slot "set_iterator" "__iter__" "set_iterator.__iter__":=
 .of (owner:="set_iterator") (n:="__iter__") (by rw[typeLookup_type,builtinLookup_eq_fast];kernel_rfl) δ δ δ
  (by first|exact .inl δ|exact .inr δ) (by rw[isSubtype_type];kernel_rfl)
def Mi:entryFor table "set_iterator.__iter__"=some Builtin.«dict_keyiterator.__iter__»:=
 entryFor_alias (id':="dict_keyiterator.__iter__") (by kernel_rfl) (by first|rfl|decide +kernel|(unfold String.splitOn;simp +decide [String.splitOnAux])) δ (by kernel_rfl)
def Mj(a:Value):argsOk "set_iterator.__iter__" ⟨[a],[]⟩:=by
 unfold argsOk;rw[signature?_of (id:="set_iterator.__iter__") (n:=['_','_','r','e','t','i','_','_']) (o:=['r','o','t','a','r','e','t','i','_','t','e','s']) (by kernel_rfl) Fz];kernel_rfl
def Ml:entryFor table "set.__iter__"=some Builtin.«frozenset.__iter__»:=
 entryFor_alias (id':="frozenset.__iter__") (by kernel_rfl) rfl δ (by kernel_rfl)
def FE(h:Heap)(I S:Addr)(slot i n ep:Nat):Prop:=h.get? I=some {cls:=.type "set_iterator",dict:=none,data:=.fields #[.int slot 0,.int i 0,.ref S,.int n 0,.int ep 0],slots:=#[]}
section
variable{prog:Program}{w:World}{A:Around}{E:Ω}{s:Shared}{I S:Addr}{o:Obj}{es:Array (Int×Value)}{ep:Nat}{t:SetTable}
def FF{slot i:Nat}{Q:Option (Value×Nat)->Shared->Prop}(b:s.heap.get? S=some o)(hd:o.data=.set es ep t)(T:Tb t (es.map (·.1)))(f:w.params.followText "set-order"=true\/(t.led=true/\t.plain=true))(hb:w.params.followText "set-order"≠true->below t.place slot=i)(h:∀r,(∀e,(ord w S ep es)[i]?=some e->∃nx,r=some (e.2,nx)/\(w.params.followText "set-order"≠true->below t.place nx=i+1))->((ord w S ep es)[i]?=none->r=none)->Q r s):wpAny (model prog w) A (setNext S slot i ep) Q E s:=by
 have a:=fits_of T;have hsz:t.place.size=es.size:=by rw[T.size,AV]
 unfold setNext;refine Aa (AW b hd a ?_);dsimp only;refine Aa (m:=setsByText) ?_;unfold setsByText;refine Aa (wpAny_askSetting (Ac ?_))
 by_cases q:w.params.followText "set-order"=true
 ·show wpAny _ _ (if w.params.followText "set-order"=true then _ else _) _ _ _
  rw[if_pos q,if_neg (by simp)];refine Aa ?_;unfold setWalk;refine Aa (AW b hd a ?_);dsimp only;refine Aa (m:=setsByText) ?_;unfold setsByText;refine Aa (wpAny_askSetting (Ac ?_));show wpAny _ _ (if w.params.followText "set-order"=true then _ else _) _ _ _;rw[if_pos q];refine Aa (wpAny_askSetting ?_);refine Ac (Ac (h _ (fun e he=>?_) fun he=>?_))
  ·have he':(pickOrder (w.params.setOrder S ep) es)[i]?=some e:=by unfold ord at he;rw[if_pos q] at he;exact he
   exact⟨slot,by show Option.map _ (pickOrder (w.params.setOrder S ep) es)[i]?=_;rw[he'];rfl,fun z=>absurd q z⟩
  ·have he':(pickOrder (w.params.setOrder S ep) es)[i]?=none:=by unfold ord at he;rw[if_pos q] at he;exact he
   show Option.map _ (pickOrder (w.params.setOrder S ep) es)[i]?=_;rw[he'];rfl
 ·show wpAny _ _ (if w.params.followText "set-order"=true then _ else _) _ _ _
  rw[if_neg q];obtain⟨c,w2⟩:=f.resolve_left q;have d:ord w S ep es=es:=by unfold ord;rw[if_neg q]
  rw[d] at h;show wpAny _ _ (if(!t.plain&&decide (es.size>1))=true then _ else _) _ _ _;rw[w2];simp only[A5,Bool.false_and,Ah,if_false];show wpAny _ _ ((if(!t.led&&!es.isEmpty)=true then _ else _) >>= _) _ _ _;rw[c];simp only[A5,Bool.false_and,Ah,if_false];refine Aa (Ac ?_);rw[hb q];refine Ac (h _ (fun e he=>?_) fun he=>?_)
  ·have hi:i<t.place.size:=by rw[hsz];exact(Array.getElem?_eq_some_iff.mp he).1
   have hp:t.place[i]?=some (t.place[i]'hi):=Array.getElem?_eq_getElem hi;rw[he,hp];exact⟨(t.place[i]'hi)+1,rfl,fun _=>Mh T.ris hp⟩
  ·rw[he]
def Mm(L:A.handled=none)(q:S≠I)(hd:o.data=.set es ep t)(T:Tb t (es.map (·.1)))(F:w.params.followText "set-order"=true\/(t.led=true/\t.plain=true)):Walks prog w A I [I,S] [I] es.size (fun i v=>((ord w S ep es)[i]?).map (·.2)=some v) (fun i h=>(∃slot,FE h I S slot i es.size ep/\(w.params.followText "set-order"≠true->below t.place slot=i))/\h.get? S=some o) where
 sub:=fun b hb=>by simp at hb;simp[hb]
 frame:=fun _ _ _ st hk=>by
  obtain⟨⟨slot,a,b⟩,c⟩:=st;exact⟨⟨slot,hk I (by simp) _ a,b⟩,hk S (by simp) _ c⟩
 item:=fun i s Q E hi st l=>by
  obtain⟨hp,g,p,tk,os⟩:=s;obtain⟨⟨slot,d,hb⟩,j⟩:=st;have f:Shared.TypeIs ⟨hp,g,p,tk,os⟩ (.ref I) "set_iterator":=⟨_,d,rfl⟩;unfold pyNext;refine Aa (wpAny_attempt (AT (name:=Str.ofString "__next__") f lf (AF lf f FB ?_ (FC _))));unfold Builtin.«set_iterator.__next__»;refine Aa (Ac ?_);refine Aa (wpAny_fieldsOf d rfl ?_);dsimp only;refine Aa (wpAny_setEntries_of j hd (fits_of T) ?_);rw[if_neg (by simp)]
  try dsimp only
  refine Aa ?_;rw[Bb,Bb,Bb];have hsz:(ord w S ep es).size=es.size:=by rw[<-Ay,(B1 w S ep es).length_eq,Ay]
  have he:(ord w S ep es)[i]?=some (ord w S ep es)[i]:=getElem?_pos _ _ (by rw[hsz];exact hi);refine FF (s:=⟨hp,g,p,tk,os⟩) j hd T F hb fun r h1 _=>?_;obtain⟨nx,rfl,J⟩:=h1 _ he;dsimp only;refine Aa (wpAny_setField_rec d (by simp) fun y G u=>?_);replace u:AN I hp y:=u;refine Aa (wpAny_setField_rec G (by simp) fun C H x=>?_);replace x:AN I y C:=x;refine Ac ⟨_,rfl,Ac (l _ C tk (by rw[he];rfl) ⟨⟨nx,?_,J⟩,x.extBut _ _ q (u.extBut _ _ q j)⟩ fun b o hb e=>?_)⟩
  ·unfold FE
   have e:((i+1:Nat):Int)=(i:Int)+1:=ω
   rw[e]
   simpa[rawInt] using H
  ·have D:b≠I:=fun z=>hb (by simp[z])
   exact x.extBut b o D (u.extBut b o D e)
 done:=fun s Q E st l=>by
  obtain⟨hp,g,p,tk,os⟩:=s;obtain⟨⟨slot,d,hb⟩,j⟩:=st;have f:Shared.TypeIs ⟨hp,g,p,tk,os⟩ (.ref I) "set_iterator":=⟨_,d,rfl⟩;unfold pyNext;refine Aa (wpAny_attempt (AT (name:=Str.ofString "__next__") f lf (AF lf f FB ?_ (FC _))));unfold Builtin.«set_iterator.__next__»;refine Aa (Ac ?_);refine Aa (wpAny_fieldsOf d rfl ?_);dsimp only;refine Aa (wpAny_setEntries_of j hd (fits_of T) ?_);rw[if_neg (by simp)]
  try dsimp only
  refine Aa ?_;rw[Bb,Bb,Bb];have hsz:(ord w S ep es).size=es.size:=by rw[<-Ay,(B1 w S ep es).length_eq,Ay]
  have he:(ord w S ep es)[es.size]?=none:=Array.getElem?_eq_none ω;refine FF (s:=⟨hp,g,p,tk,os⟩) j hd T F hb fun r _ h2=>?_;obtain rfl:=h2 he;dsimp only;refine Aa (Bf d rfl (by simp) ?_);refine Aa ?_;simp only[newExc,newTuple];refine Aa (AE ?_ (by size_fits));refine Aa (m:=firstArgMember _ _) (wpAny_of_eq (a:=Value.none) (by first|rfl|(simp only[firstArgMember];rfl)) ?_);refine AE ?_ (by size_fits);simp only[raiseNew];refine Aa (wpAny_handled ?_);rw[show A.in1.handled=none from L];refine Aa (Ac (wpAny_throw ?_));refine Aa (Bg (T:="StopIteration") (b:=true) ⟨_,Ak _ rfl,rfl⟩ isSubtype_stop ?_);exact Ac (l _ tk fun b o hb e=>(((AR ..).extBut.push _).push _) b o (fun h=>hb (by simp[h])) e)
 self:=fun i s Q E st l=>by
  obtain⟨⟨slot,d,hb⟩,j⟩:=st;have f:s.TypeIs (.ref I) "set_iterator":=⟨_,d,rfl⟩;refine wpAny_pyIter_slot f FD (AF FD f Mi ?_ (Mj _));show wpAny _ _ (ret (.ref I)) _ _ s;exact Ac ⟨_,rfl,"set_iterator",_,f,lf.lookup,l⟩
def Mn{Q:Ω}(a:s.heap.get? S=some o)(hex:o.ExactSet)(hd:o.data=.set es ep t)(T:Tb t (es.map (·.1)))(d:w.params.followText "set-order"=true\/(t.led=true/\t.plain=true))(g:Q (.ref s⁻¹) {s with heap:=s.heap.push {cls:=.type "set_iterator",data:=.fields #[.int 0 0,.int 0 0,.ref S,.int es.size 0,.int ep 0]}}):wpAny (model prog w) A (pyIter (.ref S)) Q E s:=by
 have c:s.TypeIs (.ref S) "set":=⟨o,a,hex.1⟩;have b:=fits_of T;refine wpAny_pyIter_slot c PySem.F.slot_set_iter (AF PySem.F.slot_set_iter c Ml ?_ (PySem.F.args_set_iter_1 _));unfold Builtin.«frozenset.__iter__»;refine Aa (Aa (Ac (Ac ?_)));unfold Builtin.Frozenset.sizeOf;refine Aa (Aa (wpAny_setEntries_of a hd b (Ac ?_)));refine Aa ?_;unfold setDrawn;refine Aa (AW a hd b ?_);dsimp only;refine Aa (m:=setsByText) ?_;unfold setsByText;refine Aa (wpAny_askSetting (Ac ?_));show wpAny _ _ (pure (!w.params.followText "set-order" && (!t.plain&&decide (es.size>1)))) _ _ _;have f:(!w.params.followText "set-order" && (!t.plain&&decide (es.size>1)))=false:=by
  rcases d with e|⟨_,e⟩<;>rw[e]<;>simp
 rw[f];refine Ac ?_;simp only[Ah,if_false];refine Aa (Ac ?_);refine Aa (wpAny_setEpoch_of a hd b ?_);unfold newFields;refine Aa (AE (Ac ⟨_,rfl,"set_iterator",_,⟨_,Ak _ rfl,rfl⟩,lf.lookup,?_⟩) (by size_fits))
 simpa[rawInt] using g
def Mo{Q:Bool->Shared->Prop}(c:s.TypeIs (.ref S) "set")(h:Q false s):wpAny (model prog w) A (Builtin.List.listLengthHint (.ref S)) Q E s:=by
 unfold Builtin.List.listLengthHint;refine Aa (wpAny_specialOf c PySem.F.slot_set_len.lookup ?_);generalize hid:("set.__len__":String)=id0
 wp_delta
 rw[show splitId id0=some ("set","__len__") from by subst hid;decide +kernel];subst hid;refine Aa (Bg (T:="set") (b:=true) c (by rw[isSubtype_type];kernel_rfl) ?_);refine wpAny_ite_split (fun a=>absurd a ξ) (fun _=>?_);refine wpAny_ite_split (fun _=>?_) (fun a=>absurd δ a);refine Aa (wpAny_typeOf c ?_);exact Ac h
end
end STb
end
section
namespace STb
open PySem PySem.SetTable PyProof.Rows br PySem.W
section
variable{prog:Program}{w:World}{A:Around}{E:Ω}{s:Shared}{S:Addr}
def Mp{o:Obj}{es:Array (Int×Value)}{ep:Nat}{t:SetTable}(hex:o.ExactSet)(hd:o.data=.set es ep t)(T:Tb t (es.map (·.1)))(a:w.params.followText "set-order"=true\/(t.led=true/\t.plain=true)):KdlSrc prog w "set" S S es.size (fun i v=>((ord w S ep es)[i]?).map (·.2)=some v) (fun h=>h.get? S=some o) where
 type:=fun s h=>⟨o,h,hex.1⟩
 there:=fun h e=>⟨Al e,Al e⟩
 keep:=fun h h' e k=>k S (.inl rfl) _ e
 notList:=ξ
 notTuple:=ξ
 hint:=fun A E s Q h q=>Mo ⟨o,h,hex.1⟩ q
 iter:=fun A s b h=>⟨_,_,fun E Q q=>Mn h hex hd T a q,Mm (o:=o) b (Aq (Al h)) hd T a,⟨⟨0,Ak _ rfl,fun _=>Mg T.ris⟩,Ae _ h⟩⟩
def FG{T:String}{r d:Addr}{n:Nat}{P:Nat->Value->Prop}{j:Heap->Prop}{R:List Value->Shared->Prop}(K:KdlSrc prog w T r d n P j)(p:A.handled=none)(i:j s.heap)(u:n<=sizeLine)(h:∀(h':Heap)(tk:Nat)(acc:Array Value),s⁻¹<=h'.objs.size->(∀b o,s.heap.get? b=some o->h'.get? b=some o)->ItemsOf P acc n->R acc.toList {s with heap:=h',toks:=tk}):wpAny (model prog w) A (collect (.ref r)) R E s:=by
 obtain⟨hr,hd⟩:=K.there _ i;unfold collect;refine Aa (wpAny_runValue (A0 entry_proto_collect' ?_));rw[AZ PySem.F.plain_proto_collect _];show wpAny _ A.in1 (do again (.builtin "list.__iadd__" ⟨[<-newList [],.ref r],[]⟩)) _ _ s;refine Aa (AE (Ac ⟨plainId_quiet PySem.F.plain_list_iadd _,A0 entry_list_iadd' ?_⟩));rw[AZ PySem.F.plain_list_iadd _];show wpAny _ A.in1 (Builtin.List.listExtendWith (.ref s⁻¹) (.ref r) (.ref s⁻¹)) _ _ _;have fin:∀(h':Heap)(tk:Nat)(acc:Array Value)(c:Nat),(∀b o,s.heap.get? b=some o->h'.get? b=some o)->h'.get? s⁻¹=some {cls:=.type "list",dict:=none,data:=.seq acc c,slots:=#[]}->ItemsOf P acc n->
   wpAny (model prog w) A (do match (<-load s⁻¹).data with
    |.seq xs _=>pure xs.toList
    |_=>unsupported "internal:collect") R E {s with heap:=h',toks:=tk}:=fun h' tk acc c hk a g=>Aa (wpAny_load a (Ac (h h' tk acc (Nat.le_of_lt (Al a)) hk g)))
 refine wpAny_mono (kdl_extend (A:=A) (s:={s with heap:=s.heap.push {cls:=.type "list",data:=.seq ([]:List Value).toArray}})
  (R:=fun q s'=>∃h' tk acc c,q=Except.ok (Flow.ret (.ref s⁻¹))/\s'={s with heap:=h',toks:=tk}/\(∀b o,s.heap.get? b=some o->h'.get? b=some o)/\h'.get? s⁻¹=some {cls:=.type "list",dict:=none,data:=.seq acc c,slots:=#[]}/\ItemsOf P acc n)
  K p (K.keep _ _ i fun b _ o e=>Ae _ e) s⁻¹ (Nat.ne_of_gt hr) (Nat.ne_of_gt hd) (.ref s⁻¹) 0 (Ak _ rfl)
  (fun h' tk acc c hk a g=>⟨h',tk,acc,c,rfl,rfl,fun b o e=>hk b o (Aq (Al e)) (Ae _ e),a,g⟩) u) (fun f s' x=>?_) fun e s' x=>?_
 ·cases f with
  |done f=>
   obtain⟨h',tk,acc,c,e,rfl,hk,a,g⟩:=x;cases e;exact fin h' tk acc c hk a g
  |again c₁=>
   refine⟨x.1,codeAny_mono x.2 fun q v y=>?_⟩;obtain⟨h',tk,acc,c,rfl,rfl,hk,a,g⟩:=y;exact fin h' tk acc c hk a g
 ·obtain⟨_,_,_,_,l,_⟩:=x
  cases l
def Mq{ns:List Int}{Q:Ω}(F:A.handled=none)(X:SI prog w s.heap S ns)(h:∀(D:Addr)(h':Heap)(tk e:Nat)(p:List Value)(ms:List Int)(out:Array Value),s⁻¹<=D->(∀b o,s.heap.get? b=some o->h'.get? b=some o)->h'.get? D=some (seqObj "list" out e)->IntsAre p ms->ms.Perm ns->Out (ms.map fun n=>[n]) p out.toList->Q (.ref D) {s with heap:=h',toks:=tk}):wpAny (model prog w) A (call (.builtin "sorted") [.ref S]) Q E s:=by
 obtain⟨o,es,ep,t,x,hex,hd,T,y,hp,G,mk,z⟩:=id X;have H:es.size<=18:=by rcases mk with ⟨_,b⟩|⟨_,b⟩<;>omega
 refine Calls.call_function_entry kind_sorted plain_sorted entry_sorted (args_sorted1 _) ?_;unfold Builtin.«sorted»;refine Aa (m:=checkCount "sorted" 1 1 _) (Ac ?_);refine Aa (FG (A:=A.in1) (Mp (prog:=prog) (S:=S) hex hd T z) F x (by rw[sizeLine_eq];omega) fun h' tk acc r hk f=>?_);have g:=B1 w S ep es;have hsz:(ord w S ep es).toList.length=es.size:=by rw[g.length_eq,Ay]
 have C:acc.toList=(ord w S ep es).toList.map (·.2):=by
  apply List.ext_getElem?;intro j;rw[Aj,AD,AD];cases q:acc[j]? with
  |none=>
   have:es.size<=j:=by rw[<-f.1];exact Array.getElem?_eq_none_iff.mp q
   rw[Array.getElem?_eq_none (by rw[<-Ay,hsz];exact this)]
   rfl
  |some v=>exact(f.2 j v q).symm
 have a:ElemsOf (intKind prog w) (ord w S ep es).toList:=y.perm g;have hi:IntsAre acc.toList ((ord w S ep es).toList.map fun e=>iv e.2):=by
  rw[C];generalize (ord w S ep es).toList=l at a
  induction l with
  |nil=>exact .nil
  |cons e l ih=>
   obtain⟨n,t',e1⟩:=Fx a Av;subst e1;exact .cons n t' (ih a.tail)
 have d:((ord w S ep es).toList.map fun e=>iv e.2).Perm ns:=(g.map _).trans hp;generalize ((ord w S ep es).toList.map fun e=>iv e.2)=ms at hi d;have i:acc.toList.length=es.size:=by rw[Ay];exact f.1
 refine Aa (wpAny_newList ?_ (by rw[i,sizeLine_eq];omega));have c:(h'.push (seqObj "list" acc.toList.toArray 0)).get? h'.objs.size=some (seqObj "list" acc.toList.toArray 0):=Ak _ rfl;refine Aa (AA (AF slot_list_sort ⟨_,c,rfl⟩ entry_list_sort (wg (s:={s with heap:=h'.push (seqObj "list" acc.toList.toArray 0),toks:=tk}) (good:=fun _=>True) c (wf hi) (fun _ _=>trivial) (by rw[i,sizeLine_eq];omega) ω fun out u=>⟨_,rfl,?_⟩) (args_list_sort _)));obtain⟨e,he⟩:=sortedHeap_at (out:=out) c;refine Ac ⟨_,rfl,h h'.objs.size _ tk e acc.toList ms out r (fun b o e=>?_) he hi d u⟩;have hb:b<h'.objs.size:=Al (hk b o e);rw[sortedHeap_old (Aq hb) (by rw[size_push'];exact Ba hb)];exact Ae _ (hk b o e)
end
end STb
namespace L2
open PySem PySem.Spec PyProof.Rows
section
variable{X:Cx}
def FH{ns:List Int}{a:List Value}{out:List Value}(hi:IntsAre a ns)(c:br.Out (ns.map fun n=>[n]) a out):∃ms:List Int,Vals (ms.map V.int) out/\ms.Perm ns/\ms.Pairwise (·<=·):=by
 obtain⟨ps,hp,c,hs⟩:=c;have d:a.length=ns.length:=hi.length;have all:∀p∈ps,∃n t,p.1=[n]/\p.2=Value.int n t:=fun p f=>by
  obtain⟨i,e⟩:=List.mem_iff_getElem?.mp (hp.mem_iff.mp f);rw[br.bN,Aj] at e;cases e1:ns[i]? with
  |none=>rw[e1] at e;simp at e
  |some n=>
   obtain⟨t,e2⟩:=hi.get i n e1;rw[e1,e2] at e;simp only[A1,Option.bind_some,A9] at e;subst e;exact⟨n,t,rfl,rfl⟩
 have g:∀ps:List (List Int×Value),(∀p∈ps,∃n t,p.1=[n]/\p.2=Value.int n t)->Vals ((ps.map fun p=>p.1.headD 0).map V.int) (ps.map (·.2)):=by
  intro ps
  induction ps with
  |nil=>intro _;exact .nil
  |cons p ps ih=>
   intro h;obtain⟨n,t,e1,e2⟩:=h p Av;refine .cons ?_ (ih fun q hq=>h q (Ax _ hq));show RelV (V.int (p.1.headD 0)) p.2;rw[e1,e2];exact⟨t,rfl⟩
 refine⟨ps.map fun p=>p.1.headD 0,by rw[c];exact g ps all,?_,?_⟩
 ·have h1:=hp.map (fun p:List Int×Value=>p.1.headD 0)
  have e:((ns.map fun n=>[n]).zip a).map (fun p:List Int×Value=>p.1.headD 0)=ns:=by
   rw[show(fun p:List Int×Value=>p.1.headD 0)=(fun l:List Int=>l.headD 0) ∘ Prod.fst from rfl,<-As,List.map_fst_zip (by rw[Ab];lia),As];exact List.map_id' ns
  rw[e] at h1;exact h1
 ·rw[Bi]
  refine hs.imp_of_mem fun{p q} h1 h2 b=>?_;obtain⟨n,t,e1,_⟩:=all p h1;obtain⟨m,t',e2,_⟩:=all q h2;rw[e1,e2,HT.zI] at b;rw[e1,e2];show n<=m
  by_cases e:m=n
  ·lia
  ·rw[if_neg e] at b
   have:=of_decide_eq_false b
   lia
def FI(hc:X.calm=true):z0 X (.builtin "sorted") (fun xs H Q=>∃(S:Addr)(ns:List Int),xs=[.ref S]/\H S=some (du X.prog X.w S ns)/\∀(D:Addr)(ms:List Int),ms.Perm ns->ms.Pairwise (·<=·)->H D=none->Q (.ref D) (upd H D (.lst (ms.map V.int)))):=by
 intro aa s σ H xs us Q I r h;obtain⟨S,ns,rfl,hq,q⟩:=h;obtain⟨u,rfl,i⟩:=vals1 r;cases i;have d:=Fy I hq;refine STb.Mq (I.ok.hd hc) d fun D h' tk e x ms out a f he hi hp g=>?_;obtain⟨ks,j,c,l⟩:=FH hi g;have v:ks.length<=sizeLine:=by
  obtain⟨o,es,ep,t,_,_,_,_,_,p,_,mk,_⟩:=d;have hk:ks.length=es.size:=by simpa using c.length_eq.trans (hp.length_eq.trans p.length_eq.symm)
  rw[sizeLine_eq,hk];rcases mk with ⟨_,b⟩|⟨_,b⟩<;>omega
 refine⟨.ref D,_,I.laid (o:=.lst (ks.map V.int)) (fun b u e=>f b u e) a (show zC X.prog X.w _ _ _ (.lst (ks.map V.int)) from⟨by rw[Ab];exact v,out.toList,e,j,by simpa using he⟩),rfl,q _ _ (c.trans hp) l (I.hok.fresh a)⟩
end
end L2
end
section
namespace STb
open PySem PySem.SetTable PyProof.Rows br PySem.W
section
variable{prog:Program}{w:World}{A:Around}{E:Ω}{s:Shared}
def Mr{T:String}{r d:Addr}{n:Nat}{P:Nat->Value->Prop}{j:Heap->Prop}{ns:List Int}{Q:Ω}(K:KdlSrc prog w T r d n P j)(q:A.handled=none)(c:j s.heap)(u:n<64)(hi:∀acc:Array Value,ItemsOf P acc n->IntsAre acc.toList ns)(h:∀(D:Addr)(h':Heap)(tk e:Nat)(i:List Value)(out:Array Value),s⁻¹<=D->(∀b o,s.heap.get? b=some o->h'.get? b=some o)->h'.get? D=some (seqObj "list" out e)->IntsAre i ns->Out (ns.map fun n=>[n]) i out.toList->Q (.ref D) {s with heap:=h',toks:=tk}):wpAny (model prog w) A (call (.builtin "sorted") [.ref r]) Q E s:=by
 refine Calls.call_function_entry kind_sorted plain_sorted entry_sorted (args_sorted1 _) ?_;unfold Builtin.«sorted»;refine Aa (m:=checkCount "sorted" 1 1 _) (Ac ?_);refine Aa (FG (A:=A.in1) K q c (by rw[sizeLine_eq];omega) fun h' tk acc l hk f=>?_);have hi:=hi acc f;have g:acc.toList.length=n:=by rw[Ay];exact f.1
 refine Aa (wpAny_newList ?_ (by rw[g,sizeLine_eq];omega));have a:(h'.push (seqObj "list" acc.toList.toArray 0)).get? h'.objs.size=some (seqObj "list" acc.toList.toArray 0):=Ak _ rfl;refine Aa (AA (AF slot_list_sort ⟨_,a,rfl⟩ entry_list_sort (wg (s:={s with heap:=h'.push (seqObj "list" acc.toList.toArray 0),toks:=tk}) (good:=fun _=>True) a (wf hi) (fun _ _=>trivial) (by rw[g,sizeLine_eq];omega) ω fun out p=>⟨_,rfl,?_⟩) (args_list_sort _)));obtain⟨e,he⟩:=sortedHeap_at (out:=out) a;refine Ac ⟨_,rfl,h h'.objs.size _ tk e acc.toList out l (fun b o e=>?_) he hi p⟩;have hb:b<h'.objs.size:=Al (hk b o e);rw[sortedHeap_old (Aq hb) (by rw[size_push'];exact Ba hb)];exact Ae _ (hk b o e)
end
end STb
namespace L2
open PySem PySem.Spec PyProof.Rows
section
variable{X:Cx}
abbrev dZ(ps:List (Int×V)):HO:=.dK (ps.map fun p=>(Sum.inl p.1,p.2))
def ints_of{ps:List (Int×V)}:∀{m:List (Key×Value)}{as:List Value},KV (ps.map fun p=>((Sum.inl p.1:Key),p.2)) m->as.length=m.length->(∀(i:Nat) v,as[i]?=some v->∃k x,m[i]?=some (k,x)/\(zw X.prog X.w).is k v=true)->IntsAre as (ps.map (·.1)):=by
 induction ps with
 |nil=>
  intro m as q h1 _;cases q;cases as with
  |nil=>exact .nil
  |cons _ _=>simp at h1
 |cons p ps ih=>
  intro m as q h1 h2;cases q with
  |@cons _ q' _ qs hq t=>
   cases as with
   |nil=>simp at h1
   |cons v as=>
    obtain⟨k,x,g1,g2⟩:=h2 0 v rfl;simp only[List.getElem?_cons_zero,A9] at g1;have hk:(Sum.inl p.1:Key)=k:=by rw[g1] at hq;exact hq.1
    subst hk;obtain⟨t',e2⟩:∃t',v=Value.int p.1 t':=wC g2;subst e2;exact .cons _ _ (ih t (by simpa using h1) fun i v e=>by simpa using h2 (i+1) v (by simpa using e))
def Ms(hc:X.calm=true):z0 X (.builtin "sorted") (fun xs H Q=>∃a ps,xs=[.ref a]/\H a=some (dZ ps)/\ps.length<64/\∀(D:Addr)(ms:List Int),ms.Perm (ps.map (·.1))->ms.Pairwise (·<=·)->H D=none->Q (.ref D) (upd H D (.lst (ms.map V.int)))):=by
 intro aa s σ H xs us Q I r h;obtain⟨a,ps,rfl,hq,C,q⟩:=h;obtain⟨u,rfl,l⟩:=vals1 r;cases l;obtain⟨z,y,vs,c,dd⟩:=p_ I.hok hq;obtain⟨ep,dd⟩:=dd.dictAt;have E:ps.length=vs.length:=by simpa using c.length
 refine STb.Mr (ns:=ps.map (·.1)) (PySem.W.kdl_dict (knd:=zw X.prog X.w) (kvs:=vs) (ep:=ep) y) (I.ok.hd hc) dd ω (fun acc it=>ints_of (X:=X) c (by simpa using it.1) fun i v e=>it.2 i v (by simpa using e)) fun D h' tk e A out d g he hi j=>?_;obtain⟨ks,p,f,x⟩:=FH hi j;have hk:ks.length=ps.length:=by simpa using f.length_eq
 refine⟨.ref D,_,I.laid (o:=.lst (ks.map V.int)) (fun b u e=>g b u e) d (show zC X.prog X.w _ _ _ (.lst (ks.map V.int)) from⟨by rw[Ab,sizeLine_eq];omega,out.toList,e,p,by simpa using he⟩),rfl,q _ _ f x (I.hok.fresh d)⟩
end
end L2
end
section
namespace L2
open PySem PySem.Spec PyProof.Rows
def FJ{P p:Program}{w j:World}{h:Heap}{a:Addr}{vs:List (Key×Value)}(d:h.DictOf (zw P w) a vs)(hk:∀kv∈vs,∃i:Int,kv.1=Sum.inl i):h.DictOf (zw p j) a vs:=by
 obtain⟨o,es,ep,h1,h2,r,s,b,u⟩:=d;have A:∀{l:List DictEntry}{m:List (Key×Value)},Pairs (zw P w) l m->Pairs (zw p j) l m:=by
  intro l m q
  induction q with
  |nil=>exact .nil
  |cons g1 g2 _ ih=>exact .cons g1 g2 ih
 refine⟨o,es,ep,h1,h2,r,fun e he=>?_,A b,u⟩;obtain⟨k,c,x⟩:=s e he;obtain⟨i,f⟩:=List.mem_iff_getElem?.mp (Array.mem_toList_iff.mpr he);have g:i<vs.length:=by
  have:=(List.getElem?_eq_some_iff.mp f).1;rw[b.length] at this;exact this
 obtain⟨g1,_⟩:=b.get? (i:=i) (e:=e) (k:=vs[i].1) (v:=vs[i].2) f (Af g);obtain⟨z,y⟩:=hk vs[i] (A3 g);obtain rfl:k=vs[i].1:=(zw P w).inj _ _ _ c g1;refine⟨vs[i].1,c,?_⟩;rw[x,y]
 rfl
def B2{ps:List (Int×V)}{vs:List (Key×Value)}(a:KV (ps.map fun p=>((Sum.inl p.1:Key),p.2)) vs):∀kv∈vs,∃i:Int,kv.1=Sum.inl i:=by
 induction ps generalizing vs with
 |nil=>cases a;exact fun kv h=>nomatch h
 |cons p ps ih=>
  cases a with
  |cons hq t=>
   intro kv hkv;rcases List.mem_cons.mp hkv with rfl|hkv
   ·exact⟨p.1,hq.1.symm⟩
   ·exact ih t kv hkv
def FK{K:Type}[DecidableEq K]{A:Around}{s:Shared}{a:List (K×Value)}:∀{l:List (K×Value)},(∀kv∈l,∃y,valueAt a kv.1=some y/\SeqAt.EqAt A s kv.2 y true)->PySem.W.KeqHits A s a l true
 |[],_=>.nil
 |(k,v)::r,h=>by
  obtain⟨y,h1,h2⟩:=h (k,v) Av;exact PySem.W.KeqHits.hit (e:=true) (b:=true) h1 h2 (FK fun kv hkv=>h kv (Ax _ hkv))
def Mt{ns:List (Int×Int)}{k:Key}{x:V}(e:bI ((ns.map fun p=>(p.1,V.int p.2)).map fun p=>((Sum.inl p.1:Key),p.2)) k=some x):∃n,x=V.int n:=by
 induction ns with
 |nil=>exact nomatch e
 |cons p ns ih=>
  by_cases g:(Sum.inl p.1:Key)=k
  ·rw[Ar,Ar,mm g] at e
   exact⟨p.2,(An e).symm⟩
  ·rw[Ar,Ar,mu g] at e
   exact ih e
def B3{P:Program}{w:World}{A:Around}{H:Hp}{s:Shared}{a b:Addr}{ns:List (Int×Int)}(ok:HOk P w H s.heap)(F:Rd H a (dZ (ns.map fun p=>(p.1,V.int p.2))))(hb:Rd H b (dZ (ns.map fun p=>(p.1,V.int p.2)))):(a==A2)=false/\(b==A2)=false/\∃c e,(∀g d,s.heap.DictOf (zw g d) a c)/\(∀g d,s.heap.DictOf (zw g d) b e)/\c.length=e.length/\PySem.W.KeqHits A s e c true:=by
 obtain⟨_,q,c,h,l⟩:=i6 ok F;obtain⟨_,r,e,j,u⟩:=i6 ok hb;refine⟨q,r,c,e,fun g d=>FJ l (B2 h),fun g d=>FJ u (B2 j),?_,FK fun kv hkv=>?_⟩
 ·have h1:=h.length
  have h2:=j.length;omega
 obtain⟨i,v⟩:=List.mem_iff_getElem?.mp hkv;obtain⟨_,_,_,_,_,_,_,_,z⟩:=l;have e1:valueAt c kv.1=some kv.2:=valueAt_of_get z (i:=i) v;have f:=h.val kv.1;have o:=j.val kv.1;rw[e1] at f;cases ex:bI ((ns.map fun p=>(p.1,V.int p.2)).map fun p=>((Sum.inl p.1:Key),p.2)) kv.1 with
 |none=>rw[ex] at f;exact(show False from f).elim
 |some x=>
  rw[ex] at f o;obtain⟨n,rfl⟩:=Mt ex;obtain⟨y,e2,C⟩:=o.some_of;obtain⟨t,D⟩:=(show ∃t,kv.2=Value.int n t from f);obtain⟨t',E⟩:=(show ∃t,y=Value.int n t from C);refine⟨y,e2,?_⟩;rw[D,E];have:=SeqAt.EqAt.int_int (A:=A) (s:=s) n t n t'
  simpa using this
def Mu{P:Program}{w:World}{A:Around}{H:Hp}{s:Shared}{a b:Addr}{ns:List (Int×Int)}(hu:A.units+64<cLine)(ok:HOk P w H s.heap)(o:Rd H a (dZ (ns.map fun p=>(p.1,V.int p.2))))(hb:Rd H b (dZ (ns.map fun p=>(p.1,V.int p.2)))):SeqAt.EqAt A s (.ref a) (.ref b) true:=by
 intro prog d E Q h;obtain⟨e,f,q,r,g,i,j,l⟩:=B3 (A:=A.in1) ok o hb;unfold eqBool
 try with_reducible refine AA ?_
 show wpAny _ _ (if(Value.ref a==Value.ref b)=true then _ else _) Q E s
 by_cases c:(Value.ref a==Value.ref b)=true
 ·rw[if_pos c]
  exact Aa (wpAny_rule (Ac h))
 ·rw[if_neg c]
  refine Aa (PySem.W.keq_eq e f (g prog d) (i prog d) ω (fun _=>l) ?_);rw[j,beq_self_eq_true,Bool.true_and];exact wpAny_truthy_bool h
section
variable{X:Cx}
def Mv(hu:X.A.units+64<cLine):ci X (compareOp .Eq) (fun x y H Q=>∃(a b:Addr)(ns:List (Int×Int)),x=.ref a/\y=.ref b/\Rd H a (dZ (ns.map fun p=>(p.1,V.int p.2)))/\Rd H b (dZ (ns.map fun p=>(p.1,V.int p.2)))/\Q (.bl true) H):=by
 intro aa s σ H x y v u Q I c d h;obtain⟨a,b,ns,rfl,rfl,e,hb,q⟩:=h;cases c;cases d;obtain⟨f,g,r,z,i,j,l,o⟩:=B3 (A:=X.A.in1) I.hok e hb;refine PySem.W.keq_eq f g (i X.prog X.w) (j X.prog X.w) ω (fun _=>o) ⟨.bl true,H,I,?_,q⟩;rw[l,beq_self_eq_true]
 rfl
def Mw(hu:X.A.units+64<cLine):ci X (compareOp .NotEq) (fun x y H Q=>∃(a b:Addr)(ns:List (Int×Int)),x=.ref a/\y=.ref b/\Rd H a (dZ (ns.map fun p=>(p.1,V.int p.2)))/\Rd H b (dZ (ns.map fun p=>(p.1,V.int p.2)))/\Q (.bl false) H):=by
 intro aa s σ H x y v u Q I c d h;obtain⟨a,b,ns,rfl,rfl,e,hb,q⟩:=h;cases c;cases d;obtain⟨f,g,r,z,i,j,l,o⟩:=B3 (A:=X.A.in1) I.hok e hb;refine PySem.W.keq_ne f g (i X.prog X.w) (j X.prog X.w) ω (fun _=>o) ⟨.bl false,H,I,?_,q⟩;rw[l,beq_self_eq_true]
 rfl
end
inductive SV(K:Ad)(H:Hp):V->V->Prop where
 |lt {l m:Addr} {as bs:List Addr} {pss:Ξ} (hl:SqL K H l (as.map V.ref)) (hp:Tps H as pss) (hm:SqL K H m (bs.map V.ref)) (hq:Tps H bs pss):SV K H (.ref l) (.ref m)
 |dz {a b:Addr} {ns:List (Int×Int)} (ha:Rd H a (dZ (ns.map fun p=>(p.1,V.int p.2)))) (hb:Rd H b (dZ (ns.map fun p=>(p.1,V.int p.2)))):SV K H (.ref a) (.ref b)
 |dt {a b:Addr} {kvs:List (List Key×V)} {pss:Ξ} {ns:List Int} (ha:Rd H a (.dT kvs)) (hb:Rd H b (.dT kvs)) (hp:kvs.map (·.1)=pss.map (·.map Sum.inl)) (hv:kvs.map (·.2)=ns.map V.int):SV K H (.ref a) (.ref b)
section
variable{X:Cx}
def SV.eqAt{aa:Ψ}{σ:St}{H:Hp}{s:Shared}{x y:V}{u v:Value}(hu:X.A.units+128<cLine)(I:Inv X aa σ H s)(h:SV X.K H x y)(a:RelV x u)(b:RelV y v):SeqAt.EqAt X.A.in1 s u v true:=by
 cases h with
 |@lt l m as bs pss hl hp hm hq=>
  cases a;cases b;have hs:=xg pss;have:=SeqAt.eqAt_reads _ _ X.A.in1 s _ _ _ _ (qw I hl hp) (qw I hm hq) (SeqAt.canLay_of_shaped hs) (SeqAt.canLay_of_shaped hs) (SeqAt.room_of_shaped hs (by show X.A.units+1+64<cLine;omega));rw[<-SeqAt.same_eq_eqv _ _ (SeqAt.noMix_of_shape (.list (.tuples .int)) rfl _ _ (qx _) (qx _)),show same (.list (pss.map fun ps=>PyData.tuple (ps.map Be))) (.list (pss.map fun ps=>PyData.tuple (ps.map Be)))=true from by unfold same;rw[xi pss pss];exact decide_eq_true rfl] at this;exact this
 |dz ha hb=>
  cases a;cases b;exact Mu (by show X.A.units+1+64<cLine;omega) I.hok ha hb
 |dt ha hb hp hv=>
  cases a;cases b;exact Ku (by show X.A.units+1+64<cLine;omega) I.hok ha hb hp hv
def Mx{aa:Ψ}{σ:St}{H:Hp}{s:Shared}(hu:X.A.units+128<cLine)(I:Inv X aa σ H s):∀{xs ys:List V}{us vs:List Value},Paired (SV X.K H) xs ys->Vals xs us->Vals ys vs->us.length=vs.length/\∀(j:Nat)(h1:j<us.length)(h2:j<vs.length),SeqAt.EqAt X.A.in1 s us[j] vs[j] true:=by
 intro xs ys us vs z
 induction z generalizing us vs with
 |nil=>intro a b;cases a;cases b;exact⟨rfl,fun j h=>absurd h (Nat.not_lt_zero j)⟩
 |cons hh t ih=>
  intro a b;cases a with
  |cons ra ta=>
   cases b with
   |cons rb tb=>
    obtain⟨g1,g2⟩:=ih ta tb;refine⟨by rw[Au,Au,g1],fun j h1 h2=>?_⟩;cases j with
    |zero=>exact hh.eqAt hu I ra rb
    |succ j=>exact g2 j (by simpa using h1) (by simpa using h2)
def Mz(hu:X.A.units+128<cLine):ci X (compareOp .NotEq) (fun x y H Q=>∃(L M:Addr)(xs ys:List V),x=.ref L/\y=.ref M/\SqL X.K H L xs/\SqL X.K H M ys/\Paired (SV X.K H) xs ys/\Q (.bl false) H):=by
 intro aa s σ H x y v u Q I a b h;obtain⟨L,M,xs,ys,rfl,rfl,c,d,hp,q⟩:=h;cases a;cases b;obtain⟨i,f,p1,_⟩:=I.list c;obtain⟨l,g,p2,_⟩:=I.list d;obtain⟨g1,g2⟩:=Mx hu I hp f g;refine SeqAt.RcNeAt.lists (e:=fun _=>true) p1.isList p2.isList (by simpa using g1) ω (fun j h1 h2=>?_) X.prog X.w X.xe _ ⟨.bl _,H,I,rfl,?_⟩
 ·simpa using g2 j (by simpa using h1) (by simpa using h2)
 ·rw[List.all_eq_true.mpr (fun _ _=>rfl)];exact q
end
end L2
end
section
namespace DKp
open PySem PyProof.Rows DCp DPr
section
variable{prog:Program}{w:World}{A:Around}{E:Ω}{s:Shared}{K:Type}[DecidableEq K]{knd:KeyKind prog w K}
abbrev Pk(K:Type):Type:=Addr×K×Value×Value
def li(knd:KeyKind prog w K)(h:Heap)(x:Pk K):Prop:=h.IsTuple x.1 #[x.2.2.1,x.2.2.2]/\knd.is x.2.1 x.2.2.1=true
def rK(xs:List (K×Value))(ts:List (Pk K)):List (K×Value):=ts.foldl (fun acc x=>stored acc x.2.1 x.2.2.2) xs
def FM{h h':Heap}{x:Pk K}{D I:Addr}(g:li knd h x)(s:∃o,h.get? D=some o/\o.cls=.type "dict")(u:∃o,h.get? I=some o/\o.cls=.type "list_iterator")(v:∀b o,b≠D->b≠I->h.get? b=some o->h'.get? b=some o):li knd h' x:=by
 obtain⟨⟨f,e1,e,i⟩,j⟩:=g;obtain⟨w,l,p⟩:=s;obtain⟨y,q,r⟩:=u;have ne:∀{a:Addr}{d:Obj},h.get? a=some d->d.cls=.type "tuple"->a≠D/\a≠I:=fun{a d} c ca=>by
  refine⟨fun z=>?_,fun z=>?_⟩
  ·rw[z,l] at c
   rw[<-An c,p] at ca;exact absurd ca ξ
  ·rw[z,q] at c
   rw[<-An c,r] at ca;exact absurd ca ξ
 exact⟨⟨f,v _ _ (ne e1 e).1 (ne e1 e).2 e1,e,i⟩,j⟩
def FN{h h':Heap}{D I:Addr}{xs:List (K×Value)}(d:h.DictOf knd D xs)(a:D≠I)(e:∀b o,b≠I->h.get? b=some o->h'.get? b=some o):h'.DictOf knd D xs:=by
 obtain⟨o,es,ep,c,r⟩:=d;exact⟨o,es,ep,e _ _ a c,r⟩
def MA{h h':Heap}{D:Addr}{xs:List (K×Value)}(d:h.DictOf knd D xs)(b:∀o,h.get? D=some o->h'.get? D=some o):h'.DictOf knd D xs:=by
 obtain⟨o,es,ep,a,r⟩:=d;exact⟨o,es,ep,b _ a,r⟩
def MB(xs:List (K×Value))(k:K)(v:Value):(stored xs k v).length<=xs.length+1:=by
 unfold stored;split
 ·rw[Ab];omega
 ·rw[Aw];simp
def ry{D I L:Addr}{ts:List (Pk K)}{R:Result->Shared->Prop}(u:A.handled=none)(hu:A.units+1<cLine)(h:D≠I)(F:L≠D)(y:L≠I):∀(k j:Nat)(s:Shared)(xs:List (K×Value)),ts.length-j=k->j<=ts.length->s.heap.IsListIter I L j->s.heap.IsList L (ts.map fun x=>Value.ref x.1).toArray->(∀x∈ts,li knd s.heap x)->
   s.heap.DictOf knd D xs->xs.length+k<=sizeLine->
   (∀h' tk,h'.DictOf knd D (rK xs (ts.drop j))->(∀b o,b≠D->b≠I->s.heap.get? b=some o->h'.get? b=some o)->R (.ok (.ret .none)) {s with heap:=h',toks:=tk})->
   codeAny (model prog w) A (lp D I j) R s
 |0,j,s,xs,hk,hj,ap,hl,hg,hd,hz,hQ=>by
  have Q:j=ts.length:=ω
  subst Q;have W:=Walks.list (prog:=prog) (w:=w) (A:=A.in1) u I L y (ts.map fun x=>Value.ref x.1).toArray;refine A0 rx ?_;rw[AZ j0 _];unfold Builtin.«dict.update.loop»;dsimp only[rawInt];refine Aa (W.done s _ _ ⟨by simpa using ap,hl⟩ fun h' tk c=>?_);dsimp only;unfold Builtin.Dict.addKeywords;refine Aa (wpAny_of_eq (a:=()) rfl ?_);obtain⟨l,p,q,_⟩:=ap;refine Ac (hQ h' tk ?_ fun b o _ hb e=>c b o (by simpa using hb) e);rw[List.drop_length];exact FN hd h fun b o hb e=>c b o (by simpa using hb) e
 |k+1,j,s,xs,hk,hj,ap,hl,hg,hd,hz,hQ=>by
  have W:=Walks.list (prog:=prog) (w:=w) (A:=A.in1) u I L y (ts.map fun x=>Value.ref x.1).toArray;have d:j<ts.length:=ω
  refine A0 rx ?_;rw[AZ j0 _];unfold Builtin.«dict.update.loop»;dsimp only[rawInt];refine Aa (W.item j s _ _ (by simpa using d) ⟨ap,hl⟩ fun v h1 tk G z c=>?_);have S:v=.ref (ts[j]).1:=by
   have:(ts.map fun x=>Value.ref x.1).toArray[j]?=some (Value.ref (ts[j]).1):=by simp[d]
   exact An (G.symm.trans this)
  subst S;have X:=hg ts[j] (A3 d);obtain⟨l,p,q,_⟩:=id ap;have C:∃o,s.heap.get? D=some o/\o.cls=.type "dict":=by
   obtain⟨o,es,ep,N,hc,_⟩:=hd;exact⟨o,N,hc.1⟩
  have f:∀b o,b≠D->b≠I->s.heap.get? b=some o->h1.get? b=some o:=fun b o _ hb e=>c b o (by simpa using hb) e;have T:∀x∈ts,li knd h1 x:=fun x hx=>FM (hg x hx) C ⟨l,p,q⟩ f;have U:h1.DictOf knd D xs:=FN hd h fun b o hb e=>c b o (by simpa using hb) e;obtain⟨O,P⟩:=T ts[j] (A3 d);dsimp only;refine Aa (AA (Aa (wpAny_tryCatch (pair_items (s:={s with heap:=h1,toks:=tk}) O ?_))));dsimp only;refine AA (wpAny_dictSet_pairs (knd:=knd) (s:={s with heap:=h1,toks:=tk}) (hsz:=by omega) P U fun h2 H i=>?_);have E:∀b o,b≠D->b≠I->s.heap.get? b=some o->h2.get? b=some o:=fun b o hb hi e=>by rw[i.2 b hb];exact f b o hb hi e
  have g:h2.IsListIter I L (j+1):=z.1.at fun o e=>by rw[i.2 I (Ne.symm h)];exact e
  have r:h2.IsList L (ts.map fun x=>Value.ref x.1).toArray:=z.2.at fun o e=>by rw[i.2 L F];exact e
  refine Ac ⟨plainId_quiet j0 _,?_⟩;refine ry u hu h F y k (j+1) {s with heap:=h2,toks:=_} _ ω ω g r (fun x hx=>FM (hg x hx) C ⟨l,p,q⟩ E) H (by have:=MB xs (ts[j]).2.1 (ts[j]).2.2.2;omega) fun h' J M k3=>hQ h' J ?_ fun b o hb hi e=>k3 b o hb hi (E b o hb hi e);rw[List.drop_eq_getElem_cons d];exact M
def zH{L:Addr}{o:Obj}{n:Nat}{ts:List (Pk K)}{Q:Ω}(C:A.handled=none)(hu:A.units+2<cLine)(G:s.heap.get? L=some o)(hc:o.cls=.type "list")(H:o.data=.seq (ts.map fun x=>Value.ref x.1).toArray n)(U:o.dict=none)(W:∀x∈ts,li knd s.heap x)(X:ts.length<=sizeLine)(h:∀h' tk,h'.DictOf knd s⁻¹ (rK [] ts)->(∀b o,b<s⁻¹->s.heap.get? b=some o->h'.get? b=some o)->Q (.ref s⁻¹) {s with heap:=h',toks:=tk}):wpAny (model prog w) A (call (.type "dict") [.ref L]) Q E s:=by
 obtain⟨c,tl,Y⟩:=zQ.mro;have Z:=zQ.made;have aJ:=zQ.sub;refine wpAny_call (codeAny_of_tree ?_);show wpAny _ _ (callAny (.type "dict") _) _ _ _;refine Ac ⟨Code.quiet_builtin _ δ,A0 F.entry_type_call ?_⟩;rw[Around.under_plain (weight_type_call_type "dict" [.ref L] []) rfl];have h1:=zQ.notType;have h2:=zQ.canCreate;have nu:=J' (.ref L)
 repeat(any_goals(first|assumption|wp_step))
 refine codeAny_mono (Kc (.ref L) (E:=E) (Q₁:=fun obj i=>obj=.ref s⁻¹/\i={s with heap:=s.heap.push {cls:=.type "dict",data:=.dict #[]}}) ⟨rfl,rfl⟩) fun r i hr=>?_;cases r with
 |error e=>exact hr
 |ok fl=>
  cases fl with
  |ret obj=>
   obtain⟨rfl,rfl⟩:=hr;have q:(s.heap.push {cls:=.type "dict",data:=.dict #[]}).get? s⁻¹=some {cls:=.type "dict",data:=.dict #[]}:=Ak _ rfl;have u:Shared.TypeIs {s with heap:=s.heap.push {cls:=.type "dict",data:=.dict #[]}} (.ref s⁻¹) "dict":=⟨_,q,rfl⟩;have mI:=zQ.init.lookup;have oz:=zQ.init.bind (.ref s⁻¹)
   repeat(any_goals(first|assumption|wp_step))
   refine codeAny_mono (codeAny_call_builtin (R:=wants (fun r j=>r=.none/\∃h' tk,j={s with heap:=h',toks:=tk}/\h'.DictOf knd s⁻¹ (rK [] ts)/\
     (∀b o,b<s⁻¹->s.heap.get? b=some o->h'.get? b=some o)) E) zQ.init.plain F.entry_dict_init (zQ.init.check _ _ _ _ _ _ _ _ u (F.args_dict_init_2 _ _) ?_)) fun J j d=>?_
   ·have v:L<s⁻¹:=Al G
    have a:(s.heap.push {cls:=.type "dict",data:=.dict #[]}).get? L=some o:=Ae _ G;have S:Shared.TypeIs {s with heap:=s.heap.push {cls:=.type "dict",data:=.dict #[]}} (.ref L) "list":=⟨o,a,hc⟩;unfold Builtin.«dict.__init__»;refine Aa ?_;unfold Builtin.Dict.selfAndRest;refine Aa (wpAny_notOrdered_dict u ?_);refine Aa (show wpAny _ _ (pure s⁻¹) _ _ _ from Ac ?_);refine Ac ?_;show wpAny _ _ (Builtin.Dict.updateCommon "dict.__init__" "dict" s⁻¹ [Value.ref L] []) _ _ _;unfold Builtin.Dict.updateCommon Builtin.Dict.updateFrom;dsimp only;refine Aa (wpAny_typeOf S ?_);rw[if_pos ξ];refine Aa (Lv (s:={s with heap:=s.heap.push {cls:=.type "dict",data:=.dict #[]}}) a hc H U C fun h2 l e2 x2=>?_);rw[if_pos (by rfl)];refine Aa (wpAny_rule ?_);have y:h2.IsList L (ts.map fun x=>Value.ref x.1).toArray:=⟨o,x2.keeps _ _ a,hc,n,H⟩;refine Aa (wpAny_pyIter_list (s:={s with heap:=h2,toks:=l}) y ?_);have T:h2.get? s⁻¹=some {cls:=.type "dict",data:=.dict #[]}:=x2.keeps _ _ q;have f:s⁻¹<h2.objs.size:=Al T;have g:∀b ob,h2.get? b=some ob->(h2.push {cls:=.type "list_iterator",data:=.fields #[.ref L,.int 0 0]}).get? b=some ob:=fun b ob e=>Ae _ e;have z:∀b ob,s.heap.get? b=some ob->(h2.push {cls:=.type "list_iterator",data:=.fields #[.ref L,.int 0 0]}).get? b=some ob:=fun b ob e=>g _ _ (x2.keeps _ _ (Ae _ e));refine Ac ⟨plainId_quiet j0 _,?_⟩;refine ry (knd:=knd) (ts:=ts) (L:=L) (D:=s⁻¹) (I:=h2.objs.size) (by exact C) (by first|exact hu|(show A.units+1<cLine;omega)) (Aq f) (Aq v) (Aq (Nat.lt_trans v f)) ts.length 0 {s with heap:=h2.push {cls:=.type "list_iterator",data:=.fields #[.ref L,.int 0 0]},toks:=l} [] ω (AK _)
     ⟨_,Ak _ rfl,rfl,rfl⟩ (y.at fun ob e=>g _ _ e) (fun x hx=>?_) (MA (Heap.DictOf.new s.heap) fun ob e=>g _ _ (x2.keeps _ _ e)) (by simpa using X) fun h' p dd k3=>⟨rfl,h',p,rfl,dd,fun b ob hb e=>k3 b ob (Aq hb) (Aq (Nat.lt_trans hb f)) (z _ _ e)⟩
    obtain⟨⟨M,e1,N⟩,O⟩:=W x hx;exact⟨⟨M,z _ _ e1,N⟩,O⟩
   ·cases J with
    |error e=>exact d
    |ok fl₂=>
     cases fl₂ with
     |ret r=>
      obtain⟨rfl,h',p,rfl,P,hk'⟩:=d
      repeat(any_goals(first|assumption|wp_step))
      exact h _ _ P hk'
     |_=>exact d.elim
  |_=>exact hr.elim
end
end DKp
namespace L2
open PySem PySem.Spec PyProof.Rows
def foldZ(kvs:List (Key×V)):List (Key×V):=kvs.foldl (fun acc kv=>putK acc kv.1 kv.2) []
section
variable{X:Cx}
def FO:∀(kvs acc:List (Key×V)),(kvs.foldl (fun acc kv=>putK acc kv.1 kv.2) acc).length<=acc.length+kvs.length
 |[],acc=>by simp
 |kv::r,acc=>by
  rw[List.foldl_cons];have h1:=FO r (putK acc kv.1 kv.2);have h2:=vY acc kv.1 kv.2;rw[Au];omega
def zH(hc:X.calm=true)(hu:X.A.units+64<cLine):z0 X (.type "dict") (fun xs H Q=>∃(l:Addr)(ts:List Addr)(kvs:List (Key×V)),xs=[.ref l]/\SqL X.K H l (ts.map V.ref)/\
  Paired (fun t(kv:Key×V)=>H t=some (.tup [kV kv.1,kv.2])) ts kvs/\∀D,H D=none->Q (.ref D) (upd H D (.dK (foldZ kvs)))):=by
 intro aa s σ H xs us Q I r h;obtain⟨l,ts,kvs,rfl,hq,hp,q⟩:=h;obtain⟨u,rfl,i⟩:=vals1 r;cases i;obtain⟨f,j,⟨o,n,e1,p,v,y⟩,C⟩:=I.list hq;obtain rfl:=aM j;have M:=A4 hp;have get:∀{ts:List Addr}{kvs:List (Key×V)},Paired (fun t(kv:Key×V)=>H t=some (.tup [kV kv.1,kv.2])) ts kvs->
   ∃ps:List (DKp.Pk Key),ps.map (fun x=>Value.ref x.1)=ts.map Value.ref/\(∀x∈ps,DKp.li (zw X.prog X.w) s.heap x)/\∀acc(ys:List (Key×Value)),KV acc ys->KV (kvs.foldl (fun acc kv=>putK acc kv.1 kv.2) acc) (DKp.rK ys ps):=by
  intro ts kvs z
  induction z with
  |nil=>exact⟨[],rfl,(fun x hx=>nomatch hx),fun acc ys k=>k⟩
  |@cons t kv ts kvs ht t' ih=>
   obtain⟨ps,g1,g2,g3⟩:=ih;obtain⟨f,E,F,_⟩:=I.tuple (SqT.of (K:=X.K) ht);obtain⟨a,c,e2,rk,G⟩:∃a c,f=[a,c]/\RelV (kV kv.1) a/\RelV kv.2 c:=by
    cases E with
    |cons ra rb=>
     cases rb with
     |cons rc rd=>
      cases rd;exact⟨_,_,rfl,ra,rc⟩
   subst e2;refine⟨(t,kv.1,a,c)::ps,by rw[Ar,Ar,g1],fun x hx=>?_,fun acc ys k=>?_⟩
   ·rcases List.mem_cons.mp hx with rfl|hx
    ·exact⟨F,my rk⟩
    ·exact g2 x hx
   ·exact g3 _ _ (KV.put k kv.1 G)
 obtain⟨ps,g1,g2,g3⟩:=get hp;have J:ps.length=kvs.length:=by
  have:=congrArg List.length g1;rw[Ab,Ab] at this;omega
 rw[Ab] at C;refine DKp.zH (knd:=zw X.prog X.w) (ts:=ps) (n:=n) (I.ok.hd hc) ω e1 p (by rw[g1];exact y) v g2 ω fun h' tk dd g=>?_;have d:=g3 [] [] .nil;have L:H s⁻¹=none:=I.hok.fresh (Ag _);refine⟨.ref s⁻¹,_,I.laid (o:=.dK (foldZ kvs)) (fun b u e=>g b u (Al e) e) (Ag _) (dk_new ?_ (beq_eq_false_iff_ne.mpr (Nat.ne_of_gt I.big)) d dd),rfl,q _ L⟩;have:=FO kvs [];unfold foldZ;simp at this;omega
end
end L2
end
section
namespace K55
open K1
open PySem L2 STb
abbrev lj:Stmt:=top 36
abbrev rL:Stmt:=top 35
abbrev oy:Stmt:=top 54
abbrev zV(ns:List (Int×Int)):HO:=dZ (ns.map fun p=>(p.1,V.int p.2))
abbrev kZ(ns:List (Int×Int)):List (Key×V):=(ns.map fun p=>(p.1,V.int p.2)).map fun p=>((Sum.inl p.1:Key),p.2)
def nv(ns:List (Int×Int))(x:Int):Int:=((ns.find? fun p=>p.1=x).map (·.2)).getD 0
def MC{ns:List (Int×Int)}{x:Int}(h:x∈ns.map (·.1)):bI (kZ ns) (Sum.inl x)=some (V.int (nv ns x)):=by
 induction ns with
 |nil=>exact nomatch h
 |cons p ns ih=>
  unfold nv
  by_cases e:p.1=x
  ·subst e
   rw[kZ,Ar,Ar,mm rfl,List.find?_cons];simp
  ·have a:¬(Sum.inl p.1:Key)=Sum.inl x:=fun z=>e (Sum.inl.inj z)
   rw[kZ,Ar,Ar,mu a,List.find?_cons,decide_eq_false e];refine ih ?_;rcases List.mem_cons.mp h with h|h
   ·exact(e h.symm).elim
   ·exact h
def j8{H:Hp}{d:Addr}{ns:List (Int×Int)}{x:Int}(hd:Rd H d (zV ns))(h:x∈ns.map (·.1)):DGet H d (.int x) (some (.int (nv ns x))):=.inl ⟨kZ ns,Sum.inl x,hd,rfl,(MC h).symm⟩
def dy(ns:List (Int×Int))(p:List Int):List Int:=(dd (p.map (nv ns))).mergeSort (·<=·)
section
variable{P:Program}{w:World}{K:Ad}{mg:Str->Option Value}{base:Heap}
def B4:Sp:=fun vs H Q _=>∃d a ns p,vs=[.ref d,.ref a]/\H d=some (zV ns)/\Tp H a p/\p.length<=10/\(∀x∈p,x∈ns.map (·.1))/\∀D H',Same H H'->H D=none->H' D=some (.lst ((p.map (nv ns)).map V.int))->Q (.ref D) H'
def MD:zq ["names","piece"] ["names","piece"] (zg lj):=⟨rfl,rfl,rfl,δ,rfl,δ,δ⟩
def FP{H2:Hp}{a d D:Addr}{p:List Int}{ns:List (Int×Int)}{Q:VK}(i:Tp H2 a p)(hd:H2 d=some (zV ns))(o:p.length<=10)(l:∀x∈p,x∈ns.map (·.1))(g:H2 D=none)(k:∀b,Same H2 b->b D=some (.lst ((p.map (nv ns)).map V.int))->Q (.ref D) b):cX (iO K a) (cQ 0) b8 (v1 (aE 1) (aE 0)) [none,some (.ref d)] H2 D Q:=by
 refine Dw (xs:=p.map V.int) (fun j σ ys b=>∃v,σ=[v,some (.ref d)]/\Same H2 b/\b D=some (.lst ys)/\ys=((p.map (nv ns)).take j).map V.int) ?_ ?_ ?_ ?_
 ·exact⟨none,rfl,Same.new g,ak,rfl⟩
 ·rintro j σ ys b ⟨v,rfl,c,f,rfl⟩
  exact SqT.of (c.tp i)
 ·rintro j σ ys b x hx h hy ⟨v,rfl,c,f,rfl⟩
  obtain⟨q,eq,rfl⟩:=gh hx;refine cv ?_;refine⟨_,rfl,_,rfl,d,.int (nv ns q),rfl,j8 (.inl (c _ _ hd)) (l q (Ap eq)),bu (by rw[Ab];exact ze ω) h hy f ⟨_,rfl,c.then g,ak,?_⟩⟩;have e:(p.map (nv ns))[j]?=some (nv ns q):=by rw[Aj,eq];rfl
  rw[AM e,Am];rfl
 ·rintro σ ys b ⟨v,rfl,c,f,rfl⟩
  rw[Az (by simp)] at f;exact k b c f
def FQ{f:Addr}{fd:FuncData}(F:Fun K "names_along" "names_along" lj f fd)(B:Bt mg):FnOk P w K mg base az 1 f fd ["names","piece"] B4:=by
 refine F.ok MD (fun vs H Q E h=>?_) (fun cdv A outer s H vs Q E hr h=>?_)
 ·obtain⟨d,a,ns,p,rfl,_⟩:=h;rfl
 ·obtain⟨d,a,ns,p,rfl,hd,e,hp,l,k⟩:=h
  have hu:=d_ hr;refine⟨_,zi (zt (zy ["names","piece"] ["point","names"] [none,some 0] (lT (pv 1)) (fun b C s₀ H₀ ex=>zn (i:=0) (b7 ["point","names"]) rfl (Or.inl rfl)) (fun b C s₀ H₀ ex=>zF)
   (fun b C s₀ H₀ ex=>fY hu (pv 1) (pv 0) (fun _ _=>rfl)) (hfr:=ck (zg lj) δ))),?_⟩
  exact⟨_,rfl,a,rfl,⟨_,SqT.of e⟩,fun D c=>zB (FP e hd hp l c fun o g j=>k D o g c j)⟩
def oA{ns:List (Int×Int)}{p ms:List Int}(h1:ms.Perm (dd (p.map (nv ns))))(h2:ms.Pairwise (·<=·)):ms=dy ns p:=by
 refine List.Perm.eq_of_pairwise (le:=fun a b:Int=>a<=b) (fun a b _ _=>Int.le_antisymm) h2 ?_ (h1.trans (List.mergeSort_perm _ _).symm);exact(List.pairwise_mergeSort (le:=fun a b:Int=>decide (a<=b)) (fun a b c h1 h2=>by simp at *;omega) (fun a b=>by simp;omega) _).imp fun h=>by simpa using h
def FR:Sp:=fun vs H Q _=>∃d a ns p,vs=[.ref d,.ref a]/\H d=some (zV ns)/\Tp H a p/\p.length<=10/\(∀x∈p,x∈ns.map (·.1))/\∀t H',Same H H'->H t=none->Tp H' t (dy ns p)->Q (.ref t) H'
def ME:zq ["names","piece"] ["names","piece"] (zg rL):=⟨rfl,rfl,rfl,δ,rfl,δ,δ⟩
def MF{f fa:Addr}{fd c:FuncData}(F:Fun K "image_of" "image_of" rL f fd)(B:Bt mg)(Fa:Fun K "names_along" "names_along" lj fa c)(y:Binds K c ["names","piece"] [])(z:mg "names_along"=some (.ref fa)):FnOk P w K mg base az 2 f fd ["names","piece"] FR:=by
 have G:FnOk P w K mg base az 1 fa c ["names","piece"] B4:=FQ Fa B;refine F.ok ME (fun vs H Q E h=>?_) (fun cdv A outer s H vs Q E hr h=>?_)
 ·obtain⟨d,a,ns,p,rfl,_⟩:=h;rfl
 ·obtain⟨d,a,ns,p,rfl,hd,r,hp,u,k⟩:=h
  refine⟨_,zi (zt (zm zL rfl B.tuple jf (ac (zl (FI rfl) rfl B.sorted je (ac (zm (B0 rfl) rfl B.set jP (ac
   (zo G hr rfl z Fa.kp y .nil ao (ac (pv 0) (ac (pv 1) al))) al)) al)) al))),?_⟩
  refine⟨_,rfl,_,rfl,d,a,ns,p,rfl,hd,r,hp,u,fun D H1 i I h1=>?_⟩;refine⟨D,p.map (nv ns),rfl,SqL.of h1,by rw[Ab];omega,fun S j=>?_⟩;have v:=i.trans (Same.new (o:=du P w S (dd (p.map (nv ns)))) j);refine⟨S,dd (p.map (nv ns)),rfl,ak,fun C ms b l q=>?_⟩;have g:=v.trans (Same.new (o:=.lst (ms.map V.int)) q);refine⟨C,_,rfl,.inl ⟨SqL.of ak,fun t e=>?_⟩⟩;have x:=g.trans (Same.new (o:=.tup (ms.map V.int)) e);obtain rfl:=oA b l;exact k t _ x (g.free e) ak
end
abbrev oH:Stmt:=top 41
abbrev oI:Stmt:=top 40
def gD(x:Int)(l:List Int):Nat:=(l.filter fun y=>decide (y<x)).length
def falls:List Int->Nat
 |[]=>0
 |x::r=>gD x r+falls r
def jm(l:List Int)(k:Nat):Int:=gD (l.getD k 0) (l.drop (k+1))
def FS:∀l:List Int,((Bc l.length).map (jm l)).sum=(falls l:Int)
 |[]=>rfl
 |x::r=>by
  rw[Au,List.range_succ_eq_map,Ar,List.sum_cons,As];have e:(jm (x::r) ∘ Nat.succ)=jm r:=by
   funext k
   simp[jm,Function.comp]
  rw[e,FS r];simp[jm,falls]
section
variable{P:Program}{w:World}{K:Ad}{mg:Str->Option Value}{base:Heap}
def MG:zq ["piece","names"] ["piece","names"] (zg oy):=⟨rfl,rfl,rfl,δ,rfl,δ,δ⟩
def FT:Sp:=fun vs H Q _=>∃d a ns p,vs=[.ref a,.ref d]/\H d=some (zV ns)/\Tp H a p/\p.length<=10/\(∀x∈p,x∈ns.map (·.1))/\∀t H',Same H H'->H t=none->Tp H' t (dy ns p)->Q (.ref t) H'
def MH{f:Addr}{fd:FuncData}(F:Fun K "_law_image" "_law_image" oy f fd)(B:Bt mg):FnOk P w K mg base az 1 f fd ["piece","names"] FT:=by
 refine F.ok MG (fun vs H Q E h=>?_) (fun cdv A outer s H vs Q E hr h=>?_)
 ·obtain⟨d,a,ns,p,rfl,_⟩:=h;rfl
 ·obtain⟨d,a,ns,p,rfl,hd,g,hp,x,k⟩:=h
  have hu:=d_ hr;refine⟨_,zi (zt (zm zL rfl B.tuple jf (ac (zl (FI rfl) rfl B.sorted je (ac (zm (B0 rfl) rfl B.set jP (ac
   (zy ["piece","names"] ["point","names"] [none,some 1] (lT (pv 0)) (fun c C s₀ H₀ ex=>zn (i:=0) (b7 ["point","names"]) rfl (Or.inl rfl)) (fun c C s₀ H₀ ex=>zF)
   (fun c C s₀ H₀ ex=>fY hu (pv 1) (pv 0) (fun _ _=>rfl)) (hfr:=ck (zg oy) δ)) al)) al)) al))),?_⟩
  refine⟨_,rfl,a,rfl,⟨_,SqT.of g⟩,fun D l=>zB (FP g hd hp x l fun H1 q h1=>?_)⟩;refine⟨D,p.map (nv ns),rfl,SqL.of h1,by rw[Ab];omega,fun S r=>?_⟩;have y:=q.trans (Same.new (o:=du P w S (dd (p.map (nv ns)))) r);refine⟨S,dd (p.map (nv ns)),rfl,ak,fun G ms b u v=>?_⟩;have j:=y.trans (Same.new (o:=.lst (ms.map V.int)) v);refine⟨G,_,rfl,.inl ⟨SqL.of ak,fun t e=>?_⟩⟩;have z:=j.trans (Same.new (o:=.tup (ms.map V.int)) e);obtain rfl:=oA b u;exact k t _ z (j.free e) ak
def FU(K:Ad):Sp:=fun vs H Q _=>∃x l ns,vs=[.int x,.ref l]/\SqL K H l (ns.map V.int)/\ns.length<=10/\∀H',Same H H'->Q (.int (gD x ns)) H'
def MI:zq ["point","some"] ["point","some"] (zg oH):=⟨rfl,rfl,rfl,δ,rfl,δ,δ⟩
def MJ{f:Addr}{fd:FuncData}(F:Fun K "less_than" "less_than" oH f fd)(B:Bt mg):FnOk P w K mg base az 1 f fd ["point","some"] (FU K):=by
 refine F.ok MI (fun vs H Q E h=>?_) (fun cdv A outer s H vs Q E hr h=>?_)
 ·obtain⟨x,l,ns,rfl,_⟩:=h;rfl
 ·obtain⟨x,l,ns,rfl,j,p,k⟩:=h
  refine⟨_,zi (zt (zl zk rfl B.len zW (ac (zy ["point","some"] ["other","point"] [none,some 0] (zA (pv 1)) (fun e C s₀ H₀ ex=>zn (i:=0) (b7 ["other","point"]) rfl (Or.inl rfl))
   (fun e C s₀ H₀ ex=>ik (zp kx (pv 0) (pv 1) (ar _))) (fun e C s₀ H₀ ex=>pv 0) (hfr:=ck (zg oH) δ)) al))),?_⟩
  refine⟨_,rfl,l,rfl,⟨_,j⟩,fun D g=>?_⟩;refine zB (zM (K:=K) (a:=l) (xs:=ns.map V.int) (fun i σ ys c=>∃v:Option V,σ=[v,some (.int x)]/\Same H c/\c D=some (.lst ys)/\ys=((ns.take i).filter fun y=>decide (y<x)).map V.int)
   ⟨none,rfl,Same.new g,ak,rfl⟩ (fun i σ ys c ⟨_,_,b,_⟩=>b.seq j) ?_ ?_)
  ·rintro i σ ys c z hx hi hy ⟨v,rfl,b,d,rfl⟩
   obtain⟨y,o,rfl⟩:=gh hx;refine⟨_,rfl,_,rfl,_,_,rfl,rfl,_,rfl,?_⟩
   by_cases h1:y<x
   ·rw[decide_eq_true h1]
    refine bg ⟨_,rfl,bu (by rw[Ab];exact ze ω) hi hy d ⟨_,rfl,b.then g,ak,?_⟩⟩;rw[AM o,List.filter_append,Am];simp[h1]
   ·rw[decide_eq_false h1]
    refine aI (eu hi hy ⟨_,rfl,b,d,?_⟩);rw[AM o,List.filter_append,Am];simp[h1]
  ·rintro σ ys c ⟨v,rfl,b,d,rfl⟩
   rw[Ab,take_all] at d;refine⟨D,_,rfl,.inl (SqL.of d),?_⟩;rw[Ab];exact k c b
def FV(K:Ad):Sp:=fun vs H Q _=>∃l ns,vs=[.ref l]/\H l=some (.lst (ns.map V.int))/\ns.length<=10/\∀H',Same H H'->Q (.int (falls ns)) H'
def MK:zq ["some"] ["some"] (zg oI):=⟨rfl,rfl,rfl,δ,rfl,δ,δ⟩
def ML{f z:Addr}{fd G:FuncData}(F:Fun K "falls_in" "falls_in" oI f fd)(B:Bt mg)(Z:mg "sum"=none)(mU:AU "sum"=some (.builtin "sum"))(Fl:Fun K "less_than" "less_than" oH z G)(bl:Binds K G ["point","some"] [])(ml:mg "less_than"=some (.ref z)):FnOk P w K mg base az 2 f fd ["some"] (FV K):=by
 have Gl:FnOk P w K mg base az 1 z G ["point","some"] (FU K):=MJ Fl B;refine F.ok MK (fun vs H Q E h=>?_) (fun cdv A outer s H vs Q E hr h=>?_)
 ·obtain⟨l,ns,rfl,_⟩:=h;rfl
 ·obtain⟨l,ns,rfl,v,hz,k⟩:=h
  refine⟨_,zi (zt (zl (Ls rfl) rfl Z mU (ac (zy ["some"] ["k","point","some"] [none,none,some 0] (I_ rfl B.enumerate JR (ac (pv 0) al))
   (fun I C s₀ H₀ ex=>kr rfl (zT (zn (i:=0) (b7 ["k","point","some"]) rfl (Or.inl rfl)) (zT (zn (i:=1) (b7 ["k","point","some"]) rfl (Or.inl rfl)) kq)))
   (fun I C s₀ H₀ ex=>zF) (fun I C s₀ H₀ ex=>zo Gl hr rfl ml Fl.kp bl .nil ao (ac (pv 1) (ac (vb (r:=l' K) C3 (pv 2) (u4 (zE eZ (pv 0) zf)) u1) al)))
   (hfr:=ck (zg oI) δ) (g:=jy K 2 (lQ (cQ 0) (lQ (cQ 1) jx)))) al))),?_⟩
  refine⟨_,rfl,l,rfl,⟨_,SqL.of v⟩,fun D J=>?_⟩;refine zB (jG ns.length (fun j σ ys b=>∃(d u:Option V),σ=[d,u,some (.ref l)]/\Same H b/\b D=some (.lst ys)/\ys=(((Bc ns.length).map (jm ns)).take j).map V.int) ?_ ?_ ?_ ?_ ?_)
  ·exact⟨none,none,rfl,Same.new J,ak,rfl⟩
  ·rintro σ ys b ⟨d,u,rfl,a,c,rfl⟩
   exact⟨_,SqL.of (a _ _ v),by rw[Ab]⟩
  ·rintro i σ ys b hi ⟨d,u,rfl,a,c,rfl⟩
   exact⟨_,SqL.of (a _ _ v),by rw[Ab];exact hi⟩
  ·rintro i σ ys b x H' hi hy ⟨d,u,rfl,a,c,rfl⟩ ⟨p,y,rfl,S,rfl,T⟩
   have U:=T _ (SqL.of (a _ _ v));obtain⟨q,eq,rfl⟩:=gh U;have L:=Same.new (o:=.tup [.int i,.int q]) S;have W:=L _ _ (a _ _ v);refine⟨p,_,rfl,SqT.of ak,rfl,_,_,rfl,_,_,rfl,rfl,jO ?_⟩;refine⟨_,rfl,_,rfl,_,rfl,_,_,rfl,rfl,_,rfl,l,_,rfl,SqL.of W,fun p2 N=>?_⟩;have X:=L.trans (Same.new (o:=.lst (cM (ns.map V.int) (some ((i:Int)+1)) none)) N);have Y:cM (ns.map V.int) (some ((i:Int)+1)) none=(ns.drop (i+1)).map V.int:=by
    rw[show(i:Int)+1=((i+1:Nat):Int) from ω,BJ _ _ (by rw[Ab];omega),List.map_drop]
   refine⟨q,p2,ns.drop (i+1),rfl,SqL.of (by rw[ak,Y]),by rw[List.length_drop];omega,fun H5 O=>?_⟩;have M:=X.trans O;have e:((Bc ns.length).map (jm ns))[i]?=some (gD q (ns.drop (i+1)):Int):=by
    rw[Aj,List.getElem?_range hi,A1];unfold jm;rw[AL,eq]
    rfl
   exact bu (ze ω) hi hy (M _ _ c) ⟨_,_,rfl,(a.trans M).then J,ak,by rw[AM e,Am];rfl⟩
  ·rintro σ ys b ⟨d,u,rfl,a,c,rfl⟩
   rw[Az (by simp)] at c;refine⟨D,_,rfl,SqL.of c,?_⟩;rw[FS];exact k b a
end
abbrev rN:Stmt:=top 39
abbrev rS:Stmt:=top 38
def FW(l:List Int):((dd l).length=l.length->l.Nodup)/\(l.Nodup->dd l=l):=la (P:=fun l:List Int=>((dd l).length=l.length->l.Nodup)/\(l.Nodup->dd l=l)) ⟨fun _=>List.nodup_nil,fun _=>rfl⟩ (fun l x b=>by
 have d:=fo l;have e:((l++[x]).Nodup)↔(l.Nodup/\x∉l):=by
  rw[List.nodup_append];simp;intro _;exact⟨fun h z=>h x z rfl,fun h a c e=>h (e▸c)⟩
 rw[gY,e]
 by_cases h:x∈dd l
 ·rw[if_pos h]
  refine⟨fun z=>?_,fun z=>absurd ((fv _ _).mp h) z.2⟩;rw[Aw,List.length_singleton] at z;omega
 ·rw[if_neg h]
  refine⟨fun z=>?_,fun z=>by rw[b.2 z.1]⟩;rw[Aw,Aw] at z;exact⟨b.1 ω,fun q=>h ((fv _ _).mpr q)⟩) l
def FX(l:List Int):(dd l).length<l.length↔¬l.Nodup:=by
 have h:=FW l;have a:=fo l;constructor
 ·intro z n
  rw[h.2 n] at z;omega
 ·intro z
  rcases Nat.lt_or_ge (dd l).length l.length with q|q
  ·exact q
  ·exact absurd (h.1 ω) z
def gE(l:List Int):List Int:=l.mergeSort (·<=·)
def FY{l ms:List Int}(h1:ms.Perm l)(h2:ms.Pairwise (·<=·)):ms=gE l:=by
 refine List.Perm.eq_of_pairwise (le:=fun a b:Int=>a<=b) (fun a b _ _=>Int.le_antisymm) h2 ?_ (h1.trans (List.mergeSort_perm _ _).symm);exact(List.pairwise_mergeSort (le:=fun a b:Int=>decide (a<=b)) (fun a b c h1 h2=>by simp at *;omega) (fun a b=>by simp;omega) _).imp fun h=>by simpa using h
def dI(l:List Int)(n:Int):Ch:=if l.Nodup then [(gE l,sg (falls l) n)] else []
def FZ(l:List Int)(n:Int):(dI l n).length<=1:=by unfold dI;split<;>simp
def B5(f:List Int->List Int):∀cs:Ch,(cs.flatMap fun c=>dI (f c.1) c.2).length<=cs.length
 |[]=>Ag _
 |c::r=>by
  rw[List.flatMap_cons,Aw,Au];have h1:=FZ (f c.1) c.2;have h2:=B5 f r;omega
section
variable{P:Program}{w:World}{K:Ad}{mg:Str->Option Value}{base:Heap}
def F0:Sp:=fun vs H Q _=>∃l ns n,vs=[.ref l,.int n]/\H l=some (.lst (ns.map V.int))/\ns.length<=10/\∀D H2(ts:List Addr),Same H H2->H D=none->H2 D=some (.lst (ts.map V.ref))->Prs H2 ts (dI ns n)->Q (.ref D) H2
def MM:zq ["some","weight"] ["some","weight"] (zg rN):=⟨rfl,rfl,rfl,δ,rfl,δ,δ⟩
def MN{f q:Addr}{fd r:FuncData}(F:Fun K "risen_terms" "risen_terms" rN f fd)(B:Bt mg)(Fl:Fun K "falls_in" "falls_in" oI q r)(bl:Binds K r ["some"] [])(O:mg "falls_in"=some (.ref q))(Gl:FnOk P w K mg base az 2 q r ["some"] (FV K)):FnOk P w K mg base az 3 f fd ["some","weight"] F0:=by
 refine F.ok MM (fun vs H Q E h=>?_) (fun cdv A outer s H vs Q E hr h=>?_)
 ·obtain⟨l,ns,n,rfl,_⟩:=h;rfl
 ·obtain⟨l,ns,n,rfl,e,L,k⟩:=h
  refine⟨_,zd (zR (zp kx (zl Mf rfl B.len zW (ac (zm (B0 rfl) rfl B.set jP (ac (pv 0) al)) al)) (zl zk rfl B.len zW (ac (pv 0) al)) (ar _)) (zi (zt (zO al))) zv)
   (zi (zt (zO (ac (dw (ac (zm zL rfl B.tuple jf (ac (zl xk rfl B.sorted je (ac (pv 0) al)) al))
    (ac (tu (zp db (zE iR (zo Gl hr rfl O Fl.kp bl .nil ao (ac (pv 0) al)) zf) zf (ar _)) (pv 1) (uz uB (pv 1))) al))) al)))),?_⟩
  refine⟨_,rfl,l,ns,rfl,SqL.of e,ω,fun S G=>⟨S,_,rfl,ak,?_⟩⟩;have c:=Same.new (o:=du P w S (dd ns)) G;refine⟨_,rfl,l,_,rfl,.inl (SqL.of (c _ _ e)),_,_,rfl,rfl,_,rfl,?_⟩;rw[Ab]
  by_cases g:ns.Nodup
  ·rw[decide_eq_false (fun z=>(FX ns).mp ω g)]
   refine aI ⟨_,rfl,l,ns,rfl,SqL.of (c _ _ e),ω,fun D ms hp hs d=>?_⟩;have M:=c.trans (Same.new (o:=.lst (ms.map V.int)) d);refine⟨D,_,rfl,.inl ⟨SqL.of ak,fun t I=>?_⟩⟩;have y:=M.trans (Same.new (o:=.tup (ms.map V.int)) I);obtain rfl:=FY hp hs;refine⟨_,rfl,l,ns,rfl,y _ _ e,L,fun i x=>?_⟩;have N:Tp i t (gE ns):=x _ _ ak;have C:=y.trans x;have fin:∀(u:Addr)(v:Int),v=sg (falls ns) n->i u=none->∀a,upd i u (.tup [.ref t,.int v]) a=none->Q (.ref a) (upd (upd i u (.tup [.ref t,.int v])) a (.lst [.ref u])):=by
    intro u v J hu a b;have j:=Same.new (o:=.tup [.ref t,.int v]) hu;have p:=Same.new (o:=.lst [.ref u]) b;refine k a _ [u] ((C.trans j).trans p) ((C.trans j).free b) ak ?_;unfold dI;rw[if_pos g];exact .cons ⟨t,by rw[<-J];exact p _ _ ak,p.tp (j.tp N)⟩ .nil
   refine⟨_,_,rfl,rfl,(by show(0:Int)<2;decide),rfl,_,rfl,?_⟩
   by_cases hk:((falls ns:Nat):Int)%2=0
   ·rw[decide_eq_true (congrArg V.int hk)]
    exact bg ⟨_,rfl,ze (by simp),fun u hu=>⟨ze (by simp),fun a b=>fin u n (by unfold sg;rw[if_pos hk]) hu a b⟩⟩
   ·rw[decide_eq_false (fun z=>hk (by injection z))]
    exact aI ⟨_,rfl,_,rfl,ze (by simp),fun u hu=>⟨ze (by simp),fun a b=>fin u (-n) (by unfold sg;rw[if_neg hk]) hu a b⟩⟩
  ·rw[decide_eq_true (by have:=(FX ns).mpr g;omega)]
   refine bg ⟨ze (by simp),fun D d=>k D _ [] (c.trans (Same.new d)) (c.free d) ak ?_⟩;unfold dI;rw[if_neg g];exact .nil
end
def carT(ns:List (Int×Int))(cs:Ch):Ch:=cs.flatMap fun c=>dI (c.1.map (nv ns)) c.2
section
variable{P:Program}{w:World}{K:Ad}{mg:Str->Option Value}{base:Heap}
def F5:Sp:=fun vs H Q _=>∃m d ns cs,vs=[.ref m,.ref d]/\H m=some (zV ns)/\Rd H d (.dT (bb cs))/\cs.length<=100/\(ksC cs).Nodup/\(∀c∈cs,c.1.length<=5)/\(∀c∈cs,∀x∈c.1,x∈ns.map (·.1))/\
 ∀D H',zu d H H'->Rd H' d (.dT (bb cs))->H D=none->H' D=some (.dT (bb (sumC (carT ns cs))))->Q (.ref D) H'
def B6:zq ["names","chain","terms","piece"] ["names","chain"] (zg rS):=⟨rfl,rfl,rfl,δ,rfl,δ,δ⟩
def MO{f fn U fs:Addr}{fd W X Y:FuncData}(F:Fun K "carried_by" "carried_by" rS f fd)(Fn:Fun K "names_along" "names_along" lj fn W)(bn:Binds K W ["names","piece"] [])(mn:mg "names_along"=some (.ref fn))(Gn:FnOk P w K mg base az 1 fn W ["names","piece"] B4)(Ft:Fun K "risen_terms" "risen_terms" rN U X)(bt:Binds K X ["some","weight"] [])(mt:mg "risen_terms"=some (.ref U))(Gt:FnOk P w K mg base az 3 U X ["some","weight"] F0)(Fs:Fun K "sum_of" "sum_of" iG fs Y)(bs:Binds K Y ["terms"] [])(ms:mg "sum_of"=some (.ref fs))(Gs:FnOk P w K mg base az 1 fs Y ["terms"] (Fj K)):FnOk P w K mg base az 4 f fd ["names","chain"] F5:=by
 refine F.ok B6 (fun vs H Q E h=>?_) (fun cdv A outer s H vs Q E hr h=>?_)
 ·obtain⟨m,d,ns,cs,rfl,_⟩:=h;rfl
 ·obtain⟨m,d,ns,cs,rfl,hm,hd,hz,bC,h5,S,k⟩:=h
  have hu:=d_ hr;have G:Room 1 _:=hr.mono ξ;refine⟨_,zd (zr (i:=2) B6.nd rfl (Or.inl rfl) (zO al))
   (zd (dW A7 rfl (E7 (pv 1)) (zn (i:=3) B6.nd rfl (Or.inl rfl))
    (zi (fO (i3 PySem.F.plainAttrs_list PySem.F.slot_list_extend PySem.F.type_list_extend H_ (pv 2) (ac (zo Gt hr rfl mt Ft.kp bt .nil ao (ac (zo Gn G rfl mn Fn.kp bn .nil ao (ac (pv 0) (ac (pv 3) al))) (ac (fY hu (pv 1) (pv 3) (fun _ _=>rfl)) al))) al)))))
   (zi (zt (zo Gs G rfl ms Fs.kp bs .nil ao (ac (pv 2) al))))),?_⟩
  refine⟨ze (by simp),fun L l=>?_⟩;have qS:d≠L:=by
   rcases hd with r|⟨_,r⟩
   ·exact zh r l
   ·exact zh r l
  have T:m≠d:=fE hd hm (by intro k z;cases z) (by intro q k z;cases z);refine⟨_,rfl,d,bb cs,rfl,hd.same (Same.new l),fun o H3 eQ Z=>E8 (fun i σ j=>∃(O:Option V)(ts:List Addr),σ=[some (.ref m),some (.ref d),some (.ref L),O]/\zu d H j/\j d=some (.frz o (.dT (bb cs)))/\j L=some (.lst (ts.map V.ref))/\Prs j ts ((cs.take i).flatMap fun c=>dI (c.1.map (nv ns)) c.2))
   ⟨none,[],rfl,fun b u hb e=>by rw[Z b hb,zj (zh e l)];exact e,eQ,by rw[Z L (Ne.symm qS)];exact ak,.nil⟩ (fun i σ j _ ⟨_,_,_,_,h,_⟩=>h) ?_ ?_⟩
  ·rintro i kv b σ j cV hb ⟨O,ts,rfl,v,x,y,C⟩
   obtain⟨c,ec,rfl⟩:=L7 cV;have a:=Ap ec;have yS:=h5 c a;refine⟨_,rfl,.inl ⟨rfl,_,SqL.of y⟩,_,rfl,_,rfl,m,b,ns,c.1,rfl,v _ _ T hm,L8 hb,ω,S c a,fun D1 H1 M yP h1=>?_⟩;have g:DGet H1 d (.ref b) (some (.int c.2)):=.inr ⟨bb cs,c.1.map Sum.inl,b,.inr ⟨o,M _ _ x⟩,rfl,M _ _ hb,(Bz bC c a).symm⟩;refine⟨_,rfl,_,rfl,d,_,rfl,g,D1,_,c.2,rfl,h1,by rw[Ab];omega,fun D5 H5 us J oP N lR=>?_⟩;have I:=M.trans J;have hlt:=C.length;have Bk:=lR.length;have kJ:=B5 (fun p=>p.map (nv ns)) (cs.take i);have Bv:=FZ (c.1.map (nv ns)) c.2;rw[AJ] at kJ;refine⟨L,D5,_,_,rfl,rfl,I _ _ y,N,by rw[Ab,Ab];exact ze ω,⟨_,ts++us,rfl,(v.trans (zu.of I)).thenD l,by rw[zj qS];exact I _ _ x,by rw[ak,Am],?_⟩⟩;rw[L9 _ ec];exact Prs.upd ((C.same I).append lR) (I _ _ y) (by intro xs z;cases z)
  ·rintro σ j ⟨O,ts,rfl,v,x,y,C⟩
   rw[hX,take_all] at C;have kJ:=B5 (fun p=>p.map (nv ns)) cs;refine⟨_,rfl,L,ts,_,rfl,SqL.of y,C,ω,fun D H5 J cC N=>?_⟩;exact k D H5 (v.trans (zu.of J)) (.inr ⟨o,J _ _ x⟩) (v.freeD (.inr ⟨o,x⟩) cC) N
end
abbrev oO:Stmt:=top 33
abbrev oQ:Stmt:=top 34
abbrev j9:Stmt:=top 37
abbrev rT:Stmt:=top 55
def dots(kn:Ξ):List Int:=(kn.filter fun p=>decide (p.length=1)).map (·.headD 0)
def ll(l:Ξ)(p:List Int):dots (l++[p])=dots l++if p.length=1 then [p.headD 0] else []:=by
 unfold dots;rw[List.filter_append,Am]
 by_cases h:p.length=1<;>simp[h]
def iH(kn:Ξ):(dots kn).length<=kn.length:=by unfold dots;rw[Ab];exact List.length_filter_le _ _
def MP(pss:Ξ):(dots (canon pss)).Pairwise (·<=·):=by
 unfold dots;rw[Bi];refine((ES pss).sublist List.filter_sublist).imp_of_mem fun{a b} d hb h=>?_;have e:a.length=1:=by simpa using (List.mem_filter.mp d).2
 have f:b.length=1:=by simpa using (List.mem_filter.mp hb).2
 match a,b,e,f with
 |[x],[y],_,_=>
  show x<=y;rcases Int.lt_or_le y x with q|q
  ·exfalso
   have h2:HT.lexLt (key [y]) (key [x])=false:=by simpa[kle] using h
   have c:HT.lexLt [1,y] [1,x]=false:=h2;rw[HT.zI,if_pos rfl,HT.zI,if_neg ω] at c;exact of_decide_eq_false c q
  ·exact q
def gF(ns:List (Int×Int))(kn there:Ξ):Bool:=kn.all fun p=>decide (dy ns p∈there)
def fh(ns:List (Int×Int))(kn:Ξ):Bool:=decide (((ns.map (·.1)).mergeSort (·<=·))=dots kn)
def aW(ns:List (Int×Int))(kn there:Ξ):Bool:=fh ns kn&&gF ns kn there
def B7{ks ms:List Int}(h1:ms.Perm ks)(h2:ms.Pairwise (·<=·)):ms=ks.mergeSort (·<=·):=by
 refine List.Perm.eq_of_pairwise (le:=fun a b:Int=>a<=b) (fun a b _ _=>Int.le_antisymm) h2 ?_ (h1.trans (List.mergeSort_perm _ _).symm);exact(List.pairwise_mergeSort (le:=fun a b:Int=>decide (a<=b)) (fun a b c h1 h2=>by simp at *;omega) (fun a b=>by simp;omega) _).imp fun h=>by simpa using h
def oS{ns:List (Int×Int)}{kn:Ξ}{x:Int}(h:fh ns kn=true)(hx:x∈dots kn):x∈ns.map (·.1):=by
 rw[<-of_decide_eq_true h] at hx;exact(List.mergeSort_perm _ _).subset hx
def B2{ns:List (Int×Int)}{pss:Ξ}(h:ns.map (·.1)=dots (canon pss)):fh ns (canon pss)=true:=by
 unfold fh;rw[h];exact decide_eq_true (B7 (List.Perm.refl _) (MP pss)).symm
def lm{pss:Ξ}{p:List Int}{x:Int}(hp:p∈canon pss)(hx:x∈p):x∈dots (canon pss):=by
 obtain⟨t,a,hs⟩:=List.mem_flatMap.mp (z_.mp hp);have h1:[x]∈canon pss:=z_.mpr (List.mem_flatMap.mpr ⟨t,a,iw.mpr ⟨by simp,(List.singleton_sublist.mpr hx).trans (iw.mp hs).2⟩⟩);exact List.mem_map.mpr ⟨[x],List.mem_filter.mpr ⟨h1,by simp⟩,rfl⟩
abbrev jn(K:Ad):TT:=kz (da p0 (gO (fun xs H Q=>∃p ys,xs=[.ref p]/\(SqL K H p ys\/SqT K H p ys)/\Q (.int ys.length) H) (zP (aE 0) bq)) (tC (.int 1)))
abbrev oT(K:Ad):TE:=da (dY K) (aE 0) (tC (.int 0))
section
variable{P:Program}{w:World}{K:Ad}{mg:Str->Option Value}{base:Heap}
def rY{H2:Hp}{L D:Addr}{as:List Addr}{kn:Ξ}{Q:VK}(p:SqL K H2 L (as.map V.ref))(f:Tps H2 as kn)(q:kn.length<=1000)(g:H2 D=none)(k:∀a,Same H2 a->a D=some (.lst ((dots kn).map V.int))->Q (.ref D) a):cX (dH K L) (cQ 0) (jn K) (oT K) [none] H2 D Q:=by
 have o:=f.length;refine zM (xs:=as.map V.ref) (fun i σ ys a=>∃v:Option V,σ=[v]/\Same H2 a/\a D=some (.lst ys)/\ys=(dots (kn.take i)).map V.int)
  ⟨none,rfl,Same.new g,ak,rfl⟩ (fun i σ ys a ⟨_,_,b,_⟩=>b.seq p) ?_ ?_
 ·rintro i σ ys a z hx hi hy ⟨v,rfl,b,c,rfl⟩
  obtain⟨t,h,rfl⟩:=dE hx;obtain⟨ps,d,l⟩:=f.get h;have e:=b.tp l;refine⟨_,rfl,t,_,rfl,.inr (SqT.of e),rfl,_,rfl,?_⟩;rw[show(ps.map V.int).length=ps.length from Ab _]
  by_cases h1:ps.length=1
  ·rw[decide_eq_true (by rw[h1];rfl)]
   match ps,h1 with
   |[x],_=>
    refine bg ⟨_,rfl,t,_,0,.int x,rfl,rfl,SqT.of e,zx (j:=0) rfl,bu (by rw[Ab];exact ze ω) hi hy c ⟨_,rfl,b.then g,ak,?_⟩⟩;rw[AM d,ll,Am];rfl
  ·rw[decide_eq_false (fun z=>h1 (by injection z with z;omega))]
   refine aI (eu hi hy ⟨_,rfl,b,c,?_⟩);rw[AM d,ll,if_neg h1,List.append_nil]
 ·rintro σ ys a ⟨v,rfl,b,c,rfl⟩
  rw[Ab,o,take_all] at c;exact k a b c
def F7{H:Hp}{l m:Addr}{ns ms:List Int}{Q:VK}(h1:SqL K H l (ns.map V.int))(h2:SqL K H m (ms.map V.int))(q:Q (.bl (!decide (ns=ms))) H):nX true K (.ref l) (.ref m) H Q:=by
 refine⟨jW ns,jW ms,EG h1,EG h2,PySem.W.shaped_ints ns,PySem.W.shaped_ints ms,KD ns ms,?_⟩;rw[KC];exact q
def B8(K:Ad):Sp:=fun vs H Q _=>∃KN TH m ks ts ns kn pss there,vs=[.ref KN,.ref TH,.ref m]/\SqL K H KN (ks.map V.ref)/\Tps H ks kn/\kn=canon pss/\kn.length<64/\(∀p∈kn,p.length<=5)/\SqL K H TH (ts.map V.ref)/\Tps H ts there/\H m=some (zV ns)/\ns.length<=63/\
 ∀H',Same H H'->Q (.bl (aW ns kn there)) H'
def MQ:zq ["known","there","names"] ["known","there","names"] (zg rT):=⟨rfl,rfl,rfl,δ,rfl,δ,δ⟩
def F8{H2:Hp}{KN D:Addr}{ks:List Addr}{ns:List (Int×Int)}{kn there:Ξ}{te:TE}{d:List (Option V)}{Q:VK}(hk:SqL K H2 KN (ks.map V.ref))(h:Tps H2 ks kn)(s:kn.length<=1000)(q:∀(t:Addr)(p:List Int)(a:Hp)(l:VK),p∈kn->Tp a t p->Same H2 a->(∀f,Same a f->l (.bl (decide (dy ns p∈there))) f)->te (some (.ref t)::d) a l)(j:H2 D=none)(k:∀a,Same H2 a->a D=some (.lst ((kn.map fun p=>decide (dy ns p∈there)).map V.bl))->Q (.ref D) a):cX (dH K KN) (cQ 0) b8 te (none::d) H2 D Q:=by
 have r:=h.length;refine zM (xs:=ks.map V.ref) (fun i σ ys a=>∃v:Option V,σ=v::d/\Same H2 a/\a D=some (.lst ys)/\ys=((kn.map fun p=>decide (dy ns p∈there)).take i).map V.bl)
  ⟨none,rfl,Same.new j,ak,rfl⟩ (fun i σ ys a ⟨_,_,b,_⟩=>b.seq hk) ?_ ?_
 ·rintro i σ ys a z hx hi hy ⟨v,rfl,b,c,rfl⟩
  obtain⟨t,o,rfl⟩:=dE hx;obtain⟨p,ep,hp⟩:=h.get o;refine cv ?_;refine q t p a _ (Ap ep) (b.tp hp) b fun f g=>?_;have e:(kn.map fun p=>decide (dy ns p∈there))[i]?=some (decide (dy ns p∈there)):=by rw[Aj,ep];rfl
  exact bu (by rw[Ab];exact ze ω) hi hy (g _ _ c) ⟨_,rfl,(b.trans g).then j,ak,by rw[AM e,Am];rfl⟩
 ·rintro σ ys a ⟨v,rfl,b,c,rfl⟩
  rw[Az (by rw[Ab,Ab];omega)] at c;exact k a b c
def F_{ns:List (Int×Int)}{kn there:Ξ}:((kn.map fun p=>decide (dy ns p∈there)).all id)=gF ns kn there:=by unfold gF;rw[List.all_map];rfl
def MR{f l:Addr}{fd v:FuncData}(F:Fun K "_law_is_map" "_law_is_map" rT f fd)(B:Bt mg)(Fi:Fun K "_law_image" "_law_image" oy l v)(bi:Binds K v ["piece","names"] [])(mi:mg "_law_image"=some (.ref l)):FnOk P w K mg base az 2 f fd ["known","there","names"] (B8 K):=by
 have Gi:FnOk P w K mg base az 1 l v ["piece","names"] FT:=MH Fi B;refine F.ok MQ (fun vs H Q E h=>?_) (fun cdv A outer s H vs Q E hr h=>?_)
 ·obtain⟨KN,TH,m,ks,ts,ns,kn,pss,there,rfl,_⟩:=h;rfl
 ·obtain⟨KN,TH,m,ks,ts,ns,kn,pss,there,rfl,hk,G,I,hz,g,hT,mE,hm,hd,k⟩:=h
  have hu:=d_ hr;have J:=hr.units;refine⟨_,zd (zR (zp (EE J) (zl xk rfl B.sorted je (ac (zm (kK rfl) rfl B.list ff (ac (pv 2) al)) al))
    (zy ["known","there","names"] ["piece"] [none] (zA (pv 0)) (fun b C s₀ H₀ ex=>zn (i:=0) (b7 ["piece"]) rfl (Or.inl rfl)) (fun b C s₀ H₀ ex=>ik (zp db (zl zk rfl B.len zW (ac (pv 0) al)) zf (ar _)))
     (fun b C s₀ H₀ ex=>zN fb (pv 0) zf (fun _ _=>rfl)) (hfr:=bF δ) (te:=oT K) (tc:=jn K)) (ar _)) (zi (zt dG)) zv)
   (zi (zt (zl (kI rfl) rfl B.all k4 (ac
    (zy ["known","there","names"] ["piece","names","there"] [none,some 2,some 1] (zA (pv 0)) (fun b C s₀ H₀ ex=>zn (i:=0) (b7 ["piece","names","there"]) rfl (Or.inl rfl)) (fun b C s₀ H₀ ex=>zF)
     (fun b C s₀ H₀ ex=>gN (r:=im false K) (DF (in1_units J)) (zo Gi hr rfl mi Fi.kp bi .nil ao (ac (pv 0) (ac (pv 1) al))) (pv 2) (by with_unfolding_all rfl)) (hfr:=ck (zg rT) δ)) al)))),?_⟩
  have cI:=iH kn;refine⟨_,rfl,m,_,rfl,hm,fun L S=>?_⟩;have s1:=Same.new (o:=.lst (((ns.map fun p=>(p.1,V.int p.2)).map fun p=>((Sum.inl p.1:Key),p.2)).map fun kv=>kV kv.1)) S;have ev:(((ns.map fun p=>(p.1,V.int p.2)).map fun p=>((Sum.inl p.1:Key),p.2)).map fun kv=>kV kv.1)=(ns.map (·.1)).map V.int:=by rw[As,As,As];rfl
  refine⟨L,ns.map (·.1),rfl,SqL.of (by rw[ak,ev]),by rw[Ab];omega,fun D ms hp hs T=>?_⟩;have c:=s1.trans (Same.new (o:=.lst (ms.map V.int)) T);obtain rfl:=B7 hp hs;refine⟨_,rfl,KN,rfl,⟨_,c.seq hk⟩,fun D2 U=>zB (rY (c.seq hk) (c.tps G) ω U fun H3 y W=>F7 (SqL.of (y _ _ ak)) (SqL.of W) ⟨_,rfl,?_⟩)⟩;have a:=c.trans y;cases hkb:decide ((ns.map (·.1)).mergeSort (·<=·)=dots kn) with
  |false=>
   refine bg ?_;have e:aW ns kn there=false:=by unfold aW fh;rw[hkb];rfl
   have:=k H3 a;rw[e] at this;exact this
  |true=>
  have e:aW ns kn there=gF ns kn there:=by unfold aW fh;rw[hkb];rfl
  have j:∀p∈kn,∀x∈p,x∈ns.map (·.1):=fun p hp x hx=>oS (kn:=kn) hkb (by rw[I];exact lm (I▸hp) hx);refine aI ⟨_,rfl,KN,rfl,⟨_,a.seq hk⟩,fun D4 X=>zB (F8 (ns:=ns) (there:=there) (a.seq hk) (a.tps G) ω (fun t p O Q' hp Y d q=>?_) X fun O d g=>⟨D4,_,rfl,SqL.of g,?_⟩)⟩
  ·have M:=a.trans d
   refine⟨_,rfl,_,rfl,m,t,ns,p,rfl,M _ _ hm,Y,by have:=g p hp;omega,j p hp,fun u H6 z xW Z=>?_⟩;have N:=M.trans z;refine⟨_,rfl,u,TH,_,ts,there,rfl,rfl,Z,N.seq hT,N.tps mE,?_⟩;rw[if_neg ξ];exact q H6 z
  ·rw[F_,<-e]
   exact k O (a.trans d)
structure WM(K:Ad)(H:Hp)(l o m:Addr)(as bs:List Addr)(pss ae:Ξ)(ns:List (Int×Int)):Prop where
 hl:SqL K H l (as.map V.ref)
 ha:Tps H as pss
 hw:a6 pss
 ho:SqL K H o (bs.map V.ref)
 hb:Tps H bs ae
 hv:a6 ae
 hm:H m=some (zV ns)
 hd:ns.length<=63
def WM.same{H H':Hp}{l o m:Addr}{as bs:List Addr}{pss ae:Ξ}{ns:List (Int×Int)}(h:WM K H l o m as bs pss ae ns)(s:Same H H'):WM K H' l o m as bs pss ae ns:=⟨s.seq h.hl,s.tps h.ha,h.hw,s.seq h.ho,s.tps h.hb,h.hv,s _ _ h.hm,h.hd⟩
def eV{pss:Ξ}(hw:bv pss=true):∀o∈canon pss,o.length<=5/\o≠[]:=fun o a=>by
 obtain⟨_,b,_,_⟩:=gk hw;obtain⟨q,hq,hx⟩:=List.mem_flatMap.mp (z_.mp a);obtain⟨c,d,_,hp⟩:=k7.mp (K_ (b q hq) hx);exact⟨d,c⟩
def B9(K:Ad):Sp:=fun vs H Q _=>∃l o m as bs pss ae ns,vs=[.ref l,.ref o,.ref m]/\WM K H l o m as bs pss ae ns/\∀H',Same H H'->Q (.bl (aW ns (canon pss) (canon ae))) H'
abbrev B_:List Str:=["web","other","names","here","there"]
def B':zq B_ ["web","other","names"] (zg oO):=⟨rfl,rfl,rfl,δ,rfl,δ,δ⟩
def MS{f fp G:Addr}{fd I J:FuncData}(F:Fun K "is_map" "is_map" oO f fd)(B:Bt mg)(Fp:Fun K "pieces" "pieces" n_ fp I)(U:Binds K I ["web"] [])(W:mg "pieces"=some (.ref fp))(Y:FnOk P w K mg base az 8 fp I ["web"] (Bo K))(Fi:Fun K "image_of" "image_of" rL G J)(bi:Binds K J ["names","piece"] [])(mi:mg "image_of"=some (.ref G))(Gi:FnOk P w K mg base az 2 G J ["names","piece"] FR):FnOk P w K mg base az 9 f fd ["web","other","names"] (B9 K):=by
 refine F.ok B' (fun vs H Q E h=>?_) (fun cdv A outer s H vs Q E hr h=>?_)
 ·obtain⟨l,o,m,as,bs,pss,ae,ns,rfl,_⟩:=h;rfl
 ·obtain⟨l,o,m,as,bs,pss,ae,ns,rfl,a,k⟩:=h
  have hu:=d_ hr;have N:=hr.units;have kh:Room 2 _:=hr.mono ξ;refine⟨_,zd (zr (i:=3) B'.nd rfl (Or.inl rfl) (zo Y hr rfl W Fp.kp U .nil ao (ac (pv 0) al)))
   (zd (zr (i:=4) B'.nd rfl (Or.inr rfl) (zo Y hr rfl W Fp.kp U .nil ao (ac (pv 1) al)))
   (zd (zR (zp (EE N) (zl (Ms rfl) rfl B.sorted je (ac (pv 2) al))
    (zy B_ ["piece"] [none] (zA (pv 3)) (fun c C s₀ H₀ ex=>zn (i:=0) (b7 ["piece"]) rfl (Or.inl rfl)) (fun c C s₀ H₀ ex=>ik (zp db (zl zk rfl B.len zW (ac (pv 0) al)) zf (ar _)))
     (fun c C s₀ H₀ ex=>zN fb (pv 0) zf (fun _ _=>rfl)) (hfr:=bF δ) (te:=oT K) (tc:=jn K)) (ar _)) (zi (zt dG)) zv)
   (zi (zt (zl (kI rfl) rfl B.all k4 (ac
    (zy B_ ["piece","names","there"] [none,some 2,some 4] (zA (pv 3)) (fun c C s₀ H₀ ex=>zn (i:=0) (b7 ["piece","names","there"]) rfl (Or.inl rfl)) (fun c C s₀ H₀ ex=>zF)
     (fun c C s₀ H₀ ex=>gN (r:=im false K) (DF (in1_units N)) (zo Gi kh rfl mi Fi.kp bi .nil ao (ac (pv 1) (ac (pv 0) al))) (pv 2) (by with_unfolding_all rfl)) (hfr:=ck (zg oO) δ)) al)))))),?_⟩
  refine⟨_,rfl,l,as,pss,rfl,a.hl,a.ha,a.hw,fun KN H1 ks z yQ Z oM=>?_⟩;have j:=a.same z;refine⟨_,rfl,o,bs,ae,rfl,j.ho,j.hb,j.hv,fun TH H2 ts d jw fZ oC=>?_⟩;have O:=j.same d;have v:=d _ _ Z;have S:=d.tps oM;have hz:=a.hw.2;have cI:=iH (canon pss);have sP:=a.hd;refine⟨_,rfl,m,_,rfl,O.hm,by rw[Ab];omega,fun D ms hp hs hD=>?_⟩;have y:=Same.new (o:=.lst (ms.map V.int)) hD;obtain rfl:=B7 (ks:=ns.map (·.1)) (hp.trans (by rw[As];exact List.Perm.refl _)) hs;refine⟨_,rfl,KN,rfl,⟨_,SqL.of (y _ _ v)⟩,fun D2 aK=>zB (rY (SqL.of (y _ _ v)) (y.tps S) ω aK fun H4 L h4=>F7 (SqL.of (L _ _ ak)) (SqL.of h4) ⟨_,rfl,?_⟩)⟩;have b:=y.trans L;have uc:=O.same b;cases hkb:decide ((ns.map (·.1)).mergeSort (·<=·)=dots (canon pss)) with
  |false=>
   refine bg ?_;have e:aW ns (canon pss) (canon ae)=false:=by unfold aW fh;rw[hkb];rfl
   have:=k H4 ((z.trans d).trans b);rw[e] at this;exact this
  |true=>
  have e:aW ns (canon pss) (canon ae)=gF ns (canon pss) (canon ae):=by unfold aW fh;rw[hkb];rfl
  refine aI ⟨_,rfl,KN,rfl,⟨_,SqL.of (b _ _ v)⟩,fun D4 aZ=>zB (F8 (ns:=ns) (there:=canon ae) (SqL.of (b _ _ v)) (b.tps S) ω (fun t p X Q' hp ht g q=>?_) aZ fun X g h5=>⟨D4,_,rfl,SqL.of h5,?_⟩)⟩
  ·refine⟨_,rfl,_,rfl,m,t,ns,p,rfl,g _ _ uc.hm,ht,by have:=(eV a.hw.1 p hp).1;omega,fun x hx=>oS (kn:=canon pss) hkb (lm hp hx),fun u H6 M xW gm=>?_⟩
   have T:=(b.trans g).trans M;refine⟨_,rfl,u,TH,_,ts,canon ae,rfl,rfl,gm,SqL.of (T _ _ fZ),T.tps oC,?_⟩;rw[if_neg ξ];exact q H6 M
  ·rw[F_,<-e]
   exact k X (((z.trans d).trans b).trans g)
def F'(K:Ad):Sp:=fun vs H Q _=>∃l o m as bs pss ae ns,vs=[.ref l,.ref o,.ref m]/\WM K H l o m as bs pss ae ns/\aW ns (canon pss) (canon ae)=true/\∀H',Same H H'->Q .non H'
def Gd:zq ["web","other","names"] ["web","other","names"] (zg oQ):=⟨rfl,rfl,rfl,δ,rfl,δ,δ⟩
def MT{f a:Addr}{fd b:FuncData}(F:Fun K "must_be_map" "must_be_map" oQ f fd)(Fi:Fun K "is_map" "is_map" oO a b)(g:Binds K b ["web","other","names"] [])(i:mg "is_map"=some (.ref a))(j:FnOk P w K mg base az 9 a b ["web","other","names"] (B9 K)):FnOk P w K mg base az 10 f fd ["web","other","names"] (F' K):=by
 refine F.ok Gd (fun vs H Q E h=>?_) (fun cdv A outer s H vs Q E hr h=>?_)
 ·obtain⟨l,o,m,as,bs,pss,ae,ns,rfl,_⟩:=h;rfl
 ·obtain⟨l,o,m,as,bs,pss,ae,ns,rfl,d,e,k⟩:=h
  refine⟨_,zi (zR (fL (fN (zo j hr rfl i Fi.kp g .nil ao (ac (pv 0) (ac (pv 1) (ac (pv 2) al)))))) tH zv),?_⟩;refine⟨_,rfl,_,rfl,_,rfl,l,o,m,as,bs,pss,ae,ns,rfl,d,fun H1 c=>⟨_,rfl,?_⟩⟩;rw[e];exact aI (k H1 c)
def sh(K:Ad):Sp:=fun vs H Q _=>∃l o m d as bs pss ae ns cs,vs=[.ref l,.ref o,.ref m,.ref d]/\WM K H l o m as bs pss ae ns/\aW ns (canon pss) (canon ae)=true/\WC H l d as pss cs/\(∀c∈cs,c.1∈canon pss)/\
 ∀D H',zu d H H'->Rd H' d (.dT (bb cs))->H D=none->H' D=some (.dT (bb (sumC (carT ns cs))))->Q (.ref D) H'
def MU:zq ["web","other","names","chain"] ["web","other","names","chain"] (zg j9):=⟨rfl,rfl,rfl,δ,rfl,δ,δ⟩
def MV{f y C G:Addr}{fd I J L:FuncData}(F:Fun K "carried" "carried" j9 f fd)(Fm:Fun K "must_be_map" "must_be_map" oQ y I)(bm:Binds K I ["web","other","names"] [])(W:mg "must_be_map"=some (.ref y))(Gm:FnOk P w K mg base az 10 y I ["web","other","names"] (F' K))(Fc:Fun K "must_be_chain" "must_be_chain" rA C J)(X:Binds K J ["web","chain"] [])(Y:mg "must_be_chain"=some (.ref C))(Gc:FnOk P w K mg base az 10 C J ["web","chain"] (Fg K))(Fb:Fun K "carried_by" "carried_by" rS G L)(Z:Binds K L ["names","chain"] [])(mb:mg "carried_by"=some (.ref G))(Gb:FnOk P w K mg base az 4 G L ["names","chain"] F5):FnOk P w K mg base az 11 f fd ["web","other","names","chain"] (sh K):=by
 refine F.ok MU (fun vs H Q E h=>?_) (fun cdv A outer s H vs Q E hr h=>?_)
 ·obtain⟨l,o,m,d,as,bs,pss,ae,ns,cs,rfl,_⟩:=h;rfl
 ·obtain⟨l,o,m,d,as,bs,pss,ae,ns,cs,rfl,p,g,a,b,k⟩:=h
  have r:fh ns (canon pss)=true:=by unfold aW at g;rw[AC] at g;exact g.1
  have u:Room 4 _:=hr.mono ξ;refine⟨_,zd (fO (zo Gm hr rfl W Fm.kp bm .nil ao (ac (pv 0) (ac (pv 1) (ac (pv 2) al)))))
   (zd (fO (zo Gc hr rfl Y Fc.kp X .nil ao (ac (pv 0) (ac (pv 3) al))))
   (zi (zt (zo Gb u rfl mb Fb.kp Z .nil ao (ac (pv 2) (ac (pv 3) al)))))),?_⟩
  refine⟨_,rfl,_,rfl,_,rfl,l,o,m,as,bs,pss,ae,ns,rfl,p,g,fun H1 e=>?_⟩;have i:=a.same e;have y_:=a.ln;have BP:=a.h59;refine⟨_,rfl,_,rfl,l,d,as,pss,cs,rfl,SqL.of i.hl,i.ht,a.hw,ω,i.hd,ω,ω,a.hc,fun H2 j M=>?_⟩;have N:=(p.same e).hm;have v:m≠d:=fE i.hd N (by intro k z;cases z) (by intro q k z;cases z);refine⟨_,rfl,_,rfl,m,d,ns,cs,rfl,j _ _ v N,M,ω,a.nd,fun c hc=>(eV p.hw.1 _ (b c hc)).1,fun c hc x hx=>oS (kn:=canon pss) r (lm (b c hc) hx),fun D H3 O S T U=>?_⟩;exact k D H3 (((zu.of e).trans j).trans O) S (e.free (j.freeD M T)) U
end
end K55
end
section
namespace L2
open PySem PySem.Spec PyProof.Rows
def j'(K:Ad)(a:Addr)(n:Nat):It:=
 ⟨fun i H=>i<n/\∃xs,SqT K H a xs/\xs.length=n,fun i H x H'=>H'=H/\∀xs,SqT K H a xs->xs.reverse[i]?=some x,fun i H=>i=n/\∃xs,SqT K H a xs/\xs.length=n⟩
def MW{P:Program}{w:World}{K:Ad}{tg:Expr}(a it:Addr)(n:Nat):Turn P w K tg (j' K a n) [it] it (fun i h=>RvT.IsRT h it a ((n:Int)-1-(i:Int))) where
 mem:=by simp
 obj:=fun i h st b hb=>by
  have e:b=it:=by simpa using hb
  subst e;obtain⟨o,e,c,d⟩:=st;exact⟨o,e,fun v z=>by rw[d] at z;cases z⟩
 keep:=fun i h h' st k=>st.at fun o e=>k it (by simp) o e
 item:=by
  intro X f hw g hc i aa s σ H E I hf st j;subst f hw g;obtain⟨hi,xs,hq,C⟩:=j;obtain⟨J,r,p,D⟩:=I.tuple hq;have hx:xs.reverse[i]?=some (xs[n-1-i]'ω):=by
   have e:xs.length-1-i=n-1-i:=ω
   rw[List.getElem?_reverse ω,e];exact Af _
  obtain⟨u,hu,F⟩:=r.get (Af (l:=xs) (i:=n-1-i) ω);obtain⟨f0,f1,f2,f3,f4,f5⟩:=hf it (by simp);have e:(n:Int)-1-(i:Int)=((n-1-i:Nat):Int):=ω
  rw[e] at st;refine RvT.next_item st p (x:=u) (by simpa using hu) (by rw[Ai,<-r.length];exact D) fun h' tk q y=>?_;rw[show((n-1-i:Nat):Int)-1=(n:Int)-1-((i+1:Nat):Int) from ω] at q;have G:Inv X aa σ H {s with heap:=h',toks:=tk}:=I.turned (t':=tk) (fun b o hb e=>(y.2 b hb).trans e) f0 f1 f3 f4 f5;obtain⟨o,e,c,d⟩:=id q;exact⟨u,rfl,iN (s:={s with heap:=h',toks:=tk}) e c d ξ ⟨xs[n-1-i]'ω,H,G,F,⟨rfl,fun ys hy=>by rw[I.tuple_inj hy hq];exact hx⟩,q,fun b hb=>(hf b hb).1⟩⟩
 done:=by
  intro X f hw g hc i aa s σ H E I hf st j;subst f hw g;obtain⟨hi,xs,hq,C⟩:=j;obtain⟨f0,f1,f2,f3,f4,f5⟩:=hf it (by simp);rw[hi,show(n:Int)-1-(n:Int)=-1 from ω] at st;exact RvT.next_end (I.ok.hd hc) st fun h' A=>⟨rfl,I.turned (t':=s.toks) (fun b o hb e=>A b o hb e) f0 f1 f3 f4 f5⟩
 self:=fun _ _ _ _ _ st h=>RvT.EC st h
def Ge(K:Ad)(ta:TA):TI:=fun σ H R=>ta σ H fun vs H1=>∃a xs,vs=[.ref a]/\SqT K H1 a xs/\R (j' K a xs.length) H1
section
variable{X:Cx}{tg:Expr}
def Gf{e:Expr}{ta:TA}{p pos:Pos}(v:Gl X "reversed")(hm:X.mg "reversed"=none)(w:AU "reversed"=some (.type "reversed"))(x:PA X [e] ta)(he:starEach [e] X.env=[(false,eval e X.env)]:=by rfl):PI X tg (.Call (.Name "reversed" p) [e] [] pos) (Ge X.K ta):=by
 intro aa s σ H R I h;refine Call_ (iM I v hm w (PyProof.Rows.callWith_type1 (aD (x pos aa s σ H _ I h) fun us c ⟨vs,H1,I1,g,i⟩=>?_) he rfl));obtain⟨a,xs,rfl,hx,q⟩:=i;obtain⟨u,rfl,j⟩:=vals1 g;cases j;obtain⟨d,f,p2,l⟩:=I1.tuple hx;have r:d.toArray.size<=sizeLine:=by rw[Ai,<-f.length];exact l
 refine RvT.KB p2 r fun tk=>?_;refine RvT.EC (s:={c with heap:=c.heap.push (RvT.jV a ((d.toArray.size:Int)-1)),toks:=tk}) ⟨_,Ak _ rfl,rfl,rfl⟩ ?_;refine⟨c⁻¹,[c⁻¹],_,_,H1,rfl,I1.kept fun b o e=>Ae _ e,MW a _ xs.length,⟨_,Ak _ rfl,rfl,?_⟩,fun b hb=>?_,q⟩
 ·show Data.fields #[.ref a,rawInt ((d.toArray.size:Int)-1)]=Data.fields #[.ref a,rawInt ((xs.length:Int)-1-((0:Nat):Int))]
  rw[Ai,f.length];simp
 ·have e:b=c⁻¹:=by simpa using hb
  subst e;exact I1.fpOk (Ag _) (I1.hok.fresh (Ag _))
end
def MX{K:Ad}{a D:Addr}{xs:List V}{g:TG}{tc:TT}{te:TE}{σ:St}{H1:Hp}{Q:VK}(c:Nat->St->List V->Hp->Prop)(j:c 0 σ [] (upd H1 D (.lst [])))(f:∀i σ ys H,c i σ ys H->SqT K H a xs)(hs:∀i σ ys H x,xs.reverse[i]?=some x->i<xs.length->ys.length<=i->c i σ ys H->g x σ H fun d l=>tc d l fun b h=>if b=true then te d h (eO xs.length c D i d) else df xs.length c i d h)(hd:∀σ ys H,c xs.length σ ys H->Q (.ref D) H):cX (j' K a xs.length) g tc te σ H1 D Q:=by
 refine jG xs.length c j (fun σ ys H p=>⟨rfl,xs,f _ _ _ _ p,rfl⟩) (fun i σ ys H hi p=>⟨hi,xs,f _ _ _ _ p,rfl⟩) (fun i σ ys H x H' hi hy p y=>?_) hd;obtain⟨e,y⟩:=y;subst e;exact hs i σ ys _ x (y xs (f _ _ _ _ p)) hi hy p
end L2
end
section
namespace K55
open K1
open PySem L2 STb
def cr(p:List Int):List Int:=p.reverse.map fun x=>99-x
def sj(p:List Int):cr (cr p)=p:=by
 unfold cr;rw[<-List.map_reverse,List.reverse_reverse,As]
 conv=>rhs;rw[<-List.map_id p]
 refine AY fun x _=>?_;show 99-(99-x)=x;omega
def Gg{p q:List Int}(h:cr p=cr q):p=q:=by rw[<-sj p,h,sj]
def MY{p q:List Int}(h:p.Sublist q):(cr p).Sublist (cr q):=(h.reverse).map _
def Gh{p:List Int}(h:p≠[]):cr p≠[]:=fun z=>h (Gg (q:=[]) z)
def Gj(p:List Int):(cr p).length=p.length:=by unfold cr;rw[Ab,List.length_reverse]
def MZ{p:List Int}(h:eT p=true):eT (cr p)=true:=by
 obtain⟨c,d,hr,hp⟩:=k7.mp h;refine k7.mpr ⟨Gh c,by rw[Gj];exact d,fun x hx=>?_,?_⟩
 ·obtain⟨y,hy,rfl⟩:=List.mem_map.mp hx
  have:=hr y (List.mem_reverse.mp hy);omega
 ·unfold cr
  rw[Bi,List.pairwise_reverse];exact hp.imp fun{a b} e=>ω
def M0(pss:Ξ):(dd ((pss.map cr).flatMap parts)).length<=(dd (pss.flatMap parts)).length:=by
 have e:((dd (pss.flatMap parts)).map cr).length=(dd (pss.flatMap parts)).length:=Ab _;rw[<-e];refine(jd _).length_le_of_subset fun x hx=>?_;rw[fv,List.mem_flatMap] at hx;obtain⟨p,hm,hx⟩:=hx;obtain⟨r,hr,rfl⟩:=List.mem_map.mp hm;obtain⟨a,b⟩:=iw.mp hx;refine List.mem_map.mpr ⟨cr x,(fv _ _).mpr (List.mem_flatMap.mpr ⟨r,hr,iw.mpr ⟨Gh a,?_⟩⟩),sj x⟩;have:=MY b
 rwa [sj] at this
def Gq{pss:Ξ}(hw:bv pss=true)(a:pss.Nodup)(d:(canon pss).length<=56):a6 (pss.map cr)/\(canon (pss.map cr)).length<=56:=by
 obtain⟨b,hp,_,c⟩:=gk hw;have hf:=M0 pss;rw[<-zJ,<-zJ] at hf;refine⟨⟨ET (by rw[Ab];exact b) ?_ (fun p hm=>?_) ?_,ω⟩,ω⟩
 ·unfold List.Nodup at a ⊢
  rw[Bi];exact a.imp fun{x y} e z=>e (Gg z)
 ·obtain⟨r,hr,rfl⟩:=List.mem_map.mp hm
  exact MZ (hp r hr)
 ·rw[<-zJ]
  omega
def lr{pss:Ξ}:(dots (canon pss)).Nodup:=by
 unfold dots List.Nodup;rw[Bi];have d:(canon pss).Nodup:=(n9 pss).nodup_iff.mpr (jd _);refine(List.Pairwise.sublist List.filter_sublist d).imp_of_mem fun{a b} c hb h=>?_;have e:a.length=1:=by simpa using (List.mem_filter.mp c).2
 have f:b.length=1:=by simpa using (List.mem_filter.mp hb).2
 match a,b,e,f with
 |[x],[y],_,_=>exact fun z=>h (by rw[show x=y from z])
def sk{ns:List (Int×Int)}{x y:Int}(h:x∉ns.map (·.1)):putK (kZ ns) (Sum.inl x) (V.int y)=kZ (ns++[(x,y)]):=by
 unfold putK;rw[if_neg ?_]
 ·rw[kZ,kZ,Am,Am];rfl
 ·intro z
  obtain⟨kv,h1,h2⟩:=List.any_eq_true.mp z;rw[kZ,As] at h1;obtain⟨p,hp,rfl⟩:=List.mem_map.mp h1;exact h (List.mem_map.mpr ⟨p,hp,Sum.inl.inj (of_decide_eq_true h2)⟩)
def Gu{ns:List (Int×Int)}{x y:Int}(h:x∈ns.map (·.1)):∃ms:List (Int×Int),putK (kZ ns) (Sum.inl x) (V.int y)=kZ ms/\ms.map (·.1)=ns.map (·.1):=by
 refine⟨ns.map fun p=>if p.1=x then(p.1,y) else p,?_,?_⟩
 ·unfold putK
  rw[if_pos ?_]
  ·rw[kZ,kZ,As,As,As,As]
   refine AY fun p _=>?_
   by_cases e:p.1=x
   ·simp[e]
   ·simp[e]
  ·obtain⟨p,hp,e⟩:=List.mem_map.mp h
   refine List.any_eq_true.mpr ⟨(Sum.inl p.1,V.int p.2),?_,by simp[e]⟩;rw[kZ,As];exact List.mem_map.mpr ⟨p,hp,rfl⟩
 ·rw[As]
  refine AY fun p _=>?_;show(if p.1=x then(p.1,y) else p).1=p.1;split<;>rfl
def ka:∀(ns:List (Int×Int)),(ns.map (·.1)).Nodup->foldZ (kZ ns)=kZ ns:=la (P:=fun ns:List (Int×Int)=>(ns.map (·.1)).Nodup->foldZ (kZ ns)=kZ ns) (fun _=>rfl) (fun l t a h=>by
 rw[Am] at h;have h':=List.nodup_append.mp h;have e:kZ (l++[t])=kZ l++[((Sum.inl t.1:Key),V.int t.2)]:=by rw[kZ,kZ,Am,Am];rfl
 rw[e];unfold foldZ at a ⊢;rw[List.foldl_append,a h'.1];show putK (kZ l) (Sum.inl t.1) (V.int t.2)=_;rw[sk (fun z=>h'.2.2 _ z t.1 (by simp) rfl),e])
abbrev gG:Stmt:=top 56
abbrev h_:List Str:=["box","web","known","other","way","dots","names","one","two","edges","piece"]
structure W2(H0 H:Hp)(p O KN OT:Addr)(os ks bs:List Addr)(pss ae:Ξ):Prop where
 sb:zu p H0 H
 bx:zG H p
 hO:H O=some (.lst (os.map V.ref))
 ho:Tps H os pss
 hK:H KN=some (.lst (ks.map V.ref))
 hk:Tps H ks (canon pss)
 hT:H OT=some (.lst (bs.map V.ref))
 hb:Tps H bs ae
def W2.same{a H H':Hp}{p O KN OT:Addr}{os ks bs:List Addr}{pss ae:Ξ}(h:W2 a H p O KN OT os ks bs pss ae)(s:Same H H'):W2 a H' p O KN OT os ks bs pss ae:=
 ⟨h.sb.trans (zu.of s),h.bx.same s,s _ _ h.hO,s.tps h.ho,s _ _ h.hK,s.tps h.hk,s _ _ h.hT,s.tps h.hb⟩
def W2.box{a H H':Hp}{p O KN OT:Addr}{os ks bs:List Addr}{pss ae:Ξ}(h:W2 a H p O KN OT os ks bs pss ae)(s:zu p H H')(b:zG H' p):W2 a H' p O KN OT os ks bs pss ae:=
 ⟨h.sb.trans s,b,s _ _ (h.bx.ne h.hO) h.hO,s.tps h.bx h.ho,s _ _ (h.bx.ne h.hK) h.hK,s.tps h.bx h.hk,s _ _ (h.bx.ne h.hT) h.hT,s.tps h.bx h.hb⟩
def dM{H:Hp}{p M:Addr}{kvs:List (Key×V)}(b:zG H p)(h:H M=some (.dK kvs)):M≠p:=by
 obtain⟨x,y,e,_⟩:=b;exact dj h e (by intro z;cases z)
def W2.put{c H:Hp}{p O KN OT M:Addr}{os ks bs:List Addr}{pss ae:Ξ}{kvs:List (Key×V)}{o:HO}(h:W2 c H p O KN OT os ks bs pss ae)(d:H M=some (.dK kvs))(f:c M=none):W2 c (upd H M o) p O KN OT os ks bs pss ae:=by
 have k1:∀{b:Addr}{u:HO},H b=some u->(∀z,u≠.dK z)->upd H M o b=some u:=fun{b u} e n=>by rw[zj (dj e d (n _))];exact e
 have a:∀{as:List Addr}{l:Ξ},Tps H as l->Tps (upd H M o) as l:=fun t=>Paired.mapP t fun b q hb=>k1 (show H b=some _ from hb) (by intro z y;cases y);refine⟨fun b u hb e=>?_,?_,k1 h.hO (by intro z y;cases y),a h.ho,k1 h.hK (by intro z y;cases y),a h.hk,k1 h.hT (by intro z y;cases y),a h.hb⟩
 ·rw[zj (zh e f)];exact h.sb _ _ hb e
 ·obtain⟨x,y,e,r⟩:=h.bx
  exact⟨x,y,k1 e (by intro z y;cases y),r⟩
abbrev M3(K:Ad):List V->Hp->VK->Prop:=fun xs H Q=>∃p ys,xs=[.ref p]/\((SqL K H p ys/\∀l,H l=none->Q (.ref l) (upd H l (.tup ys)))\/(SqT K H p ys/\Q (.ref p) H))
abbrev kb(K:Ad):TE:=gO (M3 K) (zP (kF (Ge K (zP (aE 0) bq)) [none] (cQ 0) b8 (da (fP fun i j=>.int (i-j)) (tC (.int 99)) (aE 0))) bq)
abbrev Gv(K:Ad):TT:=kz (da p0 (gO (fun xs H Q=>∃p ys,xs=[.ref p]/\(SqL K H p ys\/SqT K H p ys)/\Q (.int ys.length) H) (zP (aE 0) bq)) (tC (.int 2)))
abbrev Cd(K:Ad):TE:=dD (zP (da (dY K) (aE 0) (tC (.int 0))) (zP (da (dY K) (aE 0) (tC (.int 0))) bq))
abbrev Ce(K:Ad):TE:=dD (zP (da (dY K) (aE 0) (tC (.int 0))) (zP (da (fP fun i j=>.int (i-j)) (tC (.int 99)) (da (dY K) (aE 0) (tC (.int 0)))) bq))
abbrev PZ(H:Hp)(ts:List Addr)(kvs:List (Key×V)):Prop:=Paired (fun t(kv:Key×V)=>H t=some (.tup [kV kv.1,kv.2])) ts kvs
section
variable{P:Program}{w:World}{K:Ad}{mg:Str->Option Value}{base:Heap}
def M4{H2:Hp}{L D:Addr}{as:List Addr}{kn:Ξ}{Q:VK}(q:SqL K H2 L (as.map V.ref))(j:Tps H2 as kn)(s:kn.length<=1000)(l:H2 D=none)(k:∀(a:Hp)(es:List Addr),Same H2 a->a D=some (.lst (es.map V.ref))->es.length<=kn.length->(∀e∈es,∃x y,Tp a e [x,y])->Q (.ref D) a):cX (dH K L) (cQ 0) (Gv K) (aE 0) [none] H2 D Q:=by
 have p:=j.length;refine zM (xs:=as.map V.ref) (fun i σ ys a=>∃(v:Option V)(es:List Addr),σ=[v]/\Same H2 a/\a D=some (.lst ys)/\ys=es.map V.ref/\es.length<=i/\∀e∈es,∃x y,Tp H2 e [x,y])
  ⟨none,[],rfl,Same.new l,ak,rfl,Ag _,fun e he=>nomatch he⟩ (fun i σ ys a ⟨_,_,_,c,_⟩=>c.seq q) ?_ ?_
 ·rintro i σ ys a z hx hi hy ⟨v,es,rfl,c,d,rfl,f,b⟩
  obtain⟨t,o,rfl⟩:=dE hx;obtain⟨ps,r,g⟩:=j.get o;refine⟨_,rfl,t,_,rfl,.inr (SqT.of (c.tp g)),rfl,_,rfl,?_⟩;rw[show(ps.map V.int).length=ps.length from Ab _]
  by_cases h1:ps.length=2
  ·rw[decide_eq_true (by rw[h1];rfl)]
   refine bg ⟨_,rfl,bu (by rw[Ab];exact ze ω) hi hy d ⟨_,es++[t],rfl,c.then l,ak,by rw[Am];rfl,by rw[Aw,List.length_singleton];omega,fun e he=>?_⟩⟩;rcases List.mem_append.mp he with he|he
   ·exact b e he
   ·obtain rfl:=List.mem_singleton.mp he
    match ps,h1 with
    |[x,y],_=>exact⟨x,y,g⟩
  ·rw[decide_eq_false (fun z=>h1 (by injection z with z;omega))]
   exact aI (eu hi hy ⟨_,es,rfl,c,d,rfl,ω,b⟩)
 ·rintro σ ys a ⟨v,es,rfl,c,d,rfl,f,b⟩
  rw[Ab,p] at f;exact k a es c d f fun e he=>by obtain⟨x,y,h⟩:=b e he;exact⟨x,y,c.tp h⟩
def Gx{H2:Hp}{L D:Addr}{as:List Addr}{kn:Ξ}{te:TE}{g:Int->Int}{Q:VK}(I:SqL K H2 L (as.map V.ref))(w:Tps H2 as kn)(M:kn.length<=1000)(J:∀(t:Addr)(x:Int)(c:Hp)(A:VK),Tp c t [x]->(∀u,c u=none->A (.ref u) (upd c u (.tup [.int x,.int (g x)])))->te [some (.ref t)] c A)(y:H2 D=none)(k:∀(c:Hp)(ts:List Addr),Same H2 c->c D=some (.lst (ts.map V.ref))->PZ c ts (kZ ((dots kn).map fun x=>(x,g x)))->Q (.ref D) c):cX (dH K L) (cQ 0) (jn K) te [none] H2 D Q:=by
 have E:=w.length;have F:∀l:List (Int×Int),∀q:Int×Int,kZ (l++[q])=kZ l++[((Sum.inl q.1:Key),V.int q.2)]:=fun l q=>by rw[kZ,kZ,Am,Am];rfl
 have G:∀{H H':Hp}{ts:List Addr}{kvs:List (Key×V)},PZ H ts kvs->Same H H'->PZ H' ts kvs:=fun h s=>Paired.mapP h fun _ _ e=>s _ _ e;refine zM (xs:=as.map V.ref) (fun i σ ys c=>∃(v:Option V)(ts:List Addr),σ=[v]/\Same H2 c/\c D=some (.lst ys)/\ys=ts.map V.ref/\PZ c ts (kZ ((dots (kn.take i)).map fun x=>(x,g x))))
  ⟨none,[],rfl,Same.new y,ak,rfl,.nil⟩ (fun i σ ys c ⟨_,_,_,d,_⟩=>d.seq I) ?_ ?_
 ·rintro i σ ys c z hx hi hy ⟨v,ts,rfl,d,f,rfl,hp⟩
  obtain⟨t,C,rfl⟩:=dE hx;obtain⟨ps,p,r⟩:=w.get C;refine⟨_,rfl,t,_,rfl,.inr (SqT.of (d.tp r)),rfl,_,rfl,?_⟩;rw[show(ps.map V.int).length=ps.length from Ab _]
  by_cases h1:ps.length=1
  ·rw[decide_eq_true (by rw[h1];rfl)]
   match ps,h1 with
   |[x],_=>
    refine bg (J t x c _ (d.tp r) fun u hu=>?_);have j:=Same.new (o:=.tup [.int x,.int (g x)]) hu;refine bu (by rw[Ab];exact ze ω) hi hy (j _ _ f) ⟨_,ts++[u],rfl,(d.trans j).then y,ak,by rw[Am];rfl,?_⟩;rw[AM p,ll,show(if [x].length=1 then [[x].headD 0] else [])=[x] from rfl,Am,show([x].map fun x=>(x,g x))=[(x,g x)] from rfl,F];refine Paired.mapP (Paired.snoc (G hp j) (b:=((Sum.inl x:Key),V.int (g x))) (a:=u) ak) fun b q e=>?_;rw[zj (dj e (j _ _ f) (by intro z;cases z))];exact e
  ·rw[decide_eq_false (fun z=>h1 (by injection z with z;omega))]
   refine aI (eu hi hy ⟨_,ts,rfl,d,f,rfl,?_⟩);rw[AM p,ll,if_neg h1,List.append_nil];exact hp
 ·rintro σ ys c ⟨v,ts,rfl,d,f,rfl,hp⟩
  rw[Ab,E,take_all] at hp;exact k c ts d f hp
def Gy{H2:Hp}{L D:Addr}{as:List Addr}{pss:Ξ}{Q:VK}(H:SqL K H2 L (as.map V.ref))(w:Tps H2 as pss)(M:pss.length<=1000)(I:∀p∈pss,p.length<=5)(y:H2 D=none)(k:∀(a:Hp)(ts:List Addr),Same H2 a->a D=some (.lst (ts.map V.ref))->Tps a ts (pss.map cr)->Q (.ref D) a):cX (dH K L) (cQ 0) b8 (kb K) [none] H2 D Q:=by
 have J:=w.length;refine zM (xs:=as.map V.ref) (fun i σ ys a=>∃(v:Option V)(ts:List Addr),σ=[v]/\Same H2 a/\a D=some (.lst ys)/\ys=ts.map V.ref/\Tps a ts ((pss.map cr).take i))
  ⟨none,[],rfl,Same.new y,ak,rfl,.nil⟩ (fun i σ ys a ⟨_,_,_,b,_⟩=>b.seq H) ?_ ?_
 ·rintro i σ ys a z hx hi hy ⟨v,ts,rfl,b,f,rfl,hp⟩
  obtain⟨t,C,rfl⟩:=dE hx;obtain⟨ps,r,s⟩:=w.get C;have G:=I ps (Ap r);refine cv ?_;refine⟨_,rfl,t,_,rfl,SqT.of (b.tp s),fun A l=>zB (MX (K:=K) (xs:=ps.map V.int) (fun j σ ys d=>∃v:Option V,σ=[v]/\Same a d/\d A=some (.lst ys)/\ys=((cr ps).take j).map V.int) ⟨none,rfl,Same.new l,ak,rfl⟩ (fun j σ ys d ⟨_,_,c,_⟩=>SqT.of (c.tp (b.tp s))) ?_ ?_)⟩
  ·rintro j σ ys d x hx E F ⟨v,rfl,c,g,rfl⟩
   rw[<-List.map_reverse] at hx;obtain⟨q,eq,rfl⟩:=gh hx;have e:(cr ps)[j]?=some (99-q):=by unfold cr;rw[Aj,eq];rfl
   refine cv ⟨_,rfl,_,_,rfl,rfl,bu (by rw[Ab];exact ze ω) E F g ⟨_,rfl,c.then l,ak,by rw[AM e,Am];rfl⟩⟩
  ·rintro σ ys d ⟨v,rfl,c,g,rfl⟩
   rw[Az (by rw[Gj,Ab];exact Ag _)] at g;refine⟨A,_,rfl,.inl ⟨SqL.of g,fun u hu=>?_⟩⟩;have h:=c.trans (Same.new (o:=.tup ((cr ps).map V.int)) hu);have e:(pss.map cr)[i]?=some (cr ps):=by rw[Aj,r];rfl
   refine bu (by rw[Ab];exact ze ω) hi hy (h _ _ f) ⟨_,ts++[u],rfl,(b.trans h).then y,ak,by rw[Am];rfl,?_⟩;rw[AM e];exact Tps.upd (Tps.append (h.tps hp) (.cons ak .nil)) (h _ _ f) (by intro xs z;cases z)
 ·rintro σ ys a ⟨v,ts,rfl,b,f,rfl,hp⟩
  rw[Az (by rw[Ab,Ab];omega)] at hp;exact k a ts b f hp
end
end K55
end
section
namespace L2
open PySem PySem.Spec PyProof.Rows
section
variable{X:Cx}{scope:Scope}{N':List Str}{aw:List (Option Nat)}{tg iter cp:Expr}{bH:List Expr}{wi:TI}{g:TG}{tc:TT}{te:TE}{pos:Pos}
def M5{i:Nat}{x:Str}{a9 w:Pos}(hc:X.calm=true)(hk:scope.kind=.function)(F:∀y∈scope.names,y.2≠.cell)(P:∀y∈scope.names,y.2=.local->scope.names.lookup y.1=some .local)(hfr:∀y∈scope.names,y.2=.free->X.env.kindOf y.1=some .cell\/X.env.kindOf y.1=some .free)(Q:qu X.N N' aw scope)(hi:PI X tg iter wi)(S:∀d C s₀ H₀ ex,PG (cxC X scope N' d C s₀ H₀ ex) tg g)(T:∀d C s₀ H₀ ex,i7 (cxC X scope N' d C s₀ H₀ ex) bH tc)(he:∀d C s₀ H₀ ex,PE (cxC X scope N' d C s₀ H₀ ex) cp te)(hs:∀x,foldedSetIterable iter X.env x=pure x)(U:X.N.Nodup)(p:X.N[i]?=some x)(hx:Loc X.env.scope x)(hf:X.fn x=true\/X.env.scope.names.lookup x=some .local)(W:swapsWith (.ListComp cp [⟨tg,iter,bH,0⟩] scope pos) (some (.Name x a9)) w.line X.env=pure true):PS X (.Assign [.Name x a9] (.ListComp cp [⟨tg,iter,bH,0⟩] scope pos) w) (ia (kF wi aw g tc te) (cQ i)):=by
 intro aa s σ H D I h;rw[exec_Assign_Name_used _ _ _ _ W];refine Aa (wpAny_standAt (Aa ?_));show wpAny _ X.A (do let _ <-comprehension (.ListComp cp [⟨tg,iter,bH,0⟩] scope pos) scope X.env _ (newList []) (firstAsync [⟨tg,iter,bH,0⟩]) (firstIter [⟨tg,iter,bH,0⟩] X.env) (some (assign (.Name x a9) X.env))) _ _ s;refine Aa (wpAny_mono (Dq (use:=some (assign (.Name x a9) X.env)) (R:=fun _ s'=>SP X aa D .next s') hc hk F P hfr Q hi S T he hs I h fun E C H' r f L q=>?_) (fun _ s' hq=>Ac (Ac hq)) fun _ _ e=>e);show wpAny _ X.A (assign (.Name x a9) X.env (.ref E)) _ _ r;refine wpAny_assign_Name (CB (v:=.ref E) (L.back r.heap (Heap.SameBut.refl _ _)) U p hx rfl (fun G I5 ⟨a,l,J⟩=>?_) hf);have O:C≠a:=by
  rcases J with e|e
  ·rw[e];exact L.nl
  ·exact fun z=>L.nc x a e z.symm
 obtain⟨m,M⟩:=L.ns;refine⟨m,M.sameBut l O,fun h' j=>⟨_,H',?_,q⟩⟩;refine I5.call' (s':={G with heap:=h'}) (ch:=[C]) rfl ⟨fun b o q n hb hx=>?_,fun b o q n hb hx=>?_,fun b o q n hx=>n,fun b o q hx=>?_,fun b xs q=>q,fun b o u q=>q,fun b ps q=>⟨#[],by simpa using q⟩⟩ ?_ I5.bare fun b hb=>?_
 ·exact(j.2 b (by simpa using hx)).trans q
 ·exact⟨o.slots,(j.2 b (by simpa using hx)).trans q⟩
 ·exact⟨o,(j.2 b (by simpa using hx)).trans q⟩
 ·intro b u e
  refine(I5.hok b u e).stay (fun c v hc q=>(j.2 c ?_).trans q) (fun _ q=>q) fun _ _ q=>q;rintro rfl;rcases hc with z|z
  ·rw[<-z,L.no] at e;cases e
  ·rw[L.no] at z;cases z
 ·have e:b=C:=by simpa using hb
  subst e;exact⟨.inr L.far,L.nl,L.nc,L.np⟩
end
section
variable{X:Cx}{scope:Scope}{aw:List (Option Nat)}{tg iter cp:Expr}{bH:List Expr}{wi:TI}{g:TG}{tc:TT}{te:TE}{pos:Pos}
def oX{i:Nat}{x:Str}{a9 c:Pos}(d:X.N.Nodup)(b:X.N[i]?=some x)(hx:Loc X.env.scope x)(N N':List Str)(aw:List (Option Nat))(hi:PI X tg iter wi)(e:∀a C s₀ H₀ ex,PG (cxC X scope N' a C s₀ H₀ ex) tg g)(f:∀a C s₀ H₀ ex,i7 (cxC X scope N' a C s₀ H₀ ex) bH tc)(he:∀a C s₀ H₀ ex,PE (cxC X scope N' a C s₀ H₀ ex) cp te)(hc:X.calm=true:=by rfl)(hk:scope.kind=.function:=by rfl)(h:∀y∈scope.names,y.2≠.cell:=by decide +kernel)(j:∀y∈scope.names,y.2=.local->scope.names.lookup y.1=some .local:=by decide +kernel)(hfr:∀y∈scope.names,y.2=.free->X.env.kindOf y.1=some .cell\/X.env.kindOf y.1=some .free)(l:X.N=N:=by rfl)(o:ir N N' aw scope=true:=by decide +kernel)(hs:∀x,foldedSetIterable iter X.env x=pure x:=by intro _;rfl)(hf:X.fn x=true\/X.env.scope.names.lookup x=some .local:=by first|exact .inl rfl|exact .inr rfl|assumption)(p:swapsWith (.ListComp cp [⟨tg,iter,bH,0⟩] scope pos) (some (.Name x a9)) c.line X.env=pure true:=by rfl):PS X (.Assign [.Name x a9] (.ListComp cp [⟨tg,iter,bH,0⟩] scope pos) c) (ia (kF wi aw g tc te) (cQ i)):=
 M5 hc hk h j hfr (Eg (by rw[l];exact o)) hi e f he hs d b hx hf p
end
end L2
end
section
namespace K55
open K1
open PySem L2 STb
section
variable{P:Program}{w:World}{K:Ad}{mg:Str->Option Value}{base:Heap}
def Gz:Sp:=fun vs H Q _=>∃p,vs=[.ref p]/\zG H p/\∀T O OT M os bs pss ae ns H',zu p H H'->zG H' p->H' T=some (.tup [.ref O,.ref OT,.ref M])->H' O=some (.lst (os.map V.ref))->Tps H' os pss->Drawn pss->H' OT=some (.lst (bs.map V.ref))->Tps H' bs ae->a6 ae->(canon ae).length<=56->H' M=some (zV ns)->ns.map (·.1)=dots (canon pss)->Q (.ref T) H'
def dO:zq h_ ["box"] (zg gG):=⟨rfl,rfl,rfl,δ,rfl,δ,δ⟩
def M6(p:List Int)(h:p≠[]):∃y,atI (p.map V.int) (-1)=some (.int y):=by
 rw[<-List.dropLast_concat_getLast h,Am];exact⟨_,C2 _ _⟩
def M8(p:List Int)(h:p≠[]):∃x r,p=x::r:=by
 cases p with
 |nil=>exact absurd rfl h
 |cons x r=>exact⟨x,r,rfl⟩
def M9{f ft fw fl:Addr}{fd cw c5 fB:FuncData}(F:Fun K "_law_pair" "_law_pair" gG f fd)(B:Bt mg)(Ft:Fun K "_law_take" "_law_take" jY ft cw)(bt:Binds K cw ["box","most"] [])(mt:mg "_law_take"=some (.ref ft))(Fw:Fun K "_law_web" "_law_web" iu fw c5)(bw:Binds K c5 ["box"] [])(mw:mg "_law_web"=some (.ref fw))(Gw:FnOk P w K mg base az 3 fw c5 ["box"] EO)(Fl:Fun K "_law_pieces" "_law_pieces" ri fl fB)(bl:Binds K fB ["web"] [])(ml:mg "_law_pieces"=some (.ref fl))(Gl:FnOk P w K mg base az 2 fl fB ["web"] (jR K)):FnOk P w K mg base az 4 f fd ["box"] Gz:=by
 have Gt:FnOk P w K mg base az 1 ft cw ["box","most"] hF:=nY Ft;refine F.ok dO (fun vs H Q E h=>?_) (fun cdv A outer s H vs Q E hr h=>?_)
 ·obtain⟨p,rfl,_⟩:=h;rfl
 ·obtain⟨p,rfl,hb,k⟩:=h
  have hu:=d_ hr;have au:=hr.units;have I:Room 1 _:=hr.mono ξ;have kh:Room 2 _:=hr.mono ξ;have uP:∃tr,PSs (bc az P w K mg base h_ "_law_pair" (zg gG) f cdv A outer s H E).nox (List.drop 13 (zK gG)) tr/\
    ∀(O KN OT M:Addr)(os ks bs:List Addr)(pss ae:Ξ)(ns:List (Int×Int))(c:Int)(v v7 v8 S G:Option V)(H2:Hp),W2 H H2 p O KN OT os ks bs pss ae->Drawn pss->a6 ae->(canon ae).length<=56->H2 M=some (zV ns)->ns.map (·.1)=dots (canon pss)->
     tr {nx:=fun _ H'=>Q .non H',rt:=Q} [some (.ref p),some (.ref O),some (.ref KN),some (.ref OT),some (.int c),v,some (.ref M),v7,v8,S,G] H2:=by
   refine⟨_,zd (zR (zp db (pv 4) zf (ar _))
     (zd (zr (i:=6) dO.nd rfl (Or.inl rfl) (zm (zH rfl au) rfl B.dict g0 (ac (zy h_ ["piece"] [none] (zA (pv 2)) (fun l C s₀ H₀ ex=>zn (i:=0) (b7 ["piece"]) rfl (Or.inl rfl))
      (fun l C s₀ H₀ ex=>ik (zp db (zl zk rfl B.len zW (ac (pv 0) al)) zf (ar _)))
      (fun l C s₀ H₀ ex=>dw (ac (zN fb (pv 0) zf (fun _ _=>rfl)) (ac (zE ku zf (zN fb (pv 0) zf (fun _ _=>rfl))) al))) (hfr:=bF δ) (tc:=jn K) (te:=Ce K)) al)))
     (zi (oX (i:=3) dO.nd rfl (Or.inl rfl) h_ ["piece"] [none] (zA (pv 1)) (fun l C s₀ H₀ ex=>zn (i:=0) (b7 ["piece"]) rfl (Or.inl rfl)) (fun l C s₀ H₀ ex=>zF)
      (fun l C s₀ H₀ ex=>zm zL rfl B.tuple jf (ac (zy ["piece"] ["point"] [none] (Gf rfl B.reversed Eh (ac (pv 0) al)) (fun l C s₀ H₀ ex=>zn (i:=0) (b7 ["point"]) rfl (Or.inl rfl)) (fun l C s₀ H₀ ex=>zF)
       (fun l C s₀ H₀ ex=>zE ku zf (pv 0)) (hfr:=bF δ)) al)) (hfr:=bF δ) (te:=kb K)))) zv)
    (zi (zt (dw (ac (pv 1) (ac (pv 3) (ac (pv 6) al)))))),?_⟩
   intro O KN OT M os ks bs pss ae ns c v v7 v8 S G H2 W d hv X hM hd;obtain⟨hw,bC,o0⟩:=k8 d;obtain⟨_,_,h5,_⟩:=gk hw;have jL:(canon pss).length<=56:=by rw[zJ];exact k_ d
   refine⟨_,rfl,rfl,_,rfl,be (fun _=>?_) (fun _=>?_)⟩
   ·refine⟨_,rfl,KN,rfl,⟨_,SqL.of W.hK⟩,fun D hD=>zB (Gx (g:=fun x=>99-x) (SqL.of W.hK) W.hk ω (fun t x U Q' ht q=>?_) hD fun U ts s3 h3 pz=>⟨D,ts,_,rfl,SqL.of h3,pz,fun M2 g_=>?_⟩)⟩
    ·exact⟨_,rfl,t,_,0,.int x,rfl,rfl,SqT.of ht,zx (j:=0) rfl,_,rfl,t,_,0,.int x,rfl,rfl,SqT.of ht,zx (j:=0) rfl,_,_,rfl,rfl,ze (by simp),q⟩
    have u:(((dots (canon pss)).map fun x=>(x,99-x)).map (·.1))=dots (canon pss):=by rw[As];exact List.map_id' _
    rw[ka _ (by rw[u];exact lr)];have s4:=s3.trans (Same.new (o:=zV ((dots (canon pss)).map fun x=>(x,99-x))) g_);have W4:=W.same s4;have j5:=ak (H:=U) (a:=M2) (o:=zV ((dots (canon pss)).map fun x=>(x,99-x)));refine⟨_,rfl,O,rfl,⟨_,SqL.of W4.hO⟩,fun D2 aK=>zB (Gy (SqL.of W4.hO) W4.ho ω h5 aK fun H5 us s5 Y t5=>?_)⟩;have W5:=W4.same s5;obtain⟨m1,m2⟩:=Gq hw bC jL;refine⟨_,rfl,_,rfl,_,rfl,ze (by simp),fun T hT=>?_⟩;have sT:=Same.new (o:=.tup [.ref O,.ref D2,.ref M2]) hT;have W6:=W5.same sT;exact k T O D2 M2 os us pss _ _ _ W6.sb W6.bx ak W6.hO W6.ho d (sT _ _ Y) (sT.tps t5) m1 m2 (sT _ _ (s5 _ _ j5)) u
   ·refine⟨_,rfl,_,rfl,_,rfl,ze (by simp),fun T hT=>?_⟩
    have sT:=Same.new (o:=.tup [.ref O,.ref OT,.ref M]) hT;have W6:=W.same sT;exact k T O OT M os bs pss ae ns _ W6.sb W6.bx ak W6.hO W6.ho d W6.hT W6.hb hv X (sT _ _ hM) hd
  obtain⟨w9,jN,cz⟩:=uP;have vA:∃tr,PSs (bc az P w K mg base h_ "_law_pair" (zg gG) f cdv A outer s H E).nox (List.drop 11 (zK gG)) tr/\
    ∀(O KN OT M:Addr)(os ks bs:List Addr)(pss ae:Ξ)(c x1 x2:Int)(v S G:Option V)(H2:Hp),W2 H H2 p O KN OT os ks bs pss ae->Drawn pss->a6 ae->(canon ae).length<=56->H2 M=some (zV [])->H M=none->
     tr {nx:=fun _ H'=>Q .non H',rt:=Q} [some (.ref p),some (.ref O),some (.ref KN),some (.ref OT),some (.int c),v,some (.ref M),some (.int x1),some (.int x2),S,G] H2:=by
   refine⟨_,zd (dW A7 rfl (zA (pv 2)) (zn (i:=10) dO.nd rfl (Or.inl rfl))
     (zi (zR (zp db (zl zk rfl B.len zW (ac (pv 10) al)) zf (ar _))
      (zi (gb hu (pv 6) (zN fb (pv 10) zf (fun _ _=>rfl)) (zN zD (zO (ac (pv 7) (ac (pv 8) al))) (zo Gt I rfl mt Ft.kp bt .nil ao (ac (pv 0) (ac zf al))) (fun _ _=>rfl)) rfl)) zv)))
    (zd (zR (zp db (pv 4) zf (ar _))
     (zd (zr (i:=6) dO.nd rfl (Or.inl rfl) (zm (zH rfl au) rfl B.dict g0 (ac (zy h_ ["piece"] [none] (zA (pv 2)) (fun l C s₀ H₀ ex=>zn (i:=0) (b7 ["piece"]) rfl (Or.inl rfl))
      (fun l C s₀ H₀ ex=>ik (zp db (zl zk rfl B.len zW (ac (pv 0) al)) zf (ar _)))
      (fun l C s₀ H₀ ex=>dw (ac (zN fb (pv 0) zf (fun _ _=>rfl)) (ac (zN fb (pv 0) zf (fun _ _=>rfl)) al))) (hfr:=bF δ) (tc:=jn K) (te:=Cd K)) al)))
     (zi (zR (PW.pt (tj (zp db (zo Gt I rfl mt Ft.kp bt .nil ao (ac (pv 0) (ac zf al))) zf (ar _)) (ti (zp iU (zl zk rfl B.len zW (ac (pv 2) al)) zf (ar _)))))
      (zd (zr (i:=10) dO.nd rfl (Or.inl rfl) (zN zD (pv 2) (zo Gt I rfl mt Ft.kp bt .nil ao (ac (pv 0) (ac (zl zk rfl B.len zW (ac (pv 2) al)) al))) (fun _ _=>rfl)))
      (zi (gb hu (pv 6) (zN fb (pv 10) zf (fun _ _=>rfl)) (zN fb (pv 10) (uz uB zf) (fun _ _=>rfl)) rfl))) zv))) zv)
    jN),?_⟩
   intro O KN OT M os ks bs pss ae c x1 x2 v S G H2 W d hv X hM gR;obtain⟨hw,bC,o0⟩:=k8 d;have jL:(canon pss).length<=56:=by rw[zJ];exact k_ d
   have aL:=W.hk.length;refine⟨_,rfl,KN,rfl,⟨_,SqL.of W.hK⟩,gM (K:=K) (a:=KN) (xs:=ks.map V.ref) (fun i σ U=>∃(G:Option V)(ns:List (Int×Int)),σ=[some (.ref p),some (.ref O),some (.ref KN),some (.ref OT),some (.int c),v,some (.ref M),some (.int x1),some (.int x2),S,G]/\W2 H U p O KN OT os ks bs pss ae/\U M=some (zV ns)/\ns.map (·.1)=dots ((canon pss).take i))
    ⟨G,[],rfl,W,hM,rfl⟩ (fun i σ U _ ⟨_,_,_,h,_⟩=>SqL.of h.hK) ?_ ?_⟩
   ·rintro i x σ U hx ⟨G,ns,rfl,W3,j_,eQ⟩
    obtain⟨t,et,rfl⟩:=dE hx;obtain⟨ps,aV,a7⟩:=W3.hk.get et;have hi:i<(canon pss).length:=(List.getElem?_eq_some_iff.mp aV).1;refine⟨_,rfl,t,_,rfl,.inr (SqT.of a7),rfl,_,rfl,?_⟩;rw[show(ps.map V.int).length=ps.length from Ab _]
    by_cases h1:ps.length=1
    ·rw[decide_eq_true (by rw[h1];rfl)]
     match ps,h1 with
     |[y],_=>
      refine bg ⟨_,rfl,_,rfl,ze (by simp),fun L hL=>⟨_,rfl,p,2,rfl,(W3.same (Same.new hL)).bx,ξ,ξ,fun r H5 r0 r1 bd b0=>?_⟩⟩;have sL:=Same.new (o:=.lst [.int x1,.int x2]) hL;have WL:=W3.same sL;have sf:L≠p:=by
       obtain⟨a,b,e,_⟩:=W3.bx;exact(zh e hL).symm
      have W5:=WL.box bd b0;have vj:=bd _ _ sf ak;have N:=bd _ _ (dM WL.bx (sL _ _ j_)) (sL _ _ j_);have nt:Tp H5 t [y]:=bd.tp WL.bx (sL.tp a7);obtain⟨z,ez⟩:∃z,atI [V.int x1,V.int x2] r=some (.int z):=by
       have:r=0\/r=1:=ω
       rcases this with rfl|rfl
       ·exact⟨x1,zx (j:=0) rfl⟩
       ·exact⟨x2,zx (j:=1) rfl⟩
      have hdk:y∉ns.map (·.1):=by
       rw[eQ];have hnn:=lr (pss:=pss);rw[<-List.take_append_drop (i+1) (canon pss),AM aV] at hnn;unfold dots at hnn ⊢;rw[List.filter_append,List.filter_append,Am,Am,List.nodup_append] at hnn;have:=(List.nodup_append.mp hnn.1).2.2;exact fun z=>this y z y (by simp) rfl
      have hlen:(kZ ns).length<sizeLine:=by
       have e:=congrArg List.length eQ;rw[Ab] at e;have:=iH ((canon pss).take i);rw[AJ] at this;rw[kZ,Ab,Ab];exact zZ ω
      refine⟨L,_,_,.int z,rfl,rfl,SqL.of vj,ez,_,rfl,_,rfl,t,_,0,.int y,rfl,rfl,SqT.of nt,zx (j:=0) rfl,M,_,rfl,DPut.k (k:=Sum.inl y) N hlen,⟨_,ns++[(y,z)],rfl,W5.put N gR,?_,?_⟩⟩
      ·rw[ak,sk hdk]
      ·rw[Am,eQ,AM aV,ll];rfl
    ·rw[decide_eq_false (fun z=>h1 (by injection z with z;omega))]
     refine aI ⟨_,ns,rfl,W3,j_,?_⟩;rw[eQ,AM aV,ll,if_neg h1,List.append_nil]
   ·rintro σ U ⟨G,ns,rfl,W3,j_,eQ⟩
    rw[Ab,aL,take_all] at eQ;refine⟨_,rfl,rfl,_,rfl,be (fun _=>?_) (fun _=>?_)⟩
    ·refine⟨_,rfl,KN,rfl,⟨_,SqL.of W3.hK⟩,fun D hD=>zB (Gx (g:=fun x=>x) (SqL.of W3.hK) W3.hk ω (fun t x H4 Q' ht q=>?_) hD fun H4 ts s4 h4 pz=>⟨D,ts,_,rfl,SqL.of h4,pz,fun M2 g_=>?_⟩)⟩
     ·exact⟨_,rfl,t,_,0,.int x,rfl,rfl,SqT.of ht,zx (j:=0) rfl,_,rfl,t,_,0,.int x,rfl,rfl,SqT.of ht,zx (j:=0) rfl,ze (by simp),q⟩
     have u:(((dots (canon pss)).map fun x=>(x,x)).map (·.1))=dots (canon pss):=by rw[As];exact List.map_id' _
     rw[ka _ (by rw[u];exact lr)];have mq:H M2=none:=W3.sb.free hb W3.bx (s4.free g_);have s5:=s4.trans (Same.new (o:=zV ((dots (canon pss)).map fun x=>(x,x))) g_);have W5:=W3.same s5;have N:=ak (H:=H4) (a:=M2) (o:=zV ((dots (canon pss)).map fun x=>(x,x)));generalize upd H4 M2 (zV ((dots (canon pss)).map fun x=>(x,x)))=H5 at s5 W5 N;refine⟨_,rfl,p,2,rfl,W5.bx,ξ,ξ,fun r H6 r0 r1 Z cb=>⟨rfl,_,rfl,?_⟩⟩;have W6:=W5.box Z cb;have gU:=Z _ _ (dM W5.bx N) N;refine be (fun _=>?_) (fun _=>?_)
     ·refine⟨_,rfl,KN,_,rfl,.inl (SqL.of W6.hK),_,_,rfl,rfl,_,rfl,be (fun hgt=>?_) (fun _=>?_)⟩
      ·have dL:0<ks.length:=by
        have:=of_decide_eq_true hgt;rw[Ab] at this;omega
       refine⟨_,rfl,_,rfl,_,rfl,KN,_,rfl,.inl (SqL.of W6.hK),p,_,rfl,W6.bx,by rw[Ab];omega,by rw[Ab];omega,fun J H7 q0 q1 dh gf=>?_⟩;rw[Ab] at q1;have W7:=W6.box dh gf;have qT:=dh _ _ (dM W6.bx gU) gU;obtain⟨t,et⟩:∃t,ks[J.toNat]?=some t:=⟨ks[J.toNat]'ω,Af _⟩;obtain⟨ps,aV,a7⟩:=W7.hk.get et;have hmem:=Ap aV;obtain⟨h5,hne⟩:=eV hw ps hmem;obtain⟨y,ey⟩:=M6 ps hne;obtain⟨x,rr,rfl⟩:=M8 ps hne;have hin:x∈dots (canon pss):=lm hmem Av;obtain⟨ms,em,iD⟩:=Gu (ns:=(dots (canon pss)).map fun x=>(x,x)) (x:=x) (y:=y) (by rw[u];exact hin);have er:J=((J.toNat:Nat):Int):=ω
       have cI:=iH (canon pss);refine⟨KN,_,_,.ref t,rfl,rfl,SqL.of W7.hK,by rw[er];exact zx (by rw[Aj,et];rfl),?_⟩;refine⟨_,rfl,_,rfl,t,_,_,.int y,rfl,rfl,SqT.of a7,ey,_,rfl,_,rfl,t,_,0,.int x,rfl,rfl,SqT.of a7,zx (j:=0) rfl,M2,_,rfl,DPut.k (k:=Sum.inl x) qT (by rw[Ab,Ab,Ab];exact zZ ω),?_⟩;refine cz O KN OT M2 os ks bs pss ae ms c v _ _ S _ _ (W7.put qT mq) d hv X ?_ (by rw[iD,u]);rw[ak];exact congrArg (fun z=>some (HO.dK z)) em
      ·exact cz O KN OT M2 os ks bs pss ae _ c v _ _ S _ _ W6 d hv X gU u
     ·exact aI (cz O KN OT M2 os ks bs pss ae _ c v _ _ S _ _ W6 d hv X gU u)
    ·exact cz O KN OT M os ks bs pss ae ns c v _ _ S _ _ W3 d hv X j_ eQ
  obtain⟨tY,kg,c8⟩:=vA;have R8:∃tr,PSs (bc az P w K mg base h_ "_law_pair" (zg gG) f cdv A outer s H E).nox (List.drop 8 (zK gG)) tr/\
    ∀(O KN OT M:Addr)(os ks bs:List Addr)(pss ae:Ξ)(c x1:Int)(v v8 S G:Option V)(H2:Hp),W2 H H2 p O KN OT os ks bs pss ae->Drawn pss->Drawn ae->H2 M=some (zV [])->H M=none->
     tr {nx:=fun _ H'=>Q .non H',rt:=Q} [some (.ref p),some (.ref O),some (.ref KN),some (.ref OT),some (.int c),v,some (.ref M),some (.int x1),v8,S,G] H2:=by
   refine⟨_,zd (zr (i:=8) dO.nd rfl (Or.inl rfl) (pv 7))
    (zd (oX (i:=9) dO.nd rfl (Or.inl rfl) h_ ["piece"] [none] (zA (zo Gl kh rfl ml Fl.kp bl .nil ao (ac (pv 3) al))) (fun l C s₀ H₀ ex=>zn (i:=0) (b7 ["piece"]) rfl (Or.inl rfl))
      (fun l C s₀ H₀ ex=>ik (zp db (zl zk rfl B.len zW (ac (pv 0) al)) zf (ar _))) (fun l C s₀ H₀ ex=>pv 0) (hfr:=bF δ) (tc:=Gv K))
    (zd (zR (PW.pt (tj (zp iU (zl zk rfl B.len zW (ac (pv 9) al)) zf (ar _)) (ti (zp db (zo Gt I rfl mt Ft.kp bt .nil ao (ac (pv 0) (ac zf al))) zf (ar _)))))
     (zi (lS (zN zD (pv 9) (zo Gt I rfl mt Ft.kp bt .nil ao (ac (pv 0) (ac (zl zk rfl B.len zW (ac (pv 9) al)) al))) (fun _ _=>rfl)) (kr rfl (zT (zn (i:=7) dO.nd rfl (Or.inl rfl)) (zT (zn (i:=8) dO.nd rfl (Or.inl rfl)) kq))))) zv)
    kg)),?_⟩
   intro O KN OT M os ks bs pss ae c x1 v v8 S G H2 W d gC hM gR;obtain⟨lN,_,_⟩:=k8 gC;obtain⟨cn,_,h5,_⟩:=gk lN;have cR:=k_ gC;have X:(canon ae).length<=56:=by rw[zJ];exact cR
   have hv:a6 ae:=⟨lN,ω⟩;refine⟨_,rfl,_,rfl,OT,bs,ae,rfl,SqL.of W.hT,W.hb,h5,cn,ω,fun mK U qs t=>?_⟩;obtain⟨bV,s3,_,gZ,dN⟩:=jl t;refine⟨mK,rfl,⟨_,SqL.of gZ⟩,fun ED wu=>zB (M4 (SqL.of gZ) dN ω wu fun H4 es s4 h4 eP hes=>?_)⟩;have bK:=s3.trans s4;have W4:=W.same bK;have j5:=bK _ _ hM;refine⟨_,rfl,ED,_,rfl,.inl (SqL.of h4),_,_,rfl,rfl,_,rfl,be (fun hgt=>?_) (fun _=>?_)⟩
   ·have dL:0<es.length:=by
     have:=of_decide_eq_true hgt;rw[Ab] at this;omega
    refine⟨_,rfl,p,2,rfl,W4.bx,ξ,ξ,fun r H5 r0 r1 bd b0=>⟨rfl,_,rfl,?_⟩⟩;have W5:=W4.box bd b0;have N:=bd _ _ (dM W4.bx j5) j5;have Y:=bd _ _ (W4.bx.ne h4) h4;refine be (fun _=>?_) (fun _=>?_)
    ·refine⟨_,rfl,_,rfl,_,rfl,ED,_,rfl,.inl (SqL.of Y),p,_,rfl,W5.bx,by rw[Ab];omega,by rw[Ab];omega,fun J H6 q0 q1 Z cb=>?_⟩
     rw[Ab] at q1;have W6:=W5.box Z cb;have gU:=Z _ _ (dM W5.bx N) N;have h6:=Z _ _ (W5.bx.ne Y) Y;obtain⟨e,ee⟩:∃e,es[J.toNat]?=some e:=⟨es[J.toNat]'ω,Af _⟩;obtain⟨x,y,kQ⟩:=hes e (Ap ee);have l8:Tp H6 e [x,y]:=Z.tp W5.bx (bd.tp W4.bx kQ);have er:J=((J.toNat:Nat):Int):=ω
     refine⟨ED,_,_,.ref e,rfl,rfl,SqL.of h6,by rw[er];exact zx (by rw[Aj,ee];rfl),e,_,rfl,SqT.of l8,rfl,_,_,rfl,_,_,rfl,rfl,?_⟩;exact c8 O KN OT M os ks bs pss ae c x y v _ G _ W6 d hv X gU gR
    ·exact c8 O KN OT M os ks bs pss ae c x1 x1 v _ G _ W5 d hv X N gR
   ·exact aI (c8 O KN OT M os ks bs pss ae c x1 x1 v _ G _ W4 d hv X j5 gR)
  obtain⟨BM,oj,gI⟩:=R8;have R5:∃tr,PSs (bc az P w K mg base h_ "_law_pair" (zg gG) f cdv A outer s H E).nox (List.drop 5 (zK gG)) tr/\
    ∀(O KN OT:Addr)(os ks bs:List Addr)(pss ae:Ξ)(c:Int)(H2:Hp),W2 H H2 p O KN OT os ks bs pss ae->Drawn pss->Drawn ae->
     tr {nx:=fun _ H'=>Q .non H',rt:=Q} [some (.ref p),some (.ref O),some (.ref KN),some (.ref OT),some (.int c),none,none,none,none,none,none] H2:=by
   refine⟨_,zd (oX (i:=5) dO.nd rfl (Or.inl rfl) h_ ["piece"] [none] (zA (zo Gl kh rfl ml Fl.kp bl .nil ao (ac (pv 3) al))) (fun l C s₀ H₀ ex=>zn (i:=0) (b7 ["piece"]) rfl (Or.inl rfl))
      (fun l C s₀ H₀ ex=>ik (zp db (zl zk rfl B.len zW (ac (pv 0) al)) zf (ar _))) (fun l C s₀ H₀ ex=>zN fb (pv 0) zf (fun _ _=>rfl)) (hfr:=bF δ) (tc:=jn K) (te:=oT K))
    (zd (zr (i:=6) dO.nd rfl (Or.inl rfl) v9)
    (zd (zr (i:=7) dO.nd rfl (Or.inl rfl) (tu (zp iU (zl zk rfl B.len zW (ac (pv 5) al)) zf (ar _)) (zN zD (pv 5) (zo Gt I rfl mt Ft.kp bt .nil ao (ac (pv 0) (ac (zl zk rfl B.len zW (ac (pv 5) al)) al))) (fun _ _=>rfl)) zf))
    oj)),?_⟩
   intro O KN OT os ks bs pss ae c H2 W d gC;obtain⟨lN,_,_⟩:=k8 gC;obtain⟨cn,_,h5,_⟩:=gk lN;have cR:=k_ gC;have X:(canon ae).length<=56:=by rw[zJ];exact cR
   refine⟨_,rfl,OT,bs,ae,rfl,SqL.of W.hT,W.hb,h5,cn,ω,fun mK U qs t=>?_⟩;obtain⟨bV,s3,_,gZ,dN⟩:=jl t;refine⟨mK,rfl,⟨_,SqL.of gZ⟩,fun DD jT=>zB (rY (SqL.of gZ) dN ω jT fun H4 s4 h4=>fun M hM=>?_)⟩;have bK:=s3.trans s4;have sM:=Same.new (o:=.dK []) hM;have W5:=(W.same bK).same sM;have gR:H M=none:=(W.same bK).sb.free hb (W.same bK).bx hM;have cJ:=sM _ _ h4;have N:=ak (H:=H4) (a:=M) (o:=.dK []);have cI:=iH (canon ae);refine⟨_,rfl,DD,_,rfl,.inl (SqL.of cJ),_,_,rfl,rfl,_,rfl,be (fun hgt=>?_) (fun _=>?_)⟩
   ·have dL:0<(dots (canon ae)).length:=by
     have:=of_decide_eq_true hgt;rw[Ab] at this;omega
    refine⟨_,rfl,_,rfl,_,rfl,DD,_,rfl,.inl (SqL.of cJ),p,_,rfl,W5.bx,by rw[Ab];omega,by rw[Ab];omega,fun J H6 q0 q1 Z cb=>?_⟩;rw[Ab] at q1;have W6:=W5.box Z cb;have gU:=Z _ _ (dM W5.bx N) N;have hDp:DD≠p:=by
     obtain⟨x,y,e,_⟩:=(W.same s3).bx;exact(zh e jT).symm
    have gS:=Z _ _ hDp cJ;obtain⟨x,ex⟩:∃x,(dots (canon ae))[J.toNat]?=some x:=⟨(dots (canon ae))[J.toNat]'ω,Af _⟩;have er:J=((J.toNat:Nat):Int):=ω
    exact⟨DD,_,_,.int x,rfl,rfl,SqL.of gS,by rw[er];exact zx (by rw[Aj,ex];rfl),gI O KN OT M os ks bs pss ae c x _ none none none _ W6 d gC gU gR⟩
   ·exact gI O KN OT M os ks bs pss ae c 0 _ none none none _ W5 d gC N gR
  obtain⟨Bs,nq,gH⟩:=R5;refine⟨_,zd (zr (i:=1) dO.nd rfl (Or.inl rfl) (zo Gw hr rfl mw Fw.kp bw .nil ao (ac (pv 0) al)))
   (zd (zr (i:=2) dO.nd rfl (Or.inl rfl) (zo Gl kh rfl ml Fl.kp bl .nil ao (ac (pv 1) al)))
   (zd (zr (i:=3) dO.nd rfl (Or.inl rfl) (zo Gw hr rfl mw Fw.kp bw .nil ao (ac (pv 0) al)))
   (zd (zr (i:=4) dO.nd rfl (Or.inl rfl) (zo Gt I rfl mt Ft.kp bt .nil ao (ac (pv 0) (ac zf al))))
   (zd (zR (zp db (pv 4) zf (ar _)) (zi (zr (i:=3) dO.nd rfl (Or.inl rfl) (zm me rfl B.list ff (ac (pv 1) al)))) zv)
   nq)))),?_⟩
  refine⟨_,rfl,p,rfl,hb,fun O os pss H1 cB hb1 BR fQ qX d=>?_⟩;obtain⟨hw,bC,o0⟩:=k8 d;obtain⟨cn,_,h5,_⟩:=gk hw;have cR:=k_ d;refine⟨_,rfl,O,os,pss,rfl,SqL.of fQ,qX,h5,cn,ω,fun KN H2 qs t=>?_⟩;obtain⟨ks,s2,_,eY,bS⟩:=jl t;have aS:=hb1.same s2;refine⟨_,rfl,p,rfl,aS,fun OT bs ae U aH ay jw mW tm gC=>?_⟩;have W3:W2 H U p O KN OT os ks bs pss ae:=⟨(cB.trans (zu.of s2)).trans aH,ay,aH _ _ (aS.ne (s2 _ _ fQ)) (s2 _ _ fQ),aH.tps aS (s2.tps qX),aH _ _ (aS.ne eY) eY,aH.tps aS bS,mW,tm⟩;refine⟨_,rfl,p,4,rfl,ay,ξ,ξ,fun c H4 w0 w1 aR bE=>?_⟩;have W4:=W3.box aR bE;refine⟨_,rfl,rfl,_,rfl,be (fun _=>?_) (fun _=>?_)⟩
  ·refine⟨_,rfl,O,_,rfl,.inl (SqL.of W4.hO),fun L hL=>?_⟩
   have sL:=Same.new (o:=.lst (os.map V.ref)) hL;have W5:=W4.same sL;exact gH O KN L os ks os pss pss c _ ⟨W5.sb,W5.bx,W5.hO,W5.ho,W5.hK,W5.hk,ak,W5.ho⟩ d d
  ·exact gH O KN OT os ks bs pss ae c _ W4 d gC
end
end K55
end
section
namespace DEq
open PySem
section
variable{prog:Program}{w:World}{K:Type}[DecidableEq K]{knd:HeapKind prog w K}{A:Around}{E:Ω}{s:Shared}
def M_{id:String}{a b:Addr}{xs ys:List (K×Addr×Value)}{Q:Bool->Shared->Prop}(hu:knd.room A)(U:(a==A2)=false)(hb:(b==A2)=false)(hx:s.heap.DictOfH knd a xs)(hy:s.heap.DictOfH knd b ys)(W:xs.length=ys.length)(X:∀(i:Nat) k p v,xs[i]?=some (k,p,v)->∃(j:Nat)(q:Addr)(n:Int)(t t':Tok),v=.int n t/\ys[j]?=some (k,q,.int n t'))(h:Q true s):wpAny (model prog w) A (Builtin.Dict.samePairs id a b) Q E s:=by
 obtain⟨Z,c,pa,g,rj,l,G,ld,rF⟩:=hx;obtain⟨ob,L,pb,u,M,z,C,N,H⟩:=hy;have I:=size_of_entries (knd:=knd) G;have S:=size_of_entries (knd:=knd) C;unfold Builtin.Dict.samePairs Builtin.Dict.showsAll;rw[if_neg (by rw[U];exact Ao),if_neg (by rw[hb];exact Ao)];refine Aa (Ac (Aa (Ac ?_)));refine Aa (AO g l ?_);dsimp only;refine Aa (AO u z ?_);rw[if_neg (by rw[I,S,W];simp)];refine Aa (wpAny_dictEpoch g l ?_);refine Aa ?_;rw[Std.Legacy.Range.forIn_eq_forIn_range'];simp only[Std.Legacy.Range.size,Nat.sub_zero,Nat.add_sub_cancel,Nat.div_one];refine wpAny_forIn_list _ (fun rest r s'=>s'=s/\r.1=none/\∃i,rest=List.range' i (c.size-i)/\i<=c.size) _ ?_ ?_ _ _ ⟨rfl,rfl,0,by simp,AK _⟩
 ·rintro x rest r s' ⟨rfl,d,i,hr,hi⟩
  have f:i<c.size:=by
   rcases Nat.lt_or_ge i c.size with h|h
   ·exact h
   ·rw[Nat.sub_eq_zero_of_le h] at hr;simp at hr
  obtain⟨rfl,O⟩:x=i/\rest=List.range' (i+1) (c.size-(i+1)):=by
   have e:c.size-i=(c.size-(i+1))+1:=ω
   rw[e,List.range'_succ] at hr;injection hr with h1 h2
   exact⟨h1,h2⟩
  obtain⟨⟨k,p,v⟩,hkv⟩:∃y,xs[x]?=some y:=⟨xs[x]'(by rw[<-I];exact f),Af _⟩;obtain⟨P,q,n,t,t',rfl,D⟩:=X x k p v hkv;have hex:c[x]?=some ⟨knd.hash k,.ref p,.int n t⟩:=by rw[entry_at G x,hkv];rfl
  have F:knd.is s'.heap k p:=ld _ (Ap hkv);refine Aa (AO g l ?_);rw[hex];dsimp only;refine Aa (AA (Aa (wpAny_dictFind_heap hu F u z C N H (fun o=>absurd D (o P _)) fun j Y J=>?_)));obtain rfl:=idxH_unique H J D;dsimp only;refine Aa (AO u z ?_);have T:L[j]?=some ⟨knd.hash k,.ref q,.int n t'⟩:=by rw[entry_at C j,D];rfl
  rw[T];dsimp only;refine AA (wpAny_eqBool_int ?_);rw[if_neg (by simp)];refine Aa (wpAny_dictEpoch g l ?_);rw[if_neg (by simp)];exact Ac ⟨rfl,rfl,x+1,O,f⟩
 ·rintro⟨r1,r2⟩ s' ⟨rfl,d,_⟩
  simp only at d;subst d;exact Ac h
def M'{id:String}{a b:Addr}{xs ys:List (K×Addr×Value)}{Q:Bool->Shared->Prop}(p:(a==A2)=false)(hb:(b==A2)=false)(hx:s.heap.DictOfH knd a xs)(hy:s.heap.DictOfH knd b ys)(q:xs.length≠ys.length)(h:Q false s):wpAny (model prog w) A (Builtin.Dict.samePairs id a b) Q E s:=by
 obtain⟨r,u,v,c,x,d,e,ld,y⟩:=hx;obtain⟨ob,z,C,f,g,i,j,D,F⟩:=hy;have l:=size_of_entries (knd:=knd) e;have o:=size_of_entries (knd:=knd) j;unfold Builtin.Dict.samePairs Builtin.Dict.showsAll;rw[if_neg (by rw[p];exact Ao),if_neg (by rw[hb];exact Ao)];refine Aa (Ac (Aa (Ac ?_)));refine Aa (AO c d ?_);dsimp only;refine Aa (AO f i ?_);rw[if_pos (by rw[l,o];simpa using q)];exact Aa (wpAny_rule (Ac h))
def Na{a b:Addr}{r:Bool}{Q:Ω}(c:A.units<cLine)(hx:s.TypeIs (.ref a) "dict")(hy:s.TypeIs (.ref b) "dict")(hs:∀(id:String)(R:Bool->Shared->Prop)(d:Ω)(A':Around),A'.units<=A.units+8->R r s->wpAny (model prog w) A' (Builtin.Dict.samePairs id a b) R d s)(h:Q (.bool (!r)) s):wpAny (model prog w) A (compareOp .NotEq (.ref a) (.ref b)) Q E s:=by
 show wpAny _ _ (richCompare .NotEq (.ref a) (.ref b)) _ _ _;refine wpAny_richCompare_same_room (op:=.NotEq) hx hy F.slot_dict_ne (AF F.slot_dict_ne hx F.entry_dict_ne ?_ (F.args_dict_ne_2 _ _)) c;unfold Builtin.«dict.__ne__»
 wp_delta
 refine Aa ?_;unfold Builtin.Dict.dictSlotArgs;refine Aa (wpAny_notOrdered_dict hx ?_);refine Aa (show wpAny _ _ (pure (Value.ref a,[Value.ref b])) _ _ _ from Ac ?_);refine Ac ?_;dsimp only;refine Aa (Bg hy DCp.yD ?_);simp only[A5,Ah,if_false];refine Aa (show wpAny _ _ (pure a) _ _ _ from Ac ?_);refine Aa (show wpAny _ _ (pure b) _ _ _ from Ac ?_);refine Aa (hs _ _ _ _ (by show A.units+1<=_;omega) ?_);refine Ac ⟨_,rfl,(fun e=>nomatch e),?_⟩;cases r<;>exact h
end
end DEq
namespace L2
open PySem PySem.Spec PyProof.Rows
def fj(H:Hp)(a b:Addr)(r:Bool):Prop:=∃(kvs bU:List (List Key×V))(pss c:Ξ)(ns:List Int),Rd H a (.dT kvs)/\Rd H b (.dT bU)/\kvs.map (·.1)=pss.map (·.map Sum.inl)/\bU.map (·.1)=c.map (·.map Sum.inl)/\kvs.map (·.2)=ns.map V.int/\
 ((r=true/\kvs.length=bU.length/\∀kv∈kvs,kv∈bU)\/(r=false/\kvs.length≠bU.length))
section
variable{X:Cx}
def Nb{aa:Ψ}{s:Shared}{σ:St}{H:Hp}{a b:Addr}{r:Bool}(I:Inv X aa σ H s)(hu:X.A.units+64<cLine)(h:fj H a b r):s.TypeIs (.ref a) "dict"/\s.TypeIs (.ref b) "dict"/\
  ∀(id:String)(R:Bool->Shared->Prop)(x:Ω)(A':Around),A'.units<=X.A.units+8->R r s->wpAny (model X.prog X.w) A' (Builtin.Dict.samePairs id a b) R x s:=by
 obtain⟨kvs,bU,pss,O,ns,y,hb,hp,l,z,hc⟩:=h;obtain⟨o,xs,d,P,C⟩:=re I.hok y hp;obtain⟨q,ys,f,bl,D⟩:=re I.hok hb l;refine⟨(d X.prog X.w).typeIs,(f X.prog X.w).typeIs,fun id R x A' N hR=>?_⟩;rcases hc with ⟨rfl,E,hm⟩|⟨rfl,E⟩
 ·refine DEq.M_ (knd:=tupleKind (intKind X.prog X.w)) (show A'.units<cLine from ω) o q (d _ _) (f _ _) ω (fun i k p v e=>?_) hR
  obtain⟨g1,kv,g2,g3⟩:=C i _ e;obtain⟨j,g⟩:=List.getElem?_of_mem (hm kv (Ap g2));have J:j<ys.length:=by have:=(List.getElem?_eq_some_iff.mp g).1;omega
  have u:ys[j]?=some ys[j]:=Af J;obtain⟨f1,Q,f2,f3⟩:=D j ys[j] u;rw[g] at f2;obtain rfl:=An f2;have k1:kv.1=k.map Sum.inl:=by
   have:=congrArg (·[i]?) hp;simp only[Aj,g2,g1,A1,A9] at this;exact this
  have k2:kv.1=ys[j].1.map Sum.inl:=by
   have:=congrArg (·[j]?) l;simp only[Aj,g,f1,A1,A9] at this;exact this
  have L:ys[j].1=k:=gX.mp (k2.symm.trans k1);have c:=congrArg (·[i]?) z;simp only[Aj,g2,A1] at c;cases en:ns[i]? with
  |none=>rw[en] at c;simp at c
  |some n=>
   rw[en] at c;have M:kv.2=V.int n:=by simpa using c
   rw[M] at g3 f3;obtain⟨t,F⟩:=(show ∃t,v=Value.int n t from g3);obtain⟨t',G⟩:=(show ∃t,ys[j].2.2=Value.int n t from f3);refine⟨j,ys[j].2.1,n,t,t',F,?_⟩;rw[u,<-L,<-G]
 ·exact DEq.M' (knd:=tupleKind (intKind X.prog X.w)) o q (d _ _) (f _ _) ω hR
def Nc(hu:X.A.units+64<cLine):ci X (compareOp .NotEq) (fun x y H Q=>∃a b r,x=.ref a/\y=.ref b/\fj H a b r/\Q (.bl (!r)) H):=by
 intro aa s σ H x y v u Q I c d h;obtain⟨a,b,r,rfl,rfl,hc,q⟩:=h;cases c;cases d;obtain⟨e,f,hs⟩:=Nb I hu hc;exact DEq.Na ω e f hs ⟨.bl (!r),H,I,rfl,q⟩
end
end L2
end
section
namespace K55
open K1
open PySem L2 STb
abbrev Cf:Stmt:=top 53
section
variable{P:Program}{w:World}{K:Ad}{mg:Str->Option Value}{base:Heap}
def o7:Sp:=fun vs H Q _=>∃n,vs=[.int n]/\Q (.bl true) H
def Nd:zq ["x"] ["x"] (zg Cf):=⟨rfl,rfl,rfl,δ,rfl,δ,δ⟩
def Nf{f:Addr}{fd:FuncData}(F:Fun K "_law_whole" "_law_whole" Cf f fd)(B:Bt mg):FnOk P w K mg base az 1 f fd ["x"] o7:=by
 refine F.ok Nd (fun vs H Q E h=>?_) (fun cdv A outer s H vs Q E hr h=>?_)
 ·obtain⟨n,rfl,_⟩:=h;rfl
 ·obtain⟨n,rfl,k⟩:=h
  refine⟨_,zi (zt (Ha (zl Lq rfl B.isinstance nH (ac (pv 0) (ac (pE (v:=.ty "int") rfl B.int qY rfl) al))) (G' (Hb (zl Lr rfl B.isinstance nH (ac (pv 0) (ac (pE (v:=.ty "bool") rfl B.bool JS rfl) al))))))),?_⟩;exact⟨_,rfl,n,rfl,_,rfl,bg ⟨_,rfl,n,rfl,_,rfl,k⟩⟩
end
end K55
end
section
namespace L2
open PySem PySem.Spec PyProof.Rows
def Ng(f:Array Value->Array Value)(o:Obj):(o.mapFields f).dict=o.dict:=by unfold Obj.mapFields;split<;>rfl
def Xc(h:Heap)(x:Addr)(C:Value)(T:Option Addr):Prop:=
 ∃b vs,h.get? x=some b/\b.cls=C/\b.dict=none/\b.data=.fields vs/\1<vs.size/\((T=none/\vs[1]?=some .none)\/∃a c ts,T=some a/\vs[1]?=some (.ref a)/\a≠x/\h.get? a=some c/\c.data=.fields ts/\ts[3]?=some .none)
def lu(fr:List Addr)(x:Addr)(T:Option Addr)(h h':Heap):Prop:=
 (∀b o,h.get? b=some o->b≠x->T≠some b->b∉fr->h'.get? b=some o)/\(∀b o,h.get? b=some o->b∈fr->∃a,h'.get? b=some {o with slots:=a})/\h.objs.size<=h'.objs.size
section
variable{M:Model}{A:Around}{E:Ω}{s:Shared}
def sm{base:Heap}{env:Env}{outer:List Env}{L x:Addr}{j:Obj}{vs:Array Value}{head:Value}{N:Bool}{Q:Unit->Shared->Prop}(hfr:A.frames=some (env::outer))(F:s.heap.FunFrames base (env::outer))(hf:env.frame=some L)(he:s.heap.get? x=some j)(O:j.dict=none)(hd:j.data=.fields vs)(hsz:1<vs.size)(h:∀h' T',s⁻¹<=T'->Xc h' x j.cls (some T')->lu ((env::outer).filterMap (·.frame)) x none s.heap h'->Q () {s with heap:=h'}):wpAny M A (do let a <-frameOf env;let d <-entryPlaceOf L N;let b <-EntryCells.newEntry head a .none (rawInt L) .none d;setField (.ref x) 1 b) (fun _ s'=>wpAny M A (setFlight (.ref x) none) Q E s') E s:=by
 have g:x∉(env::outer).filterMap (·.frame):=fun hm=>by
  obtain⟨_,o,p,H⟩:=F.mem hm;rw[he] at p;injection p with p;subst p;exact H vs hd
 refine Aa (wpAny_frameOf_fun hfr F hf fun c l=>?_);refine Aa (wpAny_entryPlaceOf fun d i=>?_);unfold EntryCells.newEntry newFields;refine Aa (AE ?_ (i.sizeOk5 _ _ _ _ _));have y:c.get? x=some j:=(l.2.1 x g).trans he;have z:=Ae (h:=c) {cls:=.type "traceback",dict:=none,data:=.fields ([head,.ref L,.none,rawInt L,.none]++(if d.isEmpty then List.replicate 6 Value.none else d)).toArray} y;refine Bf z hd hsz ?_;have u:c.objs.size≠x:=Nat.ne_of_gt (Al y);have v:=AX hd (·.setIfInBounds 1 (Value.ref c.objs.size));have C:=Heap.get?_update_self (Obj.mapFields (·.setIfInBounds 1 (Value.ref c.objs.size))) z (Obj.isFreed_of_fields v);have D:=(Heap.get?_update_other (c.push {cls:=.type "traceback",dict:=none,data:=.fields ([head,.ref L,.none,rawInt L,.none]++(if d.isEmpty then List.replicate 6 Value.none else d)).toArray})
  (Obj.mapFields (·.setIfInBounds 1 (Value.ref c.objs.size))) (Ne.symm u)).trans (Ak c rfl)
 unfold setFlight;refine Aa (AS C v (x:=.ref c.objs.size) (by simp[hsz]) ?_);rw[if_pos (show(Value.ref c.objs.size != Value.none)=true from by simp)];have P:c.objs.size=s⁻¹:=l.1;refine Bf D rfl (by simp only[Ai,Aw,Au,List.length_nil]<;>omega) (h _ c.objs.size ω ?_ ?_)
 ·refine⟨_,_,?_,Obj.cls_mapFields _ _,(Ng _ _).trans O,v,by simpa using hsz,.inr ⟨c.objs.size,_,_,rfl,by simp[hsz],u,Heap.get?_update_self _ D (Obj.isFreed_of_fields (AX rfl _)),AX rfl _,?_⟩⟩
  ·rw[Heap.get?_update_other _ _ u];exact C
  ·first|(simp;done)|(rcases i with rfl|⟨_,_,_,_,_,_,_,rfl⟩<;>simp)
 ·have keep:∀b o,b≠x->c.get? b=some o->
    (((c.push {cls:=.type "traceback",dict:=none,data:=.fields ([head,.ref L,.none,rawInt L,.none]++(if d.isEmpty then List.replicate 6 Value.none else d)).toArray}).update x (Obj.mapFields (·.setIfInBounds 1 (Value.ref c.objs.size)))).update c.objs.size
     (Obj.mapFields (·.setIfInBounds 3 ((none:Option Addr).elim Value.none fun f=>rawInt f)))).get? b=some o:=fun b o q hb=>by
   have w:c.objs.size≠b:=Nat.ne_of_gt (Al hb);rw[Heap.get?_update_other _ _ w,Heap.get?_update_other _ _ (Ne.symm q)];exact Ae _ hb
  refine⟨fun b o hb G _ r=>keep b o G ((l.2.1 b r).trans hb),fun b o hb r=>?_,?_⟩
  ·obtain⟨I,J⟩:=l.2.2 b o hb
   exact⟨I,keep b _ (fun e=>g (e▸r)) J⟩
  ·rw[A8,A8,Heap.size_push]
   show s⁻¹<=c.objs.size+1;omega
def Nh{base:Heap}{env:Env}{outer:List Env}{L x:Addr}{C:Value}{T:Option Addr}{Q:Unit->Shared->Prop}(hfr:A.frames=some (env::outer))(p:s.heap.FunFrames base (env::outer))(hf:env.frame=some L)(he:Xc s.heap x C T)(h:∀h' T',s⁻¹<=T'->Xc h' x C (some T')->lu ((env::outer).filterMap (·.frame)) x T s.heap h'->Q () {s with heap:=h'}):wpAny M A (leaving env (.ref x)) Q E s:=by
 obtain⟨D,vs,he,rfl,u,hd,hsz,h1⟩:=he;unfold leaving noteFrame;simp only[hf];rcases h1 with ⟨rfl,h1⟩|⟨a,F,ts,rfl,h1,z,j,l,v⟩
 ·refine Aa (Aa (AS he hd h1 ?_))
  rw[if_neg ξ];exact sm hfr p hf he u hd hsz h
 ·refine Aa (Aa (AS he hd h1 ?_))
  rw[if_pos (show(Value.ref a != Value.none)=true from by simp)];refine Aa (AS j l v ?_);rw[if_neg (show ¬((Value.none==rawInt L)=true) from by simp[rawInt])];refine Aa (Bf j l (Array.getElem?_eq_some_iff.mp v).1 ?_);have g:∀b,b≠a->(s.heap.update a (Obj.mapFields (·.setIfInBounds 3 Value.none))).get? b=s.heap.get? b:=fun b hb=>Heap.get?_update_other _ _ (Ne.symm hb);have w:∀b o,s.heap.get? b=some o->(∀vs,o.data≠.fields vs)->b≠a:=fun b o hb c q=>by
   rw[q,j] at hb;injection hb with hb;subst hb;exact c ts l
  refine sm hfr (p.of_keeps fun b o hb c=>⟨o,(g b (w b o hb c)).trans hb,rfl⟩) hf ((g x (Ne.symm z)).trans he) u hd hsz fun h' T' r hx hk=>h h' T' (by rw[A8] at r;exact r) hx ?_;obtain⟨k1,k2,k3⟩:=hk;refine⟨fun b o hb y i f=>k1 b o ((g b fun e=>i (by rw[e])).trans hb) y (by simp) f,fun b o hb f=>?_,by rw[A8] at k3;exact k3⟩;obtain⟨_,o',d,c⟩:=p.mem f;rw[hb] at d;cases d;exact k2 b o ((g b (w b o hb c)).trans hb) f
end
def fG(P:Program)(w:World):eL:=fun outer H s E e s'=>∃(x C:Addr)(T:Option Addr)(H':Hp),e=.ref x/\s'.os=s.os/\AllBare s'.gens/\Un (frs outer) [] H H' s.heap s'.heap/\HOk P w H' s'.heap/\
 H' x=none/\s.heap.get? x=none/\(∀a,T=some a->H' a=none/\s.heap.get? a=none)/\Xc s'.heap x (.ref C) T/\E e (some C) H'
def GA{P:Program}{w:World}{H:Hp}{h h':Heap}{fr:List Addr}{x:Addr}{T:Option Addr}(f:HOk P w H h)(k:lu fr x T h h')(hx:H x=none)(g:∀a,T=some a->H a=none)(hf:∀b∈fr,H b=none):HOk P w H h':=by
 intro b u e;refine(f b u e).stay (fun c v hc q=>k.1 c v q ?_ ?_ ?_) (fun _ q=>q) fun _ _ q=>q
 all_goals
  have d:H c≠none:=by
   rcases hc with z|z
   ·rw[z,e];simp
   ·rw[z];simp
 ·exact fun z=>d (z▸hx)
 ·exact fun z=>d (g c z)
 ·exact fun z=>d (hf c z)
def GB{P:Program}{w:World}{K:Ad}{mg:Str->Option Value}{base:Heap}{N:List Str}{g:Str}{scope:Scope}{f:Addr}{h:Value}{A:Around}{outer:List Env}{s:Shared}{H:Hp}{E:XK}{aa:Ψ}{σ:St}{H':Hp}{s':Shared}{x C:Addr}{T:Option Addr}(I:Inv (bc (fG P w) P w K mg base N g scope f h A outer s H E) aa σ H' s')(hx:Xc s'.heap x (.ref C) T)(r:H' x=none)(u:s.heap.get? x=none)(v:∀a,T=some a->H' a=none/\s.heap.get? a=none)(L:E (.ref x) (some C) H'):(bc (fG P w) P w K mg base N g scope f h A outer s H E).xe (.ref x) s':=by
 show wpAny (model P w) (A.deeper (envOfC g scope s⁻¹ f h)) (leaving (envOfC g scope s⁻¹ f h) (.ref x)) _ _ s';refine Nh I.ok.frames I.stack rfl hx fun h' T' l y hk=>?_;have hfr:=I.stkFree;have hsz:s⁻¹<=s'⁻¹:=I.sz;have J:∀b o,s.heap.get? b=some o->b≠x/\T≠some b/\b≠s⁻¹:=fun b o e=>by
  have hb:=Al e;exact⟨fun z=>(by rw[z,u] at e;cases e),fun z=>(by rw[(v b z).2] at e;cases e),Aq hb⟩
 have p:∀b o o',s.heap.get? b=some o->s'.heap.get? b=some o'->b∉frs outer->h'.get? b=some o':=fun b o o' e c hb=>by
  obtain⟨n1,n2,D⟩:=J b o e;refine hk.1 b o' c n1 n2 fun hm=>?_;have F:b∈s⁻¹::frs outer:=hm;rcases List.mem_cons.mp F with z|z
  ·exact D z
  ·exact hb z
 have d:∀b o',s'.heap.get? b=some o'->b∈frs outer->∃j,h'.get? b=some {o' with slots:=j}:=fun b o' c hb=>hk.2.1 b o' c (show b∈s⁻¹::frs outer from Ax _ hb);have i:∀b:Addr,b∉(bc (fG P w) P w K mg base N g scope f h A outer s H E).ex:=fun b z=>absurd (show b∈([]:List Addr) from z) (by simp);refine⟨x,C,some T',H',rfl,I.os,I.bare,⟨fun b o q n hb hx=>?_,fun b o q n hb hx=>?_,fun b o q n hx=>I.base.free b o q n (i b),fun b o q hx=>?_,I.base.tups,I.base.frzs,I.base.tbls⟩,GA I.hok hk r (fun a e=>(v a e).1) hfr,r,u,fun a e=>?_,y,L⟩
 ·exact p b o o q (I.base.keep b o q n hb (i b)) hb
 ·obtain⟨j,e⟩:=I.base.slot b o q n hb (i b)
  obtain⟨G,c⟩:=d b _ e hb;exact⟨G,c⟩
 ·obtain⟨o',e⟩:=I.base.there b o q (i b)
  by_cases hb:b∈frs outer
  ·obtain⟨j,c⟩:=d b o' e hb
   exact⟨_,c⟩
  ·exact⟨o',p b o o' q e hb⟩
 ·cases e
  refine⟨I.hok.fresh l,?_⟩;cases q:s.heap.get? T' with
  |none=>rfl
  |some o=>exact absurd (Al q) (Nat.not_lt.mpr (AQ hsz l))
def jo{P:Program}{w:World}{K:Ad}{mg:Str->Option Value}{base:Heap}{N:List Str}{h:Str}{scope:Scope}{f:Addr}{i:Value}{A:Around}{outer:List Env}{s:Shared}{H:Hp}{E:XK}:cL (fG P w) (bc (fG P w) P w K mg base N h scope f i A outer s H E) E:=by
 rintro aa σ H1 j e l I ⟨x,C,T,H',rfl,os,c,un,d,p,r,g,hx,u⟩;have v:Inv (bc (fG P w) P w K mg base N h scope f i A outer s H E) aa σ H' l:=I.call' (ch:=[]) os un d c (fun b z=>absurd z (by simp));have back:∀b,j.heap.get? b=none->s.heap.get? b=none:=fun b hb=>by
  cases q:s.heap.get? b with
  |none=>rfl
  |some o=>
   obtain⟨o',e⟩:=I.base.there b o q (fun z=>absurd (show b∈([]:List Addr) from z) (by simp));rw[hb] at e;cases e
 exact GB v hx p (back x r) (fun a e=>⟨(g a e).1,back a (g a e).2⟩) u
def Fun.ok1{P:Program}{w:World}{K:Ad}{mg:Str->Option Value}{base:Heap}{x a:Str}{st:Stmt}{f:Addr}{fd:FuncData}{N ps:List Str}{k:Nat}{sp:Sp}(F:Fun K x a st f fd)(S:zq N ps (zg st))(len:∀vs H Q E,sp vs H Q E->vs.length=ps.length)(d:∀(cdv:Value)(A:Around)(outer:List Env)(s:Shared)(H:Hp)(vs:List V)(Q:VK)(E:XK),Room k (A.deeper (envOfC a (zg st) s⁻¹ f cdv))->sp vs H Q E->
   ∃t,PSs (bc (fG P w) P w K mg base N a (zg st) f cdv A outer s H E) (zK st) t/\t {nx:=fun _ H'=>Q .non H',rt:=Q} (start N vs) H):FnOk P w K mg base (fG P w) (k+1) f fd ps sp:=by
 obtain⟨e,g,kV,h,i,j,cdv,ct,l,rfl,lk,c⟩:=F.ex;exact CT lk c S len fun A outer s H vs Q E hr b=>d cdv A outer s H vs Q E hr b
def Ni{P:Program}{w:World}{H:Hp}{h:Heap}{a:Addr}{o:HO}(x:zC P w H h a o):∃ob,h.get? a=some ob:=by
 cases o with
 |lst xs=>obtain⟨_,_,_,_,e⟩:=x;exact⟨_,e⟩
 |tup xs=>obtain⟨_,_,_,o,e,_⟩:=x;exact⟨_,e⟩
 |dK kvs=>obtain⟨_,_,_,_,o,_,_,e,_⟩:=x;exact⟨_,e⟩
 |dT kvs=>obtain⟨_,_,_,_,o,_,_,e,_⟩:=x;exact⟨_,e⟩
 |set S n=>obtain⟨o,_,_,_,e,_⟩:=x;exact⟨_,e⟩
 |ins C dx fs=>obtain⟨_,_,_,e,_⟩:=x;exact⟨_,e⟩
 |own y=>exact x
 |xd fs=>obtain⟨_,⟨_,_,_,e,_⟩,_⟩:=x;exact⟨_,e⟩
 |met f y=>exact⟨_,x⟩
 |rng lo hi=>obtain⟨_,_,_,e⟩:=x;exact⟨_,e⟩
 |frz ob u=>exact⟨_,x.1⟩
 |tbl ps=>exact⟨_,x⟩
 |ext φ=>exact x.2.1
def Cg{K:Ad}{h:Heap}{C:Addr}{c:List Value}{p:String}(X:K.In h)(q:PySem.W.excIn K C c p=true):∃bm N nm b bs hdct sn sub ab col dd k0 k1 k2 k3 k5,∃f:Str->Option Value,f "__init__"=none/\(∀T,c.contains (.type T)=true->bm.contains (.type T)=true)/\∀h':Heap,K.In h'->h'.get? C=some (excClassObj nm b C N bs bm hdct sn sub ab col dd k0 k1 k2 k3 k5 p)/\h'.Ns N f/\OwnTail h' c bm:=by
 unfold PySem.W.excIn at q;split at q
 ·rename_i dd cd sl ho
  split at q
  ·rename_i C' bm k0 k1 k2 k3 n k5 hm hs
   simp only[AC,beq_iff_eq,Bool.not_eq_true'] at q;obtain⟨⟨⟨⟨⟨rfl,rfl⟩,g⟩,i⟩,a⟩,j⟩:=q;obtain⟨nm,bs,mro,ns,b,hd,sn,sub,ab,col,v⟩:=cd;dsimp only at hm g a j;subst hm g;have s:sl=#[k0,k1,k2,k3,some (.builtin n),k5]:=by
    obtain⟨l⟩:=sl;simp only at hs;rw[hs]
   subst s;refine⟨bm,ns,nm,b,bs,hd,sn,sub,ab,col,dd,k0,k1,k2,k3,k5,h.nsMap ns,PySem.W.nsMap_none_of_in X a j,fun T r=>(PySem.W.tail_of_in X i).hasType r,fun h' d=>⟨d _ _ ho,?_,PySem.W.tail_of_in d i⟩⟩;have u:h.Ns ns (h.nsMap ns):=.of_isNs (PySem.W.isNs_of_in X a);unfold PySem.W.nsOkIn at a;split at a
   ·rename_i c1 d1 bA di sl1 cS
    exact u.at' fun o e=>by
     rw[X _ _ cS] at e;rw[<-e];exact d _ _ cS
   ·cases a
  ·cases q
 ·cases q
abbrev kd:List Value:=[.type "ValueError",.type "Exception",.type "BaseException",.type "object"]
section
variable{X:Cx}
def Nj(EX:XK)(C:Addr):TS:=fun _ _ H=>∀x,H x=none->EX (.ref x) (some C) H
def Nk{x:Str}{C:Addr}{b:Str}{j:Nat}{O g aB pos:Pos}{EX:XK}(hc:X.calm=true)(P:Gl X x)(hm:X.mg x=some (.ref C))(q:PySem.W.excIn X.K C kd "ValueError.__new__"=true)(Q:∀(aa:Ψ)(σ:St)(H:Hp)(s:Shared)(x:Addr),Inv X aa σ H s->Xc s.heap x (.ref C) none->H x=none->X.s₀.heap.get? x=none->EX (.ref x) (some C) H->X.xe (.ref x) s)(hex:X.ex=[]:=by rfl)(hd:(x==("__debug__":Str))=false:=by decide)(S:(backTo aB (starEach [Expr.Constant (.str b) j g] X.env)).any (·.1)=false:=by rfl):PS X (.Raise (some (.Call (.Name x O) [.Constant (.str b) j g] [] aB)) none pos) (Nj EX C):=by
 intro aa s σ H D I h;obtain⟨bm,N,nm,w,bs,hdct,sn,sub,ab,col,dd,k0,k1,k2,k3,k5,Y,y,d,A⟩:=Cg I.kIn q;refine wpAny_Raise_call_subU (C:=C) (nm:=nm) (q:=w) (N:=N) (bs:=bs) (bm:=bm) (hdct:=hdct) (sn:=sn) (sub:=sub) (ab:=ab) (col:=col) (dd:=dd) (k0:=k0) (k1:=k1) (k2:=k2) (k3:=k3) (k5:=k5) PySem.F.excBase_ValueError PySem.F.excBase_ValueError.hasB PySem.F.excBase_ValueError (d _ PySem.F.excBase_ValueError.hasBase) (I.ok.hd hc) S y ?_;refine aD (km (v:=.ref C) P hm rfl hd aa s σ H (fun v H1=>v=.ref C/\H1=H) I ⟨rfl,rfl⟩) fun f i ⟨v,H1,T,l,e1,e2⟩=>?_;subst e1 e2;cases l;refine⟨rfl,?_⟩;have M:=(ac pe_str al:PA X [Expr.Constant (.str b) j g] _) aB aa i σ H1 (fun vs H2=>vs=[.str b]/\H2=H1) T ⟨rfl,rfl⟩;refine Calls.evalArgs_plain (aD M fun us c ⟨vs,H2,I2,p,e3,r⟩=>?_);subst e3 r;obtain⟨E,G,J⟩:=A c.heap I2.kIn;refine⟨rfl,?_,E,G,J,fun h' e hm=>?_⟩
 ·rw[<-p.length];show 1<=sizeLine;decide
 obtain⟨t,L,_,_⟩:=hm.there;have U:Inv X aa σ H2 {c with heap:=h'}:=I2.kept (t':=c.toks) hm.keeps;have he:H2 e=none:=by
  cases z:H2 e with
  |none=>rfl
  |some u=>
   obtain⟨o,a⟩:=Ni (I2.hok e u z);rw[hm.new] at a;cases a
 refine Q aa σ H2 _ e U ⟨_,_,L,rfl,rfl,rfl,(by show 1<6;decide),.inl ⟨rfl,rfl⟩⟩ he ?_ (h e he);cases z:X.s₀.heap.get? e with
 |none=>rfl
 |some o=>
  obtain⟨o',a⟩:=I2.base.there e o z (by rw[hex];simp);rw[hm.new] at a;cases a
end
section
variable{M:Model}{A:Around}{E:Ω}{s:Shared}
def Nl{base:Heap}{env:Env}{outer:List Env}{L x:Addr}{C:Value}{T:Option Addr}{Q:Unit->Shared->Prop}(hfr:A.frames=some (env::outer))(p:s.heap.FunFrames base (env::outer))(hf:env.frame=some L)(he:Xc s.heap x C T)(h:∀h' T',s⁻¹<=T'->Xc h' x C (some T')->lu ((env::outer).filterMap (·.frame)) x T s.heap h'->Q () {s with heap:=h'}):wpAny M A (noteFrame (.ref x) env) (fun _ y=>wpAny M A (setFlight (.ref x) none) Q E y) E s:=by
 obtain⟨F,vs,he,rfl,u,hd,hsz,h1⟩:=he;unfold noteFrame;simp only[hf];rcases h1 with ⟨rfl,h1⟩|⟨a,G,ts,rfl,h1,D,j,l,v⟩
 ·refine Aa (AS he hd h1 ?_)
  rw[if_neg ξ];exact sm hfr p hf he u hd hsz h
 ·refine Aa (AS he hd h1 ?_)
  rw[if_pos (show(Value.ref a != Value.none)=true from by simp)];refine Aa (AS j l v ?_);rw[if_neg (show ¬((Value.none==rawInt L)=true) from by simp[rawInt])];refine Aa (Bf j l (Array.getElem?_eq_some_iff.mp v).1 ?_);have g:∀b,b≠a->(s.heap.update a (Obj.mapFields (·.setIfInBounds 3 Value.none))).get? b=s.heap.get? b:=fun b hb=>Heap.get?_update_other _ _ (Ne.symm hb);have w:∀b o,s.heap.get? b=some o->(∀vs,o.data≠.fields vs)->b≠a:=fun b o hb c q=>by
   rw[q,j] at hb;injection hb with hb;subst hb;exact c ts l
  refine sm hfr (p.of_keeps fun b o hb c=>⟨o,(g b (w b o hb c)).trans hb,rfl⟩) hf ((g x (Ne.symm D)).trans he) u hd hsz fun h' T' r hx hk=>h h' T' (by rw[A8] at r;exact r) hx ?_;obtain⟨k1,k2,k3⟩:=hk;refine⟨fun b o hb z i f=>k1 b o ((g b fun e=>i (by rw[e])).trans hb) z (by simp) f,fun b o hb f=>?_,by rw[A8] at k3;exact k3⟩;obtain⟨_,o',d,c⟩:=p.mem f;rw[hb] at d;cases d;exact k2 b o ((g b (w b o hb c)).trans hb) f
def Nm{x:Addr}{C:Value}{T:Addr}{Q:Unit->Shared->Prop}(he:Xc s.heap x C (some T))(h:∀h',Xc h' x C (some T)->lu [] x (some T) s.heap h'->Q () {s with heap:=h'}):wpAny M A (setFlight (.ref x) none) Q E s:=by
 obtain⟨j,vs,he,rfl,l,hd,hsz,h1⟩:=he;rcases h1 with ⟨z,_⟩|⟨a,r,ts,z,h1,g,i,f,p⟩
 ·cases z
 cases z;unfold setFlight;refine Aa (AS he hd h1 ?_);rw[if_pos (show(Value.ref T != Value.none)=true from by simp)];have c:=(Array.getElem?_eq_some_iff.mp p).1;refine Bf i f c (h _ ?_ ?_)
 ·refine⟨j,vs,?_,rfl,l,hd,hsz,.inr ⟨T,_,_,rfl,h1,g,Heap.get?_update_self _ i (Obj.isFreed_of_fields (AX f _)),AX f _,?_⟩⟩
  ·rw[Heap.get?_update_other _ _ g];exact he
  ·simp[c]
 ·refine⟨fun b o hb q d _=>?_,fun b o _ z=>absurd z (by simp),by rw[A8];exact Ag _⟩
  rw[Heap.get?_update_other _ _ (fun e=>d (by rw[e]))];exact hb
def No{C S:Addr}{nm q N bs bm hdct sn sub ab col dd k0 k1 k2 k3 k5 bQ}{iZ q' N' i_ gz cm jg eA iX dR cH iW i5 jc ja iV cx}{h:Heap}{g:Array GenState}{d:Drawn}{t:Nat}{os:OsState}{e:Addr}{b:Obj}{Q:Bool->Shared->Prop}(i:h.get? C=some (excClassObj nm q C N bs bm hdct sn sub ab col dd k0 k1 k2 k3 k5 bQ))(c:h.get? S=some (excClassObj iZ q' S N' i_ gz cm jg eA iX dR cH iW i5 jc ja iV cx))(he:h.get? e=some b)(j:b.cls=.ref C)(l:gz.contains (.type "BaseException")=true)(o:(Value.ref C::bm).contains (.ref S)=true)(hq:Q true ⟨h,g,d,t,os⟩):wpAny M A (excMatches (.ref e) (.ref S)) Q E ⟨h,g,d,t,os⟩:=by
 have a:(Value.ref S::gz).contains (.type "BaseException")=true:=by rw[List.contains_cons,l,Bool.or_true]
 have f:=tc_notTuple;unfold excMatches
 repeat(first|(with_reducible refine wpAny_loadPart_at he ?_;rw[j])|with_reducible refine wpAny_loadPart_at c ?_|(with_reducible refine wpAny_isSubtype_exc c ?_;rw[a])|(with_reducible refine wpAny_isSubtype_exc i ?_;rw[o])|wp_step)
 exact hq
end
section
variable{X:Cx}{aa:Ψ}{σ:List (Option V)}{H H':Hp}{s:Shared}{h':Heap}
structure Off(X:Cx)(aa:Ψ)(x:Addr):Prop where
 s0:X.s₀.heap.get? x=none
 lo:x≠X.env.locals
 ce:∀y c,X.env.cells.lookup y=some c->c≠x
 pn:∀p∈X.pn++aa,p.1≠x
def Inv.off(I:Inv X aa σ H s)(hex:X.ex=[]){x:Addr}(h:s.heap.get? x=none):Off X aa x:=by
 refine⟨?_,fun e=>?_,fun y c e z=>?_,fun p hp z=>?_⟩
 ·cases q:X.s₀.heap.get? x with
  |none=>rfl
  |some o=>
   obtain⟨o',e⟩:=I.base.there x o q (by rw[hex];simp);rw[h] at e;cases e
 ·obtain⟨m,⟨o,_,_,a,_⟩,_⟩:=I.loc
  rw[<-e,h] at a;cases a
 ·obtain⟨v,o,a,_⟩:=I.cell y c e
  rw[z,h] at a;cases a
 ·have:=(I.pin p hp).1
  rw[z,h] at this;cases this
def Inv.stepN{ch:List Addr}(I:Inv X aa σ H s)(j:∀b∈ch,Off X aa b)(keep:∀b o,b≠X.env.locals->b∉X.fs->b∉ch->s.heap.get? b=some o->H b=none->h'.get? b=some o)(slot:∀b o,b≠X.env.locals->b∈X.fs->b∉ch->s.heap.get? b=some o->H b=none->∃A,h'.get? b=some {o with slots:=A})(free:∀b o,b∉ch->s.heap.get? b=some o->H b=none->H' b=none)(there:∀b o,b∉ch->s.heap.get? b=some o->∃o',h'.get? b=some o')(tups:∀b xs,H b=some (.tup xs)->H' b=some (.tup xs))(frzs:∀b o u,H b=some (.frz o u)->H' b=some (.frz o u))(tbls:∀b ps,H b=some (.tbl ps)->∃more,H' b=some (.tbl (ps++more)))(ns:∀m,s.heap.Ns X.env.locals m->h'.Ns X.env.locals m)(C:HOk X.prog X.w H' h'):Inv X aa σ H' {s with heap:=h'}:=by
 have h:∀b o,X.s₀.heap.get? b=some o->b≠X.env.locals:=fun b o e=>Aq (AB (Al e) I.ok.above);have y:∀b o,X.s₀.heap.get? b=some o->b∉ch:=fun b o e hb=>by
  rw[(j b hb).s0] at e;cases e
 have a:∀x c,X.env.cells.lookup x=some c->∀v,s.heap.IsCell c v->h'.IsCell c v:=fun x c e v ⟨o,g,hd⟩=>by
  have f:c∉ch:=fun z=>(j c z).ce x c e rfl
  by_cases hc:c∈X.fs
  ·obtain⟨A,q⟩:=slot c o (I.cne x c e) hc f g (I.freeC x c e)
   exact⟨_,q,hd⟩
  ·exact⟨o,keep c o (I.cne x c e) hc f g (I.freeC x c e),hd⟩
 refine⟨I.ok,I.os,I.bare,⟨fun b o e n hb hx=>?_,fun b o e n hb hx=>?_,fun b o e n hx=>?_,fun b o e hx=>?_,fun b xs e=>tups b xs (I.base.tups b xs e),fun b o xs e=>frzs b o xs (I.base.frzs b o xs e),fun b ps e=>?_⟩,?_,fun x c e=>?_,?_,fun x c e=>?_,fun p hp=>?_,C,I.len⟩
 ·exact keep b o (h b o e) hb (y b o e) (I.base.keep b o e n hb hx) (I.base.free b o e n hx)
 ·obtain⟨A,e1⟩:=I.base.slot b o e n hb hx
  obtain⟨E,e2⟩:=slot b _ (h b o e) hb (y b o e) e1 (I.base.free b o e n hx);exact⟨E,e2⟩
 ·obtain⟨o',e1⟩:=I.base.there b o e hx
  exact free b o' (y b o e) e1 (I.base.free b o e n hx)
 ·obtain⟨o',e1⟩:=I.base.there b o e hx
  exact there b o' (y b o e) e1
 ·obtain⟨F,e1⟩:=I.base.tbls b ps e
  obtain⟨m2,e2⟩:=tbls b _ e1;exact⟨F++m2,by rw[e2,Array.append_assoc]⟩
 ·obtain⟨m,G,J⟩:=I.loc
  refine⟨m,ns m G,fun i x v e1 e2 e3=>?_⟩;obtain⟨u,r,l⟩:=J i x v e1 e2 e3;refine⟨u,r,?_⟩;rcases l with l|⟨k,c,e,z⟩
  ·exact .inl l
  ·exact .inr ⟨k,c,e,a x c e _ z⟩
 ·obtain⟨v,z⟩:=I.cell x c e
  exact⟨v,a x c e v z⟩
 ·obtain⟨m,⟨o,_,_,g,_⟩,_⟩:=I.loc
  exact free _ o (fun z=>(j _ z).lo rfl) g I.free
 ·obtain⟨v,o,g,hd⟩:=I.cell x c e
  exact free c o (fun z=>(j c z).ce x c e rfl) g (I.freeC x c e)
 ·obtain⟨e,n,ne,D,d⟩:=I.pin p hp
  have f:p.1∉ch:=fun z=>(j p.1 z).pn p hp rfl;exact⟨keep p.1 p.2 ne D f e n,free p.1 p.2 f e n,ne,D,d⟩
def Inv.xkeep{fr:List Addr}{x:Addr}{T:Option Addr}(I:Inv X aa σ H s)(k:lu fr x T s.heap h')(hfr:∀b∈fr,b∈frs X.stack)(ox:Off X aa x)(hx:H x=none)(d:∀a,T=some a->Off X aa a/\H a=none):Inv X aa σ H {s with heap:=h'}:=by
 have c:∀b o,b∉(x::T.toList)->s.heap.get? b=some o->∃c,h'.get? b=some {o with slots:=c}:=fun b o hc e=>by
  by_cases hb:b∈fr
  ·exact k.2.1 b o e hb
  ·exact⟨o.slots,k.1 b o e (fun z=>hc (by simp[z])) (fun z=>hc (by simp[z])) hb⟩
 refine I.stepN (ch:=x::T.toList) (fun b hb=>?_) (fun b o f hb hc e _=>?_) (fun b o _ _ hc e _=>c b o hc e) (fun _ _ _ _ n=>n) (fun b o hc e=>?_) (fun _ _ e=>e) (fun _ _ _ e=>e) (fun b ps e=>⟨#[],by rw[e];simp⟩) (fun m hm=>?_) (GA I.hok k hx (fun a e=>(d a e).2) fun b hb=>I.stkFree b (hfr b hb))
 ·rcases List.mem_cons.mp hb with z|z
  ·rw[z];exact ox
  ·exact(d b (by simpa using z)).1
 ·exact k.1 b o e (fun z=>hc (by simp[z])) (fun z=>hc (by simp[z])) fun z=>(List.mem_cons.mp (I.stkSub b (hfr b z))).elim f hb
 ·obtain⟨z,e⟩:=c b o hc e
  exact⟨_,e⟩
 ·obtain⟨o,es,ep,g,r⟩:=hm
  obtain⟨z,e⟩:=c _ o (fun z=>by
   rcases List.mem_cons.mp z with z|z
   ·exact ox.lo z.symm
   ·exact(d _ (by simpa using z)).1.lo rfl) g
  exact⟨_,es,ep,e,r⟩
abbrev eW(x C:Addr):HO:=.ext fun h=>∃o,PySem.W.InstAt h x o C none
def Inv.know{x C:Addr}{T:Option Addr}(I:Inv X aa σ H s)(hx:H x=none)(ox:Off X aa x)(e:Xc s.heap x (.ref C) T):Inv X aa σ (upd H x (eW x C)) s:=by
 obtain⟨a,vs,he,hc,h,i,_⟩:=e;have d:PySem.W.notCls a=true:=by unfold PySem.W.notCls;rw[i]
 have f:match a.dict,(none:Option Obj) with|some dx,some o=>s.heap.get? dx=some o|none,none=>True|_,_=>False:=by rw[h];trivial
 have ne:∀b u,H b=some u->b≠x:=fun b u e z=>by rw[z,hx] at e;cases e
 refine I.stepN (h':=s.heap) (ch:=[x]) (fun b hb=>?_) (fun b o _ _ _ e _=>e) (fun b o _ _ _ e _=>⟨o.slots,e⟩) (fun b o hc _ n=>?_) (fun b o _ e=>⟨o,e⟩) (fun b xs e=>?_) (fun b o u e=>?_) (fun b ps e=>⟨#[],?_⟩) (fun m hm=>hm) (fun b u e=>?_)
 ·obtain rfl:b=x:=by simpa using hb
  exact ox
 ·rw[zj (fun z=>hc (by simp[z]))];exact n
 ·rw[zj (ne b _ e)];exact e
 ·rw[zj (ne b _ e)];exact e
 ·rw[zj (ne b _ e),e];simp
 ·by_cases hb:b=x
  ·subst hb
   rw[ak] at e;cases e;refine⟨⟨a,he,hc,d,f⟩,⟨a,he⟩,fun h1 h2 ⟨o,e1,e2,e3,g⟩ q=>⟨o,q o e1,e2,e3,?_⟩⟩;cases z:o.dict with
   |none=>trivial
   |some dx=>rw[z] at g;exact g.elim
  ·rw[zj hb] at e
   refine(I.hok b u e).stay (fun c v _ q=>q) (fun c q=>?_) fun c xs q=>?_
   ·rw[zj (ne c _ q)];exact q
   ·rw[zj (ne c _ q)];exact q
end
section
variable{X:Cx}{aa bT:Ψ}{σ:List (Option V)}{H H':Hp}{s:Shared}{h':Heap}{EB:XK}
def Np(X:Cx)(aa:Ψ)(EB:XK):Ω:=fun e s=>∃(x C:Addr)(T:Option Addr)(σ:St)(H:Hp),e=.ref x/\Inv X aa σ H s/\Xc s.heap x (.ref C) T/\H x=none/\Off X aa x/\(∀a,T=some a->Off X aa a/\H a=none)/\EB (.ref x) (some C) H
abbrev XB(X:Cx)(aa:Ψ)(EB:XK):Cx:={X with pn:=X.pn++aa,xe:=Np X aa EB}
abbrev XH(X:Cx)(aa:Ψ)(x:Addr):Cx:={X with A:=X.A.mark (some (.ref x)),calm:=false,pn:=X.pn++aa,xe:=fun _ _=>False}
def Inv.toB(I:Inv X aa σ H s):Inv (XB X aa EB) [] σ H s:=
 ⟨⟨I.ok.mod,I.ok.kind,I.ok.glob,I.ok.blt,I.ok.above,I.ok.inj,I.ok.has,I.ok.cab,I.ok.hd,I.ok.frames,I.ok.stk,I.ok.exf,I.ok.bs,I.ok.bsz,I.ok.noex,I.ok.exfs,I.ok.funs,I.ok.frf⟩,I.os,I.bare,I.base,I.loc,I.cell,I.free,I.freeC,
  fun p hp=>I.pin p (by simpa using hp),I.hok,I.len⟩
def Inv.ofB(I:Inv (XB X aa EB) bT σ H s):Inv X aa σ H s:=
 ⟨⟨I.ok.mod,I.ok.kind,I.ok.glob,I.ok.blt,I.ok.above,I.ok.inj,I.ok.has,I.ok.cab,I.ok.hd,I.ok.frames,I.ok.stk,I.ok.exf,I.ok.bs,I.ok.bsz,I.ok.noex,I.ok.exfs,I.ok.funs,I.ok.frf⟩,I.os,I.bare,I.base,I.loc,I.cell,I.free,I.freeC,
  fun p hp=>I.pin p (List.mem_append_left _ hp),I.hok,I.len⟩
def Inv.toH{x:Addr}(I:Inv X aa σ H s):Inv (XH X aa x) [] σ H s:=
 ⟨⟨I.ok.mod,I.ok.kind,I.ok.glob,I.ok.blt,I.ok.above,I.ok.inj,I.ok.has,I.ok.cab,(fun z=>nomatch z),I.ok.frames,I.ok.stk,I.ok.exf,I.ok.bs,I.ok.bsz,I.ok.noex,I.ok.exfs,I.ok.funs,I.ok.frf⟩,I.os,I.bare,I.base,I.loc,I.cell,I.free,I.freeC,
  fun p hp=>I.pin p (by simpa using hp),I.hok,I.len⟩
def Inv.ofH{x:Addr}(I:Inv (XH X aa x) bT σ H s)(hd:X.calm=true->X.A.handled=none):Inv X aa σ H s:=
 ⟨⟨I.ok.mod,I.ok.kind,I.ok.glob,I.ok.blt,I.ok.above,I.ok.inj,I.ok.has,I.ok.cab,hd,I.ok.frames,I.ok.stk,I.ok.exf,I.ok.bs,I.ok.bsz,I.ok.noex,I.ok.exfs,I.ok.funs,I.ok.frf⟩,I.os,I.bare,I.base,I.loc,I.cell,I.free,I.freeC,
  fun p hp=>I.pin p (List.mem_append_left _ hp),I.hok,I.len⟩
def SP.ofB{D:Ends}{f:Flow}{s':Shared}(h:SP (XB X aa EB) [] D f s'):SP X aa D f s':=by
 cases f with
 |next=>obtain⟨a,H',I,q⟩:=h;exact⟨a,H',I.ofB,q⟩
 |brk=>obtain⟨a,H',I,q⟩:=h;exact⟨a,H',I.ofB,q⟩
 |cont=>obtain⟨a,H',I,q⟩:=h;exact⟨a,H',I.ofB,q⟩
 |ret u=>obtain⟨v,a,H',I,r,q⟩:=h;exact⟨v,a,H',I.ofB,r,q⟩
def Nq(hex:X.ex=[]):cL (fG X.prog X.w) (XB X aa EB) EB:=by
 rintro bT σ H1 g e h I ⟨x,C,T,H',rfl,os,c,un,d,i,j,f,hx,l⟩;have I2:Inv (XB X aa EB) bT σ H' h:=I.call' (ch:=[]) os un d c (fun b z=>absurd z (by simp));have J:Inv X aa σ H1 g:=I.ofB;exact⟨x,C,T,σ,H',rfl,I2.ofB,hx,i,J.off hex j,fun a e=>⟨J.off hex (f a e).2,(f a e).1⟩,l⟩
def Inv.gone{i:Nat}{n:Str}{m:Str->Option Value}{u:Option Value}(I:Inv X aa σ H s)(C:X.N.Nodup)(hi:X.N[i]?=some n)(D:∀(i:Nat)(x:Str)(v:V),X.N[i]?=some x->σ[i]?=some (some v)->lE X.env.scope x->∃u,RelV v u/\Look X.env s.heap m x u)(E:h'.Ns X.env.locals fun y=>if y=n then u else m y)(hs:AN X.env.locals s.heap h'):Inv X aa (σ.set i none) H {s with heap:=h'}:=by
 have a:i<σ.length:=by rw[I.len];exact(List.getElem?_eq_some_iff.mp hi).1
 refine⟨I.ok,I.os,I.bare,⟨fun b o e n hb hx=>?_,fun b o e n hb hx=>?_,I.base.free,fun b o e hx=>?_,I.base.tups,I.base.frzs,I.base.tbls⟩,⟨_,E,fun j y h e1 e2 e3=>?_⟩,fun y c e=>?_,I.free,I.freeC,fun p hp=>?_,fun b ob e=>?_,by simpa using I.len⟩
 ·exact(hs.2 b (Aq (AB (Al e) I.ok.above))).trans (I.base.keep b o e n hb hx)
 ·obtain⟨l,e1⟩:=I.base.slot b o e n hb hx
  exact⟨l,(hs.2 b (Aq (AB (Al e) I.ok.above))).trans e1⟩
 ·obtain⟨o',e1⟩:=I.base.there b o e hx
  exact⟨o',(hs.2 b (Aq (AB (Al e) I.ok.above))).trans e1⟩
 ·by_cases f:j=i
  ·subst f
   rw[List.getElem?_set_self a] at e2;cases e2
  ·rw[List.getElem?_set_ne (Ne.symm f)] at e2
   obtain⟨r,w,q⟩:=D j y h e1 e2 e3;refine⟨r,w,?_⟩;rcases q with ⟨k,e⟩|⟨k,c,e,z⟩
   ·refine .inl ⟨k,?_⟩
    have:y≠n:=fun e=>f (sS C e1 (e▸hi));simp[this,e]
   ·exact .inr ⟨k,c,e,z.sameBut hs (I.cne y c e)⟩
 ·obtain⟨g,z⟩:=I.cell y c e
  exact⟨g,z.sameBut hs (I.cne y c e)⟩
 ·obtain⟨e,n,ne,A,d⟩:=I.pin p hp
  exact⟨(hs.2 p.1 ne).trans e,n,ne,A,d⟩
 ·refine(I.hok b ob e).stay (fun c g hc q=>(hs.2 c ?_).trans q) (fun _ q=>q) fun _ _ q=>q
  rintro rfl;rcases hc with z|z
  ·rw[<-z,I.free] at e;cases e
  ·rw[I.free] at z;cases z
def iI(K:Ad)(C S:Addr):Prop:=∀h:Heap,K.In h->∃nm q N bs bm hdct sn sub ab col dd k0 k1 k2 k3 k5 b c d N' e a f g i j l o p r s u v w,
 h.get? C=some (excClassObj nm q C N bs bm hdct sn sub ab col dd k0 k1 k2 k3 k5 b)/\h.get? S=some (excClassObj c d S N' e a f g i j l o p r s u v w)/\
 a.contains (.type "BaseException")=true/\(Value.ref C::bm).contains (.ref S)=true
def Cj(K:Ad)(n ie:Nat)(S:Addr)(d:TS)(D:Ends):XK:=fun e c H'=>∃x C,e=.ref x/\c=some C/\iI K C S/\∀a:St,a.length=n->
 d {nx:=fun b H2=>D.nx (b.set ie none) H2,rt:=fun _ _=>False} (a.set ie (some (.ref x))) (upd H' x (eW x C))
def Ck(K:Ad)(n ie:Nat)(S:Addr)(t:XK->TS)(a:TS):TS:=fun D σ H=>t (Cj K n ie S a D) D σ H
def Nr{n:Str}{ie:Nat}{p:Str}{S:Addr}{body Q:List Stmt}{U:Stmt}{t:XK->TS}{W:TS}{np Y pos:Pos}(hex:X.ex=[])(F:X.N.Nodup)(j:X.N[ie]?=some n)(g:X.env.scope.names.lookup n=some .local)(c:X.stack=X.env::X.outer)(hfr:X.env.frame=some X.env.locals)(wB:Gl X p)(uF:X.mg p=some (.ref S))(hb:∀aa EB,PSs (XB X aa EB) body (t EB))(hH:∀aa x,PSs (XH X aa x) (U::Q) W)(hd:(p==("__debug__":Str))=false:=by decide):PS X (.Try body [.ExceptHandler (some (.Name p np)) (some n) (U::Q) Y] [] [] pos) (Ck X.K X.N.length ie S t W):=by
 intro aa s σ H D I h;refine wpAny_Try_except (wpAny_mono (hb aa _ [] s σ H D I.toB h) (fun f d q=>?_) (fun e d q=>?_))
 ·have i:SP X aa D f d:=q.ofB
  cases f with
  |next=>exact wpAny_execs_nil i
  |brk=>exact i
  |cont=>exact i
  |ret u=>exact i
 obtain⟨x,C,T,o,H1,rfl,I1,hx,y,ox,hT,x',C',e1,e2,sub,k⟩:=q;cases e1;cases e2;have u5:=c;refine Nl (base:=X.base) (outer:=X.outer) (L:=X.env.locals) (by rw[<-c];exact I1.ok.frames) (by rw[<-c];exact I1.stack) hfr hx fun h2 T2 G J r=>?_;have I2:Inv X aa o H1 {d with heap:=h2}:=I1.xkeep r (fun b z=>by rw[c];exact z) ox y hT;have xp:d.heap.get? T2=none:=Heap.get?_none_of_le G;have vL:Off X aa T2:=I1.off hex xp;have ud:H1 T2=none:=I1.hok.fresh G;refine wpAny_handleBy_cons (codeAny_handlers_test ?_) (by intro q;cases q);refine lG (X:=XH X aa x) (I2.toH (x:=x)) wB uF ?_ hd;obtain⟨nm,q,N,bs,bm,hdct,sn,eA,ab,col,dd,k0,k1,k2,k3,k5,bQ,iZ,i,N',i_,gz,cm,jg,qQ,iX,dR,cH,iW,i5,jc,ja,iV,cx,hC,hS,A,aJ⟩:=sub h2 I2.kIn;obtain⟨oe,vs,gi,E,_⟩:=id J;refine No hC hS gi E A aJ ?_;show codeAny _ _ _ _ _;refine codeAny_handlers_suite_as ?_;refine Nm J fun w rM lq=>?_;have I4:Inv X aa o H1 {d with heap:=w}:=I2.xkeep (h':=w) lq (fun b z=>absurd z (by simp)) ox y (fun a e=>by cases e;exact⟨vL,ud⟩);have I5:Inv X aa o (upd H1 x (eW x C)) {d with heap:=w}:=I4.know y ox rM;refine pD (X:=XH X aa x) (I5.toH (x:=x)) F j (.inl g) (v:=.ref x) rfl (fun s6 I6=>?_) (.inr g);refine wpAny_mono (hH aa x [] s6 _ _ _ I6 (k o I1.len)) (fun f M l=>?_) fun _ _ z=>z.elim;cases f with
 |brk=>obtain⟨_,_,_,z⟩:=l;exact z.elim
 |cont=>obtain⟨_,_,_,z⟩:=l;exact z.elim
 |ret u=>obtain⟨_,_,_,_,_,z⟩:=l;exact z.elim
 |next=>
  obtain⟨O,Z,I7,d7⟩:=l;have I7':Inv X aa O Z M:=I7.ofH I.ok.hd;show wpAny _ _ (do bindName X.env n .none;unbindBehindTheSuite X.env n Y) _ _ M;refine Aa (wpAny_bindName (pD I7' F j (.inl g) (v:=.non) rfl (fun s8 I8=>?_) (.inr g)));obtain⟨m,hn,P⟩:=id I8.loc;have oE:ie<O.length:=by rw[I7'.len];exact(List.getElem?_eq_some_iff.mp j).1
  obtain⟨u,_,lk⟩:=P ie n .non j (by rw[List.getElem?_set_self oE]) (.inl g);have kn:X.env.kindOf n=some .local:=g;have hm:m n=some u:=by
   rcases lk with ⟨_,e⟩|⟨z,_⟩
   ·exact e
   ·rw[kn] at z;rcases z with z|z<;>cases z
  unfold unbindBehindTheSuite;refine wpAny_onRaise (wpAny_unbindName_local kn hn hm (by rw[I.ok.kind];rfl) fun h9 u9 tw x9=>?_);have I9:=I8.gone F j P tw x9;rw[List.set_set] at I9;exact⟨_,Z,I9,d7⟩
end
def Nt{K:Ad}{C:Addr}{name:Str}{a g:Value}(hc:(PySem.W.clsIn K C).isSome=true)(b:PySem.W.findIn K (.ref C) name=some (some a))(c:PySem.W.specialIn K a "__get__"=some (some g))(d:PySem.W.takesIn K a=some true):PySem.W.findObj K C none name=some (.bind g a):=by
 obtain⟨e,hc⟩:=Option.isSome_iff_exists.mp hc;unfold PySem.W.findObj;rw[hc,Option.bind_some,b,Option.bind_some];simp[c,d]
structure eF(K:Ad)(D:Addr):Prop where
 ga:PySem.W.findIn K (.ref D) "__getattribute__"=some (some (.builtin "BaseException.__getattribute__"))
 gt:PySem.W.findIn K (.ref D) "__getattr__"=some none
 cls:(PySem.W.clsIn K D).isSome=true
 find:PySem.W.findIn K (.ref D) "__class__"=some (some (.builtin "object.__class__"))
 spec:PySem.W.specialIn K (.builtin "object.__class__") "__get__"=some (some (.builtin "getset_descriptor.__get__"))
 tk:PySem.W.takesIn K (.builtin "object.__class__")=some true
 mro:PySem.W.mroIn K D (.type "object")=some true
 mroB:PySem.W.mroIn K D (.type "BaseException")=some true
section
variable{prog:Program}{w:World}{A:Around}{E:Ω}{s:Shared}{K:Ad}{x D:Addr}{ox:Obj}
def Nu{M:Model}{b:Value}{Q:Unit->Shared->Prop}(c:eF K D)(X:K.In s.heap)(I:PySem.W.InstAt s.heap x ox D none)(hq:Q () s):wpAny M A (checkBuiltinCall "BaseException.__getattribute__" ⟨[.ref x,b],[]⟩) Q E s:=by
 obtain⟨e,g,d,t,os⟩:=s;have hk:builtinKind "BaseException.__getattribute__"=some .slot:=δ
 have a:splitId "BaseException.__getattribute__"=some ("BaseException","__getattribute__"):=δ
 have f:=F.args_bexc_ga (.ref x) b;have L0:=I.type (M:=M);have L1:=PySem.W.looks_mroIn (M:=M) X c.mroB;simp only[checkBuiltinCall,hk,a];refine Aa ?_;unfold isInstance;refine Aa (L0.at (L1.at ?_))
 repeat(first|assumption|wp_step)
def Nv{tk:Tok}{Q:Fin->Shared->Prop}(c:eF K D)(X:K.In s.heap)(I:PySem.W.InstAt s.heap x ox D none)(hq:Q (.done (.ret (.ref D))) s):wpAny (model prog w) A (Builtin.«object.__getattribute__» ⟨[.ref x,.str "__class__" tk],[]⟩) Q E s:=by
 obtain⟨a,g,d,t,os⟩:=s;have hf:=Nt c.cls c.find c.spec c.tk;have L0:=I.type (M:=model prog w);have L1:=PySem.W.looks_find (M:=model prog w) X I hf;unfold Builtin.«object.__getattribute__»
 repeat(first|with_reducible refine Aa (L0.at ?_)|with_reducible refine Aa (L1.at ?_)|wp_step)
 exact PySem.W.class_get (s:=⟨a,g,d,t,os⟩) X I c.mro (Ac hq)
def Nw{Q:Option Value->Shared->Prop}(c:eF K D)(X:K.In s.heap)(I:PySem.W.InstAt s.heap x ox D none)(h:Q (some (.ref D)) {s with toks:=s.toks+1}):wpAny (model prog w) A (getAttr? (.ref x) "__class__") Q E s:=by
 obtain⟨a,g,d,t,os⟩:=s;have L0:=I.type (M:=model prog w);have L1:=PySem.W.looks_findIn (M:=model prog w) X c.ga;have L2:=PySem.W.looks_findIn (M:=model prog w) X c.gt;have FA:=F.excAttr_ValueError;have f3:=FA.ga.bind (.ref x);have b:(Value.builtin "BaseException.__getattribute__" == Value.builtin "object.__getattribute__")=false:=δ
 unfold getAttr? getAttrBy? getAttrBy;refine Aa (wpAny_mkText (Aa (wpAny_attempt (AA (Aa (L0.at (Aa (L1.at ?_))))))));dsimp only;rw[if_neg (by rw[b,Bool.and_false];decide)];unfold getAttrByItsOwn hookBefore;rw[if_pos (show onTheHeap (.ref D)=true from rfl)];refine Aa (L2.at ?_);refine Aa (wpAny_attempt (AA ?_));unfold callGetattribute boundAndCalled;rw[Bool.false_and,if_neg Ao,f3];refine Aa (Ac ?_);refine wpAny_call (codeAny_call_builtin FA.ga.plain F.entry_bexc_ga (Nu (s:=⟨a,g,d,t+1,os⟩) c X I (Nv (s:=⟨a,g,d,t+1,os⟩) c X I ?_)));exact PySem.W.handed_on rfl (Ac h)
end
def Nx{K:Ad}{x D:Addr}{ox:Obj}(c:eF K D):PySem.W.KitX K (.ref x) (.ref D) (fun h=>PySem.W.InstAt h x ox D none) where
 ty:=fun _ _ _ I=>I.type
 it:=fun _ _ X _=>by
  obtain⟨d,a⟩:=Option.isSome_iff_exists.mp c.cls;unfold PySem.W.clsIn at a;split at a
  ·rename_i c' d' cd' gQ ho
   intro i j l s' k q;unfold isType loadHead;exact Aa (wpAny_loadPart (k _ _ (X _ _ ho)) (Ac q))
  ·cases a
 ne:=fun h tp dd f n g X b=>by
  obtain⟨d,a⟩:=Option.isSome_iff_exists.mp c.cls;refine Bool.eq_false_iff.mpr fun q=>?_;have e:D=tp:=Value.ref.inj (beq_iff_eq.mp q);subst e;unfold PySem.W.clsIn at a;split at a
  ·rename_i c' d' cd' gQ ho
   have z:=(X _ _ ho).symm.trans b;cases z
  ·cases a
 ca:=fun X I k=>Nw c X I k
section
variable{X:Cx}
def GC{c:V}{a:Value}{b:Bool}{C:Addr}(g:∀u,RelV c u->u=a)(i:eF X.K C)(e:AI X.K (.ref C) a=some b):z0 X (.builtin "isinstance") (fun xs H Q=>∃x,xs=[.ref x,c]/\H x=some (eW x C)/\Q (.bl b) H):=by
 intro aa s σ H xs us Q I r h;obtain⟨x,rfl,hx,q⟩:=h;obtain⟨u,j,rfl,d,f⟩:=vals2 r;obtain rfl:=g _ f;cases(show u=Value.ref x from d);obtain⟨⟨o,p⟩,_⟩:=(show zC X.prog X.w H s.heap x (eW x C) from I.hok x _ hx);exact PySem.W.kia_one (Nx i) I.kIn p e (fun z=>nomatch z) fun tk=>⟨.bl b,H,I.tok _,rfl,q⟩
end
structure zck(k:Nat)(A:Around):Prop where
 dp:A.depth+3*k+5<recursionLimit
 un:A.units+16*k+200<cLine
def Room.mark{k:Nat}{A:Around}(r:Room k A)(v:Option Value):zck k (A.mark v):=⟨r.dp,r.un⟩
def zck.deeper{k:Nat}{A:Around}(r:zck (k+1) A)(env:Env):zck k (A.deeper env):=
 ⟨by have:=r.dp;show A.depth+1+3*k+5<_;omega,by have:=r.un;show A.units+3+16*k+200<_;omega⟩
def zck.depth{k:Nat}{A:Around}(r:zck k A):A.depth<recursionLimit:=by have:=r.dp;omega
def zck.units{k:Nat}{A:Around}(r:zck k A):A.units+64<cLine:=by have:=r.un;omega
structure pc(P:Program)(w:World)(K:Ad)(mg:Str->Option Value)(base:Heap)(k:Nat)(f:Addr)(fd:FuncData)(ps:List Str)(sp:Sp):Prop where
 len:∀vs H Q E,sp vs H Q E->vs.length=ps.length
 run:∀(A:Around)(outer:List Env)(s:Shared)(H:Hp)(args:Args)(us:List Value)(vs:List V)(Q:VK)(E:XK),zck k A->Env0 P w K mg base A outer s H->BindsTo s fd args (ps.zip us)->Vals vs us->sp vs H Q E->
  codeAny (model P w) A (.call (.ref f) args) (CR az outer P w H s Q E) s
abbrev pe(P:Program)(w:World)(K:Ad)(mg:Str->Option Value)(base:Heap)(N:List Str)(aj:Str)(scope:Scope)(f:Addr)(cd:Value)(A:Around)(outer:List Env)(s:Shared)(H:Hp)(E:XK):Cx:=
 {bc az P w K mg base N aj scope f cd A outer s H E with calm:=false,xe:=fun _ _=>False}
def Ny{P:Program}{w:World}{K:Ad}{mg:Str->Option Value}{base:Heap}{N ps:List Str}{b:Str}{scope:Scope}{f:Addr}{c:Value}{A:Around}{outer:List Env}{s d:Shared}{H:Hp}{E:XK}{us:List Value}{vs:List V}(S:zq N ps scope)(a:Env0 P w K mg base A outer s H)(e:vs.length=ps.length)(r:Vals vs us)(x:InCallC s s⁻¹ (bindL (envOfC b scope s⁻¹ f c).kindOf (ps.zip us) fun _=>none) (cellsFrom (s⁻¹+1) scope.names []) (bindC (envOfC b scope s⁻¹ f c).kindOf (ps.zip us) fun _=>none) d):Inv (pe P w K mg base N b scope f c A outer s H E) [] (start N vs) H d:=by
 have I:Inv (bc az P w K mg base N b scope f c {A with handled:=none} outer s H E) [] (start N vs) H d:=CS (A:={A with handled:=none}) S rfl ⟨a.frames,a.mod,a.bs,a.bsz,a.funs,a.frf,a.hok,a.bare⟩ e r x;exact⟨⟨I.ok.mod,I.ok.kind,I.ok.glob,I.ok.blt,I.ok.above,I.ok.inj,I.ok.has,I.ok.cab,(fun z=>nomatch z),Around.frames_deeper a.frames,I.ok.stk,I.ok.exf,I.ok.bs,I.ok.bsz,I.ok.noex,I.ok.exfs,I.ok.funs,I.ok.frf⟩,I.os,I.bare,I.base,I.loc,I.cell,I.free,I.freeC,I.pin,I.hok,I.len⟩
def Nz{P:Program}{w:World}{K:Ad}{mg:Str->Option Value}{base:Heap}{k:Nat}{f:Addr}{name a:Str}{h:Arguments}{body:List Stmt}{scope:Scope}{i kV j l cdv ct X:Value}{p Y:Option Addr}{F:Array (Option Value)}{N ps:List Str}{sp:Sp}(lk:K.lookup f=some ⟨X,Y,.func (PySem.W.fnOf name a h body scope i kV j l p cdv ct),F⟩)(G:PySem.W.codeIn K cdv a=true)(S:zq N ps scope)(len:∀vs H Q E,sp vs H Q E->vs.length=ps.length)(Z:∀(A:Around)(outer:List Env)(s:Shared)(H:Hp)(vs:List V)(Q:VK)(E:XK),zck k (A.deeper (envOfC a scope s⁻¹ f cdv))->sp vs H Q E->
   ∃t,PSs (pe P w K mg base N a scope f cdv A outer s H E) body t/\t {nx:=fun _ H'=>Q .non H',rt:=Q} (start N vs) H):
  pc P w K mg base (k+1) f (PySem.W.fnOf name a h body scope i kV j l p cdv ct) ps sp:=by
 refine⟨len,fun A outer s H args us vs Q E hr c hb r z=>?_⟩;have O:=len _ _ _ _ z;have D:K.In s.heap:=c.mod.kin.keeps fun b o e=>(c.bs b o e).1;have T:s.heap.NoLimit:=c.mod.nolimit.keeps fun b o e=>(c.bs b o e).1;have U:∀y∈ps.zip us,scope.names.lookup y.1=some .local\/(scope.names.lookup y.1=some .cell/\((cellsFrom (s⁻¹+1) scope.names []).lookup y.1).isSome=true):=fun⟨n,v⟩ hy=>by
  rcases S.par n (List.of_mem_zip hy).1 with q|q
  ·exact .inl q
  ·exact .inr ⟨q,PySem.W.cellsFrom_some _ _ _ (.inl q)⟩
 refine codeAny_call_function hr.depth (D _ _ lk) rfl S.co S.gen rfl (PySem.W.codeRec_of D G) (hb _ _ _ _ ?_);refine wpAny_newFunctionEnv_cells S.kind U fun env he C x=>?_;subst he;refine⟨T.keeps x.toInCall.keep,codeAny_func ?_⟩;obtain⟨t,M,hq⟩:=Z A outer s H vs Q E (hr.deeper _) z;have I:Inv (pe P w K mg base N a scope f cdv A outer s H E) [] (start N vs) H C:=Ny S c O r x;refine wpAny_mono (M [] C (start N vs) H _ I hq) (fun L s' hs=>?_) fun e s' hs=>hs.elim;have fin:∀{d:St}{H':Hp}{v:V}{u:Value},Inv (pe P w K mg base N a scope f cdv A outer s H E) [] d H' s'->RelV v u->Q v H'->CE outer P w H s Q u s':=
  fun{d H' v u} J g q=>⟨v,H',J.os,J.bare,J.base,J.hok,g,q⟩
 cases L with
 |ret u=>
  obtain⟨v,d,H',J,g,q⟩:=hs;exact fin J g q
 |next=>
  obtain⟨d,H',J,q⟩:=hs;exact fin (v:=V.non) (u:=Value.none) J rfl q
 |brk=>
  obtain⟨_,_,_,q⟩:=hs;exact False.elim q
 |cont=>
  obtain⟨_,_,_,q⟩:=hs;exact False.elim q
def Fun.okN{P:Program}{w:World}{K:Ad}{mg:Str->Option Value}{base:Heap}{x a:Str}{st:Stmt}{f:Addr}{fd:FuncData}{N ps:List Str}{k:Nat}{sp:Sp}(F:Fun K x a st f fd)(S:zq N ps (zg st))(len:∀vs H Q E,sp vs H Q E->vs.length=ps.length)(d:∀(cdv:Value)(A:Around)(outer:List Env)(s:Shared)(H:Hp)(vs:List V)(Q:VK)(E:XK),zck k (A.deeper (envOfC a (zg st) s⁻¹ f cdv))->sp vs H Q E->
   ∃t,PSs (pe P w K mg base N a (zg st) f cdv A outer s H E) (zK st) t/\t {nx:=fun _ H'=>Q .non H',rt:=Q} (start N vs) H):pc P w K mg base (k+1) f fd ps sp:=by
 obtain⟨e,g,kV,h,i,j,cdv,ct,l,rfl,lk,c⟩:=F.ex;exact Nz lk c S len fun A outer s H vs Q E hr b=>d cdv A outer s H vs Q E hr b
section
variable{X:Cx}{k:Nat}{f:Addr}{fd:FuncData}{ps:List Str}{sp:Sp}{dX:List V}{ds:List Value}{E:XK}{x:Str}{p pos:Pos}{e:Expr}{es:List Expr}{t:TA}
def NA(F:pc X.prog X.w X.K X.mg X.base k f fd ps sp)(hr:zck k X.A)(g:Gl X x)(hm:X.mg x=some (.ref f))(hk:PySem.W.keepIn X.K (.ref f)=true)(hb:Binds X.K fd ps ds)(hd:Vals dX ds)(i:PA X (e::es) t)(j:(x==("__debug__":Str))=false:=by decide)(he:starEach (e::es) X.env=(false,eval e X.env)::starEach es X.env:=by rfl)(a:(backTo pos (starEach es X.env)).any (·.1)=false:=by rfl):PE X (.Call (.Name x p) (e::es) [] pos) (l7 sp dX E t):=by
 intro aa s σ H Q I h;refine wpAny_Call_Name_kw (lG I g hm ?_ j);refine PySem.W.callWith_K (h₀:=X.base) I.ok.mod.kin hk (aD (i pos aa s σ H _ I h) fun us b ⟨vs,H1,I1,r,q⟩=>⟨I1.kIn,?_⟩) he a;have c:Vals (vs++dX) (us++ds):=r.append hd;have d:(us++ds).length=ps.length:=by rw[<-c.length];exact F.len _ _ _ _ q
 refine wpAny_call (codeAny_mono (F.run X.A X.stack b H1 ⟨us,[]⟩ (us++ds) (vs++dX) Q E hr I1.env0 (hb b us I1.kIn d) c q) fun r s' hq=>?_);cases r with
 |error e=>exact hq.elim
 |ok fl=>
  cases fl with
  |ret u=>exact I1.after hq
  |next=>exact False.elim hq
  |brk=>exact False.elim hq
  |cont=>exact False.elim hq
end
section
variable{X:Cx}
abbrev zlX:V->List V->Hp->VK->Prop:=fun x vs H Q=>∃(l:Addr)(ys:List V)(y:V),x=.ref l/\vs=[y]/\H l=some (.lst ys)/\ys.all fV=true/\fV y=true/\Q (.int (ys.countP fun z=>fi z y)) H
abbrev zl9:V->List V->Hp->VK->Prop:=fun x vs H Q=>∃(l:Addr)(ys:List V)(y:V)(j:Nat),x=.ref l/\vs=[y]/\H l=some (.lst ys)/\ys.all fV=true/\fV y=true/\j<1000/\((ys[j]?).map fun z=>fi z y)=some true/\(∀m,m<j->((ys[m]?).map fun z=>fi z y)=some false)/\Q (.int j) H
def NB{x:V}{xs:List V}{us:List Value}(h:Vals xs us)(f:xs.all fV=true):us.countP (ii x)=xs.countP fun y=>fi y x:=by
 induction h with
 |nil=>rfl
 |cons r t ih=>
  rw[List.all_cons,AC] at f;rw[List.countP_cons,List.countP_cons,vu r f.1,ih f.2]
def GD{x:V}{xs:List V}{us:List Value}(h:Vals xs us)(f:xs.all fV=true):∀m:Nat,(us[m]?).map (ii x)=(xs[m]?).map fun y=>fi y x:=by
 induction h with
 |nil=>intro m;simp
 |cons r t ih=>
  rw[List.all_cons,AC] at f;intro m;cases m with
  |zero=>simp[vu r f.1]
  |succ m=>simpa using ih f.2 m
def NC:kA X "list.count" zlX:=by
 intro aa s σ H x vs v us Q I d f h;obtain⟨l,ys,y,rfl,rfl,i,a,j,q⟩:=h;cases d;obtain⟨u,rfl,o⟩:=f.one;obtain⟨z,b,c,r,w,e⟩:=I.lstM i;refine call_meets F.slot_list_count ⟨_,e,rfl⟩ F.entry_list_count (F.args_list_count_2 _ _) (SeqAt.list_countAt l b.toArray c none #[] u (ii y)) ⟨e,fun g hy=>?_,?_⟩
 ·exact vI o j r a g (by simpa using hy)
 ·have p:b.toArray.toList.countP (ii y)=ys.countP fun z=>fi z y:=NB r a
  exact⟨.int (ys.countP fun z=>fi z y),H,I.tok _,⟨_,by rw[<-p]⟩,q⟩
def ND:kA X "list.index" zl9:=by
 intro aa s σ H x vs v us Q I g i h;obtain⟨l,ys,y,j,rfl,rfl,w,b,A,D,h1,h2,q⟩:=h;cases g;obtain⟨u,rfl,C⟩:=i.one;obtain⟨z,a,c,r,E,e⟩:=I.lstM w;have g1:=(GD (x:=y) r b j).trans h1;have f:j<a.toArray.size:=by
  rcases Nat.lt_or_ge j a.length with q|q
  ·simpa using q
  ·rw[List.getElem?_eq_none q] at g1;cases g1
 have get:∀(m:Nat)(hm:m<a.toArray.size),(a[m]?).map (ii y)=some (ii y a.toArray[m]):=fun m hm=>by
  rw[Af (by simpa using hm)];rfl
 have d:(j:Int)<2 ^ 63-1:=by
  have h1:(j:Int)<1000:=ω
  have h2:(1000:Int)<2 ^ 63-1:=ξ
  omega
 refine call_meets F.slot_list_index ⟨_,e,rfl⟩ F.entry_list_index (F.args_list_index_2 _ _) (SeqAt.list_indexAt l a.toArray c none #[] u (ii y) j f d ?_ ?_) ⟨e,fun o hy=>?_,?_⟩
 ·exact An ((get j f).symm.trans g1)
 ·intro m hm p
  exact An ((get m hm).symm.trans ((GD (x:=y) r b m).trans (h2 m p)))
 ·exact vI C A r b o (by simpa using hy)
 ·exact⟨.int j,H,I.tok _,⟨_,rfl⟩,q⟩
end
def NE{K:Ad}{C S:Addr}(G:PySem.W.excIn K C kd "ValueError.__new__"=true)(H:PySem.W.excIn K S kd "ValueError.__new__"=true)(m:PySem.W.mroIn K C (.ref S)=some true):iI K C S:=by
 intro h X;obtain⟨bm,N,nm,e,bs,hdct,sn,sub,ab,col,dd,k0,k1,k2,k3,k5,I,_,f,d⟩:=Cg X G;obtain⟨i,N',j,l,o,p,q,r,s,u,v,w,x,y,A,D,L,_,E,F⟩:=Cg X H;refine⟨nm,e,N,bs,bm,hdct,sn,sub,ab,col,dd,k0,k1,k2,k3,k5,_,j,l,N',o,i,p,q,r,s,u,v,w,x,y,A,D,_,(d h X).1,(F h X).1,E _ ξ,?_⟩;have g:=(d h X).1;unfold PySem.W.mroIn at m;obtain⟨J,a,b⟩:=Option.bind_eq_some_iff.mp m;unfold PySem.W.clsIn at a;split at a
 ·rename_i c' d' cd' gQ ho
  cases a;have z:=(X _ _ ho).symm.trans g;injection z with z
  have c:=congrArg Obj.data z;injection c with c
  subst c;split at b
  ·cases b
  ·exact An b
 ·cases a
def NF{K:Ad}{C:Addr}{bm:List Value}{n:String}(q:PySem.W.excIn K C bm n=true):(PySem.W.clsIn K C).isSome=true:=by
 unfold PySem.W.excIn at q;unfold PySem.W.clsIn;split at q
 ·rename_i ho;rw[ho];rfl
 ·cases q
def Cl(P:Program)(w:World)(K:Ad)(mg:Str->Option Value)(base:Heap)(CX:eL)(x:Str)(ps:List Str)(k:Nat)(sp:Sp):Prop:=
 ∃(f:Addr)(fd:FuncData),PySem.W.keepIn K (.ref f)=true/\Binds K fd ps []/\mg x=some (.ref f)/\FnOk P w K mg base CX k f fd ps sp
section
variable{X:Cx}{CX:eL}{k n:Nat}{ps:List Str}{sp:Sp}{E:XK}{x:Str}{p pos:Pos}{e:Expr}{es:List Expr}{t:TA}
def cK(C:Cl X.prog X.w X.K X.mg X.base CX x ps k sp)(hr:Room n X.A)(b:Gl X x)(hx:cL CX X E)(c:PA X (e::es) t)(d:k<=n:=by decide)(g:(x==("__debug__":Str))=false:=by decide)
  (he:starEach (e::es) X.env=(false,eval e X.env)::starEach es X.env:=by rfl) (a:(backTo pos (starEach es X.env)).any (·.1)=false:=by rfl):PE X (.Call (.Name x p) (e::es) [] pos) (l7 sp [] E t):=by
 obtain⟨f,fd,hk,hb,hm,F⟩:=C;exact zo F (hr.mono d) b hm hk hb .nil hx c g he a
end
section
variable{P:Program}{w:World}{K:Ad}{mg:Str->Option Value}{base:Heap}{CX:eL}{k:Nat}{f:Addr}{fd:FuncData}{x:Str}{st:Stmt}{ps:List Str}{sp sq:Sp}
def FnOk.or(F:FnOk P w K mg base CX k f fd ps sp)(G:FnOk P w K mg base CX k f fd ps sq):FnOk P w K mg base CX k f fd ps (fun vs H Q E=>sp vs H Q E\/sq vs H Q E):=
 ⟨fun vs H Q E h=>h.elim (F.len vs H Q E) (G.len vs H Q E),fun A outer s H args us vs Q E hr he hb a h=>h.elim (F.run A outer s H args us vs Q E hr he hb a) (G.run A outer s H args us vs Q E hr he hb a)⟩
def eX(F:Fun K x x st f fd)(b:Binds K fd ps [])(m:mg x=some (.ref f))(G:FnOk P w K mg base CX k f fd ps sp):Cl P w K mg base CX x ps k sp:=⟨f,fd,F.kp,b,m,G⟩
structure Df(K:Ad)(x:Str)(st:Stmt)(f:Addr):Prop where
 ex:∃fd,Fun K x x st f fd
 a:PySem.W.nsIn K mainGlobals x=some (some (.ref f))
def Cn{h:Value}{i e:Option Addr}{g:Array (Option Value)}{kV b d cdv ct:Value}(a:PySem.W.nsIn K mainGlobals x=some (some (.ref f)))(l:K.lookup f=some ⟨h,i,.func (PySem.W.fnOf x x (zb7 st) (zK st) (zg st) .none kV b d e cdv ct),g⟩)(c:PySem.W.codeIn K cdv x=true)(k:PySem.W.keepIn K (.ref f)=true):Df K x st f:=⟨⟨_,IA l c k⟩,a⟩
structure Nn(K:Ad)(x:Str)(v:Option Value):Prop where
 e:PySem.W.nsIn K mainGlobals x=some v
abbrev BA(x:Str)(st:Stmt)(us:List Value)(r:List (Str×Value)):Prop:=∀(kV bz pm:Value)(an:Option Addr)(cdv ct:Value),bindArgs (PySem.W.fnOf x x (zb7 st) (zK st) (zg st) .none kV bz pm an cdv ct) ⟨us,[]⟩=pure r
variable{h:Heap}(X:K.In h)(G:h.Ns mainGlobals mg)
include X G
theorem Nn.m{v:Value}(n:Nn K x (some v)):mg x=some v:=PySem.W.mg_of X G n.e
theorem Nn.n(n:Nn K x none):mg x=none:=PySem.W.mg_none_of X G n.e
theorem Df.m(D:Df K x st f):mg x=some (.ref f):=PySem.W.mg_of X G D.a
theorem Df.g1(D:Df K x st f)(p:Str)(hb:∀a,BA x st [a] [(p,a)]:=by exact fun _ _ _ _ _ _ _=>rfl):∃fd,Fun K x x st f fd/\Binds K fd [p] []/\mg x=some (.ref f):=by
 obtain⟨⟨fd,F⟩,a⟩:=D;refine⟨fd,F,F.binds fun _ _ _ _ _ _ us b=>?_,PySem.W.mg_of X G a⟩
 match us,b with
 |[a],_=>exact hb a _ _ _ _ _ _
theorem Df.g2(D:Df K x st f)(p q:Str)(hb:∀a b,BA x st [a,b] [(p,a),(q,b)]:=by exact fun _ _ _ _ _ _ _ _=>rfl):∃fd,Fun K x x st f fd/\Binds K fd [p,q] []/\mg x=some (.ref f):=by
 obtain⟨⟨fd,F⟩,a⟩:=D;refine⟨fd,F,F.binds fun _ _ _ _ _ _ us c=>?_,PySem.W.mg_of X G a⟩
 match us,c with
 |[a,b],_=>exact hb a b _ _ _ _ _ _
theorem Df.g3(D:Df K x st f)(p q r:Str)(hb:∀a b c,BA x st [a,b,c] [(p,a),(q,b),(r,c)]:=by exact fun _ _ _ _ _ _ _ _ _=>rfl):∃fd,Fun K x x st f fd/\Binds K fd [p,q,r] []/\mg x=some (.ref f):=by
 obtain⟨⟨fd,F⟩,a⟩:=D;refine⟨fd,F,F.binds fun _ _ _ _ _ _ us d=>?_,PySem.W.mg_of X G a⟩
 match us,d with
 |[a,b,c],_=>exact hb a b c _ _ _ _ _ _
theorem Df.g4(D:Df K x st f)(p q r s:Str)(hb:∀a b c d,BA x st [a,b,c,d] [(p,a),(q,b),(r,c),(s,d)]:=by exact fun _ _ _ _ _ _ _ _ _ _=>rfl):∃fd,Fun K x x st f fd/\Binds K fd [p,q,r,s] []/\mg x=some (.ref f):=by
 obtain⟨⟨fd,F⟩,a⟩:=D;refine⟨fd,F,F.binds fun _ _ _ _ _ _ us e=>?_,PySem.W.mg_of X G a⟩
 match us,e with
 |[a,b,c,d],_=>exact hb a b c d _ _ _ _ _ _
theorem Df.g5(D:Df K x st f)(p q r s u:Str)(hb:∀a b c d e,BA x st [a,b,c,d,e] [(p,a),(q,b),(r,c),(s,d),(u,e)]:=by exact fun _ _ _ _ _ _ _ _ _ _ _=>rfl):∃fd,Fun K x x st f fd/\Binds K fd [p,q,r,s,u] []/\mg x=some (.ref f):=by
 obtain⟨⟨fd,F⟩,a⟩:=D;refine⟨fd,F,F.binds fun _ _ _ _ _ _ us g=>?_,PySem.W.mg_of X G a⟩
 match us,g with
 |[a,b,c,d,e],_=>exact hb a b c d e _ _ _ _ _ _
omit X G
theorem NG{C:Addr}(a:PySem.W.findIn K (.ref C) "__getattribute__"=some (some (.builtin "BaseException.__getattribute__")))(b:PySem.W.findIn K (.ref C) "__getattr__"=some none)(q:PySem.W.excIn K C kd "ValueError.__new__"=true)(c:PySem.W.findIn K (.ref C) "__class__"=some (some (.builtin "object.__class__")))(d:PySem.W.specialIn K (.builtin "object.__class__") "__get__"=some (some (.builtin "getset_descriptor.__get__")))(e:PySem.W.takesIn K (.builtin "object.__class__")=some true)(f:PySem.W.mroIn K C (.type "object")=some true)(g:PySem.W.mroIn K C (.type "BaseException")=some true):eF K C:=
 ⟨a,b,NF q,c,d,e,f,g⟩
end
end L2
end
section
namespace K55
open K1
open PySem L2 STb
def dc(G:List Int->Int)(cs:Ch):Int:=(cs.map fun c=>c.2*G c.1).sum
def kf(c:List Int×Int)(r:Ch)(G:List Int->Int):dc G (c::r)=c.2*G c.1+dc G r:=by unfold dc;rw[Ar,List.sum_cons]
def GE(a b:Ch)(G:List Int->Int):dc G (a++b)=dc G a+dc G b:=by unfold dc;rw[Am,List.sum_append]
def GF(q:List Int)(v:Int)(G:List Int->Int):∀{cs:Ch},(ksC cs).Nodup->dc G (cs.map fun c=>if c.1=q then(c.1,v) else c)=dc G cs+if q∈ksC cs then(v-aY cs q)*G q else 0
 |[],_=>by simp[dc,ksC]
 |c::r,h=>by
  have h':(c.1::ksC r).Nodup:=h;rw[List.nodup_cons] at h';have b:=GF q v G h'.2;rw[Ar,kf,kf,b,zS]
  by_cases e:c.1=q
  ·subst e
   rw[if_pos rfl,if_neg h'.1,if_pos (show c.1∈ksC (c::r) from Av),if_pos rfl,Int.sub_mul];show v*G c.1+_=_;omega
  ·rw[if_neg e,if_neg e]
   by_cases g:q∈ksC r
   ·rw[if_pos g,if_pos (show q∈ksC (c::r) from Ax _ g)]
    omega
   ·have a:¬q∈ksC (c::r):=fun z=>by
     rcases List.mem_cons.mp (show q∈c.1::ksC r from z) with z|z
     ·exact e z.symm
     ·exact g z
    rw[if_neg g,if_neg a];omega
def NH{cs:Ch}(h:(ksC cs).Nodup)(q:List Int)(v:Int)(G:List Int->Int):dc G (bX cs q v)=dc G cs+(v-aY cs q)*G q:=by
 unfold bX
 by_cases g:q∈ksC cs
 ·rw[if_pos g,GF q v G h,if_pos g]
 ·rw[if_neg g,GE,kf,rG g]
  simp[dc]
def NI(G:List Int->Int)(ts:Ch):dc G (a0 ts)=dc G ts:=la (P:=fun ts=>dc G (a0 ts)=dc G ts) rfl (fun l t a=>by
 rw[ol,GE];unfold gA;rw[NH (rD l),a,kf];have e:aY (a0 l) t.1+t.2-aY (a0 l) t.1=t.2:=ω
 rw[e];simp[dc]) ts
def GG(G:List Int->Int):∀cs:Ch,dc G (cs.filter eB)=dc G cs
 |[]=>rfl
 |c::r=>by
  have a:=GG G r;cases hz:eB c with
  |true=>rw[List.filter_cons_of_pos hz,kf,kf,a]
  |false=>
   have b:c.2=0:=by
    have:(!decide (V.int c.2=V.int 0))=false:=hz;have:=of_decide_eq_true (by simpa using this:decide (V.int c.2=V.int 0)=true);injection this
   rw[List.filter_cons_of_neg (by rw[hz];decide),kf,b,a];omega
def NJ(ts:Ch)(G:List Int->Int):dc G (sumC ts)=dc G ts:=by unfold sumC;rw[GG,NI]
def NK{a b:Ch}(f:(ksC a).Nodup)(hb:(ksC b).Nodup)(g:∀c∈a,c.2≠0)(o:∀c∈b,c.2≠0)(h:∀x,aY a x=aY b x):a.length=b.length/\∀c∈a,c∈b:=by
 have d:∀{cs:Ch}{x:List Int},aY cs x≠0->(x,aY cs x)∈cs:=by
  intro cs x
  induction cs with
  |nil=>intro z;exact absurd rfl z
  |cons c r ih=>
   intro z;rw[zS] at z ⊢
   by_cases e:c.1=x
   ·rw[if_pos e]
    have:c=(x,c.2):=by rw[<-e]
    rw[<-this];exact Av
   ·rw[if_neg e] at z ⊢
    exact Ax _ (ih z)
 have sub:∀{a b:Ch},(ksC a).Nodup->(∀c∈a,c.2≠0)->(∀x,aY a x=aY b x)->∀c∈a,c∈b:=by
  intro a b f g h c hc;have e:=BY f c hc;have i:=g c hc;rw[h] at e;have:=d (cs:=b) (x:=c.1) (by rw[e];exact i);rw[e] at this;exact this
 refine⟨?_,sub f g h⟩;have j:(ksC a).length<=(ksC b).length:=f.length_le_of_subset fun q hq=>by
  obtain⟨c,hc,rfl⟩:=List.mem_map.mp hq;exact List.mem_map.mpr ⟨c,sub f g h c hc,rfl⟩
 have l:(ksC b).length<=(ksC a).length:=hb.length_le_of_subset fun q hq=>by
  obtain⟨c,hc,rfl⟩:=List.mem_map.mp hq;exact List.mem_map.mpr ⟨c,sub hb o (fun x=>(h x).symm) c hc,rfl⟩
 rw[j6,j6] at j l;omega
def GH{x:Int}{a b:List Int}(h:a.Perm b):gD x a=gD x b:=(h.filter _).length_eq
def so(x y:Int)(l:List Int):gD x (y::l)=(if y<x then 1 else 0)+gD x l:=by
 unfold gD;rw[List.filter_cons]
 by_cases h:y<x
 ·rw[if_pos (decide_eq_true h),if_pos h,Au];omega
 ·rw[if_neg (by simpa using h),if_neg h];omega
def NL(f:Int->Int){a b:List Int}(h:a.Perm b):(a.map f).Nodup->(falls (a.map f)+falls a)%2=(falls (b.map f)+falls b)%2:=by
 induction h with
 |nil=>intro _;rfl
 |cons x h ih=>
  intro c;rw[Ar,List.nodup_cons] at c;have:=ih c.2;rw[Ar,Ar];unfold falls;rw[GH h,GH (h.map f)];omega
 |swap x y l=>
  intro c;rw[Ar,Ar,List.nodup_cons,List.mem_cons] at c;have hf:f y≠f x:=fun z=>c.1 (.inl z);have hx:y≠x:=fun z=>hf (by rw[z]);rw[Ar,Ar,Ar,Ar];unfold falls;unfold falls;rw[so,so,so,so]
  by_cases h1:x<y<;>by_cases h2:f x<f y<;>simp only[h1,h2,if_true,if_false]<;>(first|rw[if_neg ω]|rw[if_pos ω])<;>(first|rw[if_neg ω]|rw[if_pos ω])<;>omega
 |trans h1 h2 x0 ui=>
  intro c;exact(x0 c).trans (ui ((h1.map f).nodup_iff.mp c))
def GI:∀{l:List Int},l.Pairwise (·<=·)->falls l=0
 |[],_=>rfl
 |x::r,h=>by
  rw[List.pairwise_cons] at h;unfold falls;rw[GI h.2];have:gD x r=0:=by
   unfold gD;rw[List.length_eq_zero_iff,List.filter_eq_nil_iff];intro y hy;have:=h.1 y hy;simp;omega
  omega
def pi(l:List Int):(gE l).Perm l:=List.mergeSort_perm _ _
def sr(l:List Int):(gE l).Pairwise (·<=·):=(List.pairwise_mergeSort (le:=fun a b:Int=>decide (a<=b)) (fun a b c h1 h2=>by simp at *;omega) (fun a b=>by simp;omega) l).imp fun h=>by simpa using h
def NM(a b:Nat)(n:Int):sg a (sg b n)=sg (a+b) n:=by
 unfold sg
 by_cases c:(a:Int)%2=0<;>by_cases hb:(b:Int)%2=0
 ·rw[if_pos c,if_pos hb,if_pos ω]
 ·rw[if_pos c,if_neg hb,if_neg ω]
 ·rw[if_neg c,if_pos hb,if_neg ω]
 ·rw[if_neg c,if_neg hb,if_pos ω,Int.neg_neg]
def NN{a b:Nat}(h:a%2=b%2)(n:Int):sg a n=sg b n:=by
 unfold sg
 by_cases c:(a:Int)%2=0
 ·rw[if_pos c,if_pos ω]
 ·rw[if_neg c,if_neg ω]
def NO(f:Int->Int)(l:List Int)(n:Int):(dI l n).flatMap (fun c=>dI (c.1.map f) c.2)=dI (l.map f) n:=by
 by_cases h:l.Nodup
 ·unfold dI
  rw[if_pos h,List.flatMap_cons,List.flatMap_nil,List.append_nil];have hp:=(pi l).map f
  by_cases hf:(l.map f).Nodup
  ·rw[if_pos hf,if_pos (hp.nodup_iff.mpr hf)]
   have e1:gE ((gE l).map f)=gE (l.map f):=FY ((pi _).trans hp) (sr _);have e2:=NL f (pi l) (hp.nodup_iff.mpr hf);rw[GI (sr l)] at e2;rw[e1,NM,NN (show(falls ((gE l).map f)+falls l)%2=falls (l.map f)%2 from ω)]
  ·rw[if_neg hf,if_neg fun z=>hf (hp.nodup_iff.mp z)]
 ·have hf:¬(l.map f).Nodup:=fun z=>h (List.Pairwise.of_map f (fun a b g e=>g (by rw[e])) z)
  unfold dI;rw[if_neg h,if_neg hf]
  rfl
def cf(ns ms:List (Int×Int))(p:Int×Int):Int×Int:=(p.1,nv ms (nv ns p.1))
def comp(ns ms:List (Int×Int)):List (Int×Int):=ns.map (cf ns ms)
def NP(ns ms:List (Int×Int)):(comp ns ms).map (·.1)=ns.map (·.1):=by unfold comp;rw[As];rfl
def GJ{g:Int->Int}{x:Int}:∀{l:List (Int×Int)},x∈l.map (·.1)->nv (l.map fun p=>(p.1,g p.1)) x=g x
 |[],h=>nomatch h
 |p::r,h=>by
  unfold nv;rw[Ar,List.find?_cons]
  by_cases e:p.1=x
  ·rw[decide_eq_true e,<-e];rfl
  ·rw[decide_eq_false e]
   exact GJ (l:=r) ((List.mem_cons.mp h).resolve_left fun z=>e z.symm)
def Co{ns ms:List (Int×Int)}{x:Int}(h:x∈ns.map (·.1)):nv (comp ns ms) x=nv ms (nv ns x):=GJ (g:=fun x=>nv ms (nv ns x)) h
def GK{ns ms:List (Int×Int)}:∀{cs:Ch},(∀c∈cs,∀x∈c.1,x∈ns.map (·.1))->carT ms (carT ns cs)=carT (comp ns ms) cs
 |[],_=>rfl
 |c::r,h=>by
  unfold carT;rw[List.flatMap_cons,List.flatMap_cons,List.flatMap_append,NO,As];have e:c.1.map (nv ms ∘ nv ns)=c.1.map (nv (comp ns ms)):=AY fun x hx=>(Co (h c Av x hx)).symm;rw[e];exact congrArg _ (GK (cs:=r) fun d hd=>h d (Ax _ hd))
def NQ(l:List Int)(n:Int)(x:List Int):cZ (dI l n) x=n*cZ (dI l 1) x:=by
 unfold dI
 by_cases h:l.Nodup
 ·rw[if_pos h,if_pos h]
  unfold cZ sg;simp only[Ar,List.map_nil,List.sum_cons,List.sum_nil,Int.add_zero]
  by_cases e:gE l=x<;>by_cases g:(falls l:Int)%2=0<;>simp[e,g]
 ·rw[if_neg h,if_neg h];simp[cZ]
def GL(ms:List (Int×Int))(ts:Ch)(x:List Int):cZ (carT ms ts) x=dc (fun p=>cZ (dI (p.map (nv ms)) 1) x) ts:=by
 unfold carT dc;rw[Fv];exact congrArg List.sum (AY fun c _=>NQ _ _ _)
def NR(ms:List (Int×Int))(ts:Ch)(x:List Int):cZ (carT ms (sumC ts)) x=cZ (carT ms ts) x:=by rw[GL,NJ,GL]
def twice{ns ms:List (Int×Int)}{cs:Ch}(h:∀c∈cs,∀x∈c.1,x∈ns.map (·.1)):(sumC (carT (comp ns ms) cs)).length=(sumC (carT ms (sumC (carT ns cs)))).length/\∀c∈sumC (carT (comp ns ms) cs),c∈sumC (carT ms (sumC (carT ns cs))):=
 NK (ow _) (ow _) (fun c hc=>(rH hc).1) (fun c hc=>(rH hc).1) fun x=>by rw[BX,BX,NR,GK h]
end K55
end
section
namespace L2
open PySem PySem.Spec PyProof.Rows
section
variable{X:Cx}{aa:Ψ}{σ:St}{H:Hp}{s:Shared}{D:Addr}{o:Obj}{kvs bU:List (Key×V)}
def Inv.thawK(I:Inv X aa σ H s)(g:X.H₀ D=some (.dK bU))(d:H D=some (.frz o (.dK kvs))):Inv X aa σ (upd H D (.dK kvs)) s:=by
 have ne:∀{b:Addr},H b=none->b≠D:=fun{b} e=>(zh d e).symm;refine⟨I.ok,I.os,I.bare,⟨I.base.keep,I.base.slot,fun b u e n hx=>?_,I.base.there,fun b xs e=>?_,fun b ob u e=>?_,fun b ps e=>?_⟩,I.loc,I.cell,?_,fun x c e=>?_,fun p hp=>?_,fun b u e=>?_,I.len⟩
 ·have:=I.base.free b u e n hx
  rw[zj (ne this)];exact this
 ·have:=I.base.tups b xs e
  rw[zj (dj this d (by intro z;cases z))];exact this
 ·have hb:b≠D:=fun z=>by rw[z,g] at e;cases e
  rw[zj hb];exact I.base.frzs b ob u e
 ·have hb:b≠D:=fun z=>by rw[z,g] at e;cases e
  rw[zj hb];exact I.base.tbls b ps e
 ·rw[zj (ne I.free)];exact I.free
 ·rw[zj (ne (I.freeC x c e))];exact I.freeC x c e
 ·obtain⟨h,f,i⟩:=I.pin p hp
  exact⟨h,by rw[zj (ne f)];exact f,i⟩
 ·have st:∀{a:Addr}{v:HO},zC X.prog X.w H s.heap a v->zC X.prog X.w (upd H D (.dK kvs)) s.heap a v:=fun{a v} x=>
   x.stay (fun _ _ _ q=>q) (fun c q=>by rw[zj (dj q d (by intro z;cases z))];exact q) fun c xs q=>by rw[zj (dj q d (by intro z;cases z))];exact q
  by_cases hb:b=D
  ·subst hb
   rw[ak] at e;cases e;have hx:=I.hok b _ d;exact st (show s.heap.get? b=some o/\zC X.prog X.w H s.heap b (.dK kvs) from hx).2
  ·rw[zj hb] at e
   exact st (I.hok b u e)
def NS(a:Hp)(t:TE):TE:=fun σ H Q=>t σ H fun x H1=>∃D o kvs bU,a D=some (.dK bU)/\H1 D=some (.frz o (.dK kvs))/\Q x (upd H1 D (.dK kvs))
def NT{e:Expr}{t:TE}(h:PE X e t):PE X e (NS X.H₀ t):=by
 intro aa s σ H Q I q;refine aD (h aa s σ H _ I q) fun v d ⟨x,H1,I1,a,D,o,kvs,bU,b,c,k⟩=>?_;exact⟨x,_,I1.thawK b c,a,k⟩
end
end L2
end
section
namespace K55
open K1
open PySem L2 STb
abbrev ki:Stmt:=top 42
def GM{kn:Ξ}{x:Int}:x∈dots kn↔[x]∈kn:=by
 unfold dots;rw[List.mem_map];constructor
 ·rintro⟨p,hp,rfl⟩
  obtain⟨h1,h2⟩:=List.mem_filter.mp hp
  match p,of_decide_eq_true h2 with
  |[y],_=>exact h1
 ·intro h
  exact⟨[x],List.mem_filter.mpr ⟨h,rfl⟩,rfl⟩
def NU(ns:List (Int×Int))(x:Int):dy ns [x]=[nv ns x]:=(oA (ns:=ns) (p:=[x]) (ms:=[nv ns x]) (List.Perm.refl _) (List.pairwise_singleton _ _)).symm
def GN{ns:List (Int×Int)}{kn:Ξ}{x:Int}(h:fh ns kn=true):x∈ns.map (·.1)↔x∈dots kn:=by
 rw[<-of_decide_eq_true h];exact(List.mergeSort_perm _ _).mem_iff.symm
def GO{ns ms:List (Int×Int)}{pss ae av:Ξ}(h1:aW ns (canon pss) (canon ae)=true)(h2:aW ms (canon ae) (canon av)=true){x:Int}(hx:x∈ns.map (·.1)):nv ns x∈ms.map (·.1):=by
 unfold aW at h1 h2;rw[AC] at h1 h2;have a:=GM.mp ((GN h1.1).mp hx);have b:=of_decide_eq_true (List.all_eq_true.mp h1.2 _ a);rw[NU] at b;exact(GN h2.1).mpr (GM.mpr b)
def GP{ns:List (Int×Int)}{pss:Ξ}(h:fh ns (canon pss)=true):(ns.map (·.1)).Nodup:=by
 have:=lr (pss:=pss);rw[<-of_decide_eq_true h] at this;exact(List.mergeSort_perm _ _).nodup_iff.mp this
section
variable{P:Program}{w:World}{K:Ad}{mg:Str->Option Value}{base:Heap}{f fM:Addr}{fd:FuncData}
abbrev QX(K:Ad)(C:Addr):Prop:=PySem.W.excIn K C kd "ValueError.__new__"=true
def pj(K:Ad)(fM:Addr):Sp:=fun vs H Q E=>∃l o m as bs pss ae ns,vs=[.ref l,.ref o,.ref m]/\WM K H l o m as bs pss ae ns/\((aW ns (canon pss) (canon ae)=true/\∀H',Same H H'->Q .non H')\/(aW ns (canon pss) (canon ae)=false/\∀H',Same H H'->∀x,H' x=none->E (.ref x) (some fM) H'))
def NV(F:Fun K "must_be_map" "must_be_map" oQ f fd)(j:mg "NoMap"=some (.ref fM))(p:QX K fM)(q:Cl P w K mg base az "is_map" ["web","other","names"] 9 (B9 K)):FnOk P w K mg base (fG P w) 10 f fd ["web","other","names"] (pj K fM):=by
 refine F.ok1 Gd (fun vs H Q E h=>?_) (fun cdv A outer s H vs Q E hr h=>?_)
 ·obtain⟨l,o,m,as,bs,pss,ae,ns,rfl,_⟩:=h;rfl
 ·obtain⟨l,o,m,as,bs,pss,ae,ns,rfl,i,h⟩:=h
  refine⟨_,zi (zR (fL (fN (cK q hr rfl ao (ac (pv 0) (ac (pv 1) (ac (pv 2) al)))))) (zi (Nk (C:=fM) (EX:=E) rfl rfl j p (fun aa σ H' s' x I hx d hs g=>GB I hx d hs (fun a e=>nomatch e) g))) zv),?_⟩;refine⟨_,rfl,_,rfl,_,rfl,l,o,m,as,bs,pss,ae,ns,rfl,i,fun H1 c=>⟨_,rfl,?_⟩⟩;rcases h with ⟨b,k⟩|⟨b,k⟩
  ·rw[b];exact aI (k H1 c)
  ·rw[b];exact bg fun x hx=>k H1 c x hx
abbrev gJ(ns ms:List (Int×Int))(pss ae av:Ξ):Bool:=aW ns (canon pss) (canon ae)&&aW ms (canon ae) (canon av)
def pk(K:Ad)(fM:Addr):Sp:=fun vs H Q E=>∃l o z m e as bs gs pss ae av ns ms,vs=[.ref l,.ref o,.ref z,.ref m,.ref e]/\m≠e/\WM K H l o m as bs pss ae ns/\WM K H o z e bs gs ae av ms/\
 ((gJ ns ms pss ae av=true/\∀D H',Same H H'->H D=none->H' D=some (zV (comp ns ms))->Q (.ref D) H')\/(gJ ns ms pss ae av=false/\∀H',Same H H'->∀x,H' x=none->E (.ref x) (some fM) H'))
abbrev NW:List Str:=["web","middle","last","one","other","some","told","point"]
def ss:zq NW ["web","middle","last","one","other"] (zg ki):=⟨rfl,rfl,rfl,δ,rfl,δ,δ⟩
def NX(F:Fun K "behind" "behind" ki f fd)(Cw:Cl P w K mg base az "must_be_web" ["web"] 7 (Bp K))(Cm:Cl P w K mg base (fG P w) "must_be_map" ["web","other","names"] 10 (pj K fM)):FnOk P w K mg base (fG P w) 11 f fd ["web","middle","last","one","other"] (pk K fM):=by
 refine F.ok1 ss (fun vs H Q E h=>?_) (fun cdv A outer s H vs Q E hr h=>?_)
 ·obtain⟨l,o,z,m,e,as,bs,gs,pss,ae,av,ns,ms,rfl,_⟩:=h;rfl
 ·obtain⟨l,o,z,m,e,as,bs,gs,pss,ae,av,ns,ms,rfl,hne,p,M,h⟩:=h
  have hu:=d_ hr;refine⟨_,zd (dW PassesOwn.leaving rfl (zA (zO (ac (pv 0) (ac (pv 1) (ac (pv 2) al))))) (zn (i:=5) ss.nd rfl (Or.inl rfl)) (zi (fO (cK Cw hr rfl ao (ac (pv 5) al)))))
   (zd (fO (cK Cm hr rfl (jo (E:=E)) (ac (pv 0) (ac (pv 1) (ac (pv 3) al)))))
   (zd (fO (cK Cm hr rfl (jo (E:=E)) (ac (pv 1) (ac (pv 2) (ac (pv 4) al)))))
   (zd (zr (i:=6) ss.nd rfl (Or.inl rfl) v9)
   (zd (dW PassesOwn.leaving rfl (J4 (pv 3)) (zn (i:=7) ss.nd rfl (Or.inl rfl)) (zi (gb hu (pv 6) (pv 7) (fY hu (pv 4) (fY hu (pv 3) (pv 7) (fun _ _=>rfl)) (fun _ _=>rfl)) rfl)))
   (zi (zt (NT (pv 6)))))))),?_⟩
  refine⟨_,rfl,_,rfl,_,rfl,ze (by simp),fun L hL=>⟨L,rfl,⟨_,SqL.of ak⟩,?_⟩⟩;have sL:=Same.new (o:=.lst [.ref l,.ref o,.ref z]) hL;refine gM (K:=K) (a:=L) (xs:=[.ref l,.ref o,.ref z]) (fun i σ H2=>∃J:Option V,σ=[some (.ref l),some (.ref o),some (.ref z),some (.ref m),some (.ref e),J,none,none]/\Same H H2/\H2 L=some (.lst [.ref l,.ref o,.ref z])) ⟨none,rfl,sL,ak⟩ (fun i σ H2 _ ⟨_,_,_,h⟩=>SqL.of h) ?_ ?_
  ·rintro i x σ H2 hx ⟨J,rfl,g,N⟩
   have hi:i<3:=(List.getElem?_eq_some_iff.mp hx).1;have v:=p.same g;have w2:=M.same g;have:i=0\/i=1\/i=2:=ω
   rcases this with rfl|rfl|rfl<;>obtain rfl:=An hx
   ·exact⟨_,rfl,l,as,pss,rfl,v.hl,v.ha,v.hw,fun G d=>⟨_,rfl,g.trans d,d _ _ N⟩⟩
   ·exact⟨_,rfl,o,bs,ae,rfl,v.ho,v.hb,v.hv,fun G d=>⟨_,rfl,g.trans d,d _ _ N⟩⟩
   ·exact⟨_,rfl,z,gs,av,rfl,w2.ho,w2.hb,w2.hv,fun G d=>⟨_,rfl,g.trans d,d _ _ N⟩⟩
  rintro σ H2 ⟨J,rfl,g,N⟩;refine⟨_,rfl,_,rfl,_,rfl,l,o,m,as,bs,pss,ae,ns,rfl,p.same g,?_⟩;cases hN:aW ns (canon pss) (canon ae) with
  |false=>
   rcases h with ⟨c,k⟩|⟨c,k⟩
   ·unfold gJ at c;rw[hN] at c;exact absurd c (by simp)
   ·exact .inr ⟨rfl,fun G d=>k G (g.trans d)⟩
  |true=>
   refine .inl ⟨rfl,fun G d=>?_⟩;have fU:=g.trans d;refine⟨_,rfl,_,rfl,_,rfl,o,z,e,bs,gs,ae,av,ms,rfl,M.same fU,?_⟩;rcases h with ⟨c,k⟩|⟨c,k⟩
   ·unfold gJ at c
    rw[hN,Bool.true_and] at c;refine .inl ⟨c,fun H4 Y=>?_⟩;have X:=fU.trans Y;have hkb:fh ns (canon pss)=true:=by unfold aW at hN;rw[AC] at hN;exact hN.1
    have bC:=GP hkb;refine fun T I=>?_;have sT:=Same.new (o:=.dK []) I;have iQ:=X.trans sT;have xQ:=iQ _ _ p.hm;have yN:=iQ _ _ M.hm;have nK:m≠T:=zh (X _ _ p.hm) I;refine⟨_,rfl,m,kZ ns,rfl,xQ,fun ob=>J5 (fun i σ y=>∃Z:Option V,σ=[some (.ref l),some (.ref o),some (.ref z),some (.ref m),some (.ref e),J,some (.ref T),Z]/\zu m H y/\y m=some (.frz ob (.dK (kZ ns)))/\y T=some (zV ((ns.take i).map (cf ns ms))))
     ⟨none,rfl,fun b u hb q=>by rw[zj hb];exact iQ _ _ q,ak,by rw[zj (Ne.symm nK)];exact ak⟩ (fun i σ y _ ⟨_,_,_,h,_⟩=>h) ?_ ?_⟩
    ·rintro i kv σ y C ⟨Z,rfl,O,S,U⟩
     rw[kZ,As,Aj] at C;obtain⟨q,eq,rfl⟩:∃q,ns[i]?=some q/\((Sum.inl q.1:Key),V.int q.2)=kv:=by
      cases hq:ns[i]? with
      |none=>rw[hq] at C;cases C
      |some q=>rw[hq] at C;exact⟨q,rfl,An C⟩
     have D:=Ap eq;have hx:q.1∈ns.map (·.1):=List.mem_map.mpr ⟨q,D,rfl⟩;have iT:=GO hN c hx;have xB:e≠m:=Ne.symm hne;have xl:=O _ _ xB M.hm;have hno:q.1∉((ns.take i).map (cf ns ms)).map (·.1):=by
      rw[As];have h2:(ns.map (·.1))[i]?=some q.1:=by rw[Aj,eq];rfl
      intro hc;have hc':q.1∈(ns.map (·.1)).take i:=by rw[<-List.map_take];exact hc
      obtain⟨j,W⟩:=List.getElem?_of_mem hc';rw[List.getElem?_take] at W;split at W
      ·rename_i hji
       have:=(List.getElem?_inj (by rw[Ab];have:=(List.getElem?_eq_some_iff.mp eq).1;omega) bC).mp (W.trans h2.symm);omega
      ·cases W
     refine⟨_,rfl,_,rfl,_,rfl,m,_,rfl,j8 (.inr ⟨ob,S⟩) hx,e,_,rfl,j8 (.inl xl) iT,_,rfl,_,rfl,T,_,rfl,DPut.k (k:=Sum.inl q.1) U ?_,⟨_,rfl,?_,?_,?_⟩⟩
     ·rw[Ab,Ab,Ab,AJ]
      have:=p.hd;exact zZ ω
     ·intro b u hb hq
      rw[zj (zh (X _ _ hq) I)];exact O _ _ hb hq
     ·rw[zj nK];exact S
     ·rw[ak,AM eq,Am]
      exact congrArg (fun l=>some (HO.dK l)) (sk hno)
    ·rintro σ y ⟨Z,rfl,O,S,U⟩
     rw[Ab,Ab,Az (Ag _)] at U;refine⟨_,rfl,m,ob,kZ ns,kZ ns,p.hm,S,?_⟩;refine k T _ (fun b u hb=>?_) (X.free I) (by rw[zj (Ne.symm nK)];exact U)
     by_cases r:b=m
     ·rw[r] at hb ⊢
      rw[p.hm] at hb;rw[ak];exact hb
     ·rw[zj r];exact O _ _ r hb
   ·unfold gJ at c
    rw[hN,Bool.true_and] at c;exact .inr ⟨c,fun H4 Y=>k H4 (fU.trans Y)⟩
end
end K55
end
section
namespace K55
open K1
open PySem L2
abbrev jp:Stmt:=top 57
def Cq(C:Addr)(i:Nat)(b:Bool):TE:=fun σ H Q=>∃x,σ[i]?=some (some (.ref x))/\H x=some (eW x C)/\Q (.bl b) H
section
variable{X:Cx}{x1 x2 x3 x4:Str}{j1 j2 j3 j4:Nat}{p1 p2 p3 p4:Pos}{es:List Expr}{t:TA}
def gK{n a:Str}{i:Nat}{C d:Addr}{b:Bool}{g f j pos:Pos}(l:eF X.K C)(y:AI X.K (.ref C) (.ref d)=some b)(o:X.mg "isinstance"=none)(p:X.mg a=some (.ref d))(r:Gl X "isinstance")(w:Gl X a)(he:PE X (.Name n f) (aE i))(z:(a==("__debug__":Str))=false:=by decide):PE X (.Call (.Name "isinstance" g) [.Name n f,.Name a j] [] pos) (Cq C i b):=by
 intro aa s σ H Q I h;obtain⟨x,e,hx,q⟩:=h;refine(show PE X _ _ from zl (GC (c:=.ref d) (fun u h=>h) l y) r o nH (ac he (ac (km (v:=.ref d) w p rfl (hd:=z)) al))) aa s σ H Q I ?_;exact⟨_,e,x,rfl,hx,q⟩
def GQ(h:PA X es t):PA X (.Constant (.str x1) j1 p1::.Constant (.str x2) j2 p2::.Constant (.str x3) j3 p3::.Constant (.str x4) j4 p4::es) (zP (tC (.str x1)) (zP (tC (.str x2)) (zP (tC (.str x3)) (zP (tC (.str x4)) t)))):=
 ac pe_str (ac pe_str (ac pe_str (ac pe_str h)))
end
structure Mk(K:Ad)(C f0 f1 f2 f3 f4 f5 f6 f7 f8 f9 dC:Addr)(i:Nat):Prop where
 xc:eF K C
 y0:AI K (.ref C) (.ref f0)=some (decide (i=0))
 y1:AI K (.ref C) (.ref f1)=some (decide (i=1))
 y2:AI K (.ref C) (.ref f2)=some (decide (i=2))
 y3:AI K (.ref C) (.ref f3)=some (decide (i=3))
 y4:AI K (.ref C) (.ref f4)=some (decide (i=4))
 y5:AI K (.ref C) (.ref f5)=some (decide (i=5))
 y6:AI K (.ref C) (.ref f6)=some (decide (i=6))
 y7:AI K (.ref C) (.ref f7)=some (decide (i=7))
 y8:AI K (.ref C) (.ref f8)=some (decide (i=8))
 y9:AI K (.ref C) (.ref f9)=some (decide (i=9))
 y10:AI K (.ref C) (.ref dC)=some (decide (i=10))
 yv:AI K (.ref C) (.type "ValueError")=some true
def NY{K:Ad}{C f0 f1 f2 f3 f4 f5 f6 j f8 f9 dC:Addr}{i:Nat}(a:PySem.W.findIn K (.ref C) "__getattribute__"=some (some (.builtin "BaseException.__getattribute__")))(b:PySem.W.findIn K (.ref C) "__getattr__"=some none)(q:PySem.W.excIn K C kd "ValueError.__new__"=true)(c:PySem.W.findIn K (.ref C) "__class__"=some (some (.builtin "object.__class__")))(d:PySem.W.specialIn K (.builtin "object.__class__") "__get__"=some (some (.builtin "getset_descriptor.__get__")))(e:PySem.W.takesIn K (.builtin "object.__class__")=some true)(f:PySem.W.mroIn K C (.type "object")=some true)(g:PySem.W.mroIn K C (.type "BaseException")=some true)(l:AI K (.ref C) (.ref f0)=some (decide (i=0)))(o:AI K (.ref C) (.ref f1)=some (decide (i=1)))(p:AI K (.ref C) (.ref f2)=some (decide (i=2)))(r:AI K (.ref C) (.ref f3)=some (decide (i=3)))(s:AI K (.ref C) (.ref f4)=some (decide (i=4)))(u:AI K (.ref C) (.ref f5)=some (decide (i=5)))(v:AI K (.ref C) (.ref f6)=some (decide (i=6)))(w:AI K (.ref C) (.ref j)=some (decide (i=7)))(x:AI K (.ref C) (.ref f8)=some (decide (i=8)))(y:AI K (.ref C) (.ref f9)=some (decide (i=9)))(h:AI K (.ref C) (.ref dC)=some (decide (i=10)))(z:AI K (.ref C) (.type "ValueError")=some true):Mk K C f0 f1 f2 f3 f4 f5 f6 j f8 f9 dC i:=⟨NG a b q c d e f g,l,o,p,r,s,u,v,w,x,y,h,z⟩
def NZ:List Expr:=match List.drop 4 (zK jp) with
 |[.Assign _ (.List E _) _,_]=>E
 |_=>[]
def Cs:Stmt:=(List.drop 5 (zK jp)).headD (.Pass ⟨0,0,0,0⟩)
def wS(i:Nat):Stmt:=(zK jp).getD i (.Pass ⟨0,0,0,0⟩)
def w2:∃E:List Expr,zK jp=[wS 0,wS 1,wS 2,wS 3,.Assign [.Name "some" ⟨238,4,238,8⟩] (.List E ⟨238,11,238,105⟩) ⟨238,4,238,105⟩,Cs]/\∀X:Cx,PA X E (zP (tC (.str "web")) (zP (tC (.str "piece")) (zP (tC (.str "chain")) (zP (tC (.str "closed")) (zP (tC (.str "table")) (zP (tC (.str "goal")) (zP (tC (.str "push")) (zP (tC (.str "map")) (zP (tC (.str "order")) (zP (tC (.str "number")) (zP (tC (.str "note")) bq))))))))))):=
 ⟨NZ,rfl,fun X=>GQ (GQ (ac pe_str (ac pe_str (ac pe_str al))))⟩
section
variable{P:Program}{w:World}{K:Ad}{mg:Str->Option Value}{base:Heap}
def wd:Nat->Str
 |_=>"map"
def GR(K:Ad)(f0 f1 f2 f3 f4 f5 f6 a f8 f9 dC:Addr):Sp:=fun vs H Q _=>∃x C i,vs=[.ref x]/\Mk K C f0 f1 f2 f3 f4 f5 f6 a f8 f9 dC i/\(i=7)/\H x=some (eW x C)/\∀H',Same H H'->Q (.str (wd i)) H'
def pl:zq ["e","low","some"] ["e"] (zg jp):=⟨rfl,rfl,rfl,δ,rfl,δ,δ⟩
def N0{f f0 f1 f2 f3 f4 f5 f6 D f8 f9 dC:Addr}{fd:FuncData}(F:Fun K "_law_which" "_law_which" jp f fd)(b:mg "isinstance"=none)(T:mg "ValueError"=none)(U:mg "NoWeb"=some (.ref f0))(W:mg "NoPiece"=some (.ref f1))(m2:mg "NoChain"=some (.ref f2))(X:mg "NotClosed"=some (.ref f3))(Y:mg "NoTable"=some (.ref f4))(Z:mg "NoGoal"=some (.ref f5))(m6:mg "NoPush"=some (.ref f6))(m7:mg "NoMap"=some (.ref D))(m8:mg "NoOrder"=some (.ref f8))(m9:mg "NoNumber"=some (.ref f9))(nV:mg "NoNote"=some (.ref dC))
 :pc P w K mg base 1 f fd ["e"] (GR K f0 f1 f2 f3 f4 f5 f6 D f8 f9 dC):=by
 refine F.okN pl (fun vs H Q E h=>?_) (fun cdv A outer s H vs Q E hr h=>?_)
 ·obtain⟨x,C,i,rfl,_⟩:=h;rfl
 ·obtain⟨x,C,i,rfl,M,hi,hx,k⟩:=h
  obtain⟨EL,L,N⟩:=w2;rw[L];refine⟨_,zd (zr (i:=1) pl.nd rfl (Or.inl rfl) (zO (ac (gK M.xc M.y0 b U rfl rfl (pv 0)) (ac (gK M.xc M.y1 b W rfl rfl (pv 0)) (ac (gK M.xc M.y2 b m2 rfl rfl (pv 0)) (ac (gK M.xc M.y3 b X rfl rfl (pv 0)) al))))))
   (zd (zr (i:=1) pl.nd rfl (Or.inl rfl) (zE i4 (pv 1) (zO (ac (gK M.xc M.y4 b Y rfl rfl (pv 0)) (ac (gK M.xc M.y5 b Z rfl rfl (pv 0)) (ac (gK M.xc M.y6 b m6 rfl rfl (pv 0)) (ac (gK M.xc M.y7 b m7 rfl rfl (pv 0)) al)))))))
   (zd (zr (i:=1) pl.nd rfl (Or.inl rfl) (zE i4 (pv 1) (zO (ac (gK M.xc M.y8 b m8 rfl rfl (pv 0)) (ac (gK M.xc M.y9 b m9 rfl rfl (pv 0)) (ac (gK M.xc M.y10 b nV rfl rfl (pv 0)) al))))))
   (zd (zR (PW.pt (pH (fL (fN (zl (GC (c:=.ty "ValueError") (fun u h=>h) M.xc M.yv) rfl b nH (ac (pv 0) (ac (pE (v:=.ty "ValueError") rfl T PyProof.Rows.Boot.«ValueError» rfl) al))))) (pG (zp l0 (i3 PySem.F.plainAttrs_list PySem.F.slot_list_count PySem.F.type_list_count NC (pv 1) (ac dG al)) zf (ar _)))))
     (zi (zt pe_str)) zv)
   (zd (zr (i:=2) pl.nd rfl (Or.inl rfl) (zO (N _)))
    (zi (zt (zN zD (pv 2) (i3 PySem.F.plainAttrs_list PySem.F.slot_list_index PySem.F.type_list_index ND (pv 1) (ac dG al)) (fun _ _=>rfl)))))))),?_⟩
  refine⟨x,rfl,hx,x,rfl,hx,x,rfl,hx,x,rfl,hx,ze (by simp),fun p hp=>?_⟩;have d:=Same.new (o:=.lst [.bl (decide (i=0)),.bl (decide (i=1)),.bl (decide (i=2)),.bl (decide (i=3))]) hp;refine⟨_,rfl,x,rfl,d _ _ hx,x,rfl,d _ _ hx,x,rfl,d _ _ hx,x,rfl,d _ _ hx,ze (by simp),fun p2 l=>?_⟩;have O:=d.trans (Same.new (o:=.lst [.bl (decide (i=4)),.bl (decide (i=5)),.bl (decide (i=6)),.bl (decide (i=7))]) l);refine⟨p,p2,_,_,rfl,rfl,(Same.new l) _ _ ak,ak,ze (by simp),fun p3 G=>?_⟩;have g:=O.trans (Same.new (o:=.lst [.bl (decide (i=0)),.bl (decide (i=1)),.bl (decide (i=2)),.bl (decide (i=3)),.bl (decide (i=4)),.bl (decide (i=5)),.bl (decide (i=6)),.bl (decide (i=7))]) G);refine⟨_,rfl,x,rfl,g _ _ hx,x,rfl,g _ _ hx,x,rfl,g _ _ hx,ze (by simp),fun p4 q=>?_⟩;have S:=g.trans (Same.new (o:=.lst [.bl (decide (i=8)),.bl (decide (i=9)),.bl (decide (i=10))]) q);refine⟨p3,p4,_,_,rfl,rfl,(Same.new q) _ _ ak,ak,ze (by simp),fun j I=>?_⟩;have y:=S.trans (Same.new (o:=.lst [.bl (decide (i=0)),.bl (decide (i=1)),.bl (decide (i=2)),.bl (decide (i=3)),.bl (decide (i=4)),.bl (decide (i=5)),.bl (decide (i=6)),.bl (decide (i=7)),.bl (decide (i=8)),.bl (decide (i=9)),.bl (decide (i=10))]) I);refine⟨_,rfl,x,rfl,y _ _ hx,_,rfl,?_⟩;refine aI ⟨_,rfl,.inl ⟨rfl,_,SqL.of ak⟩,j,_,.bl true,rfl,rfl,ak,rfl,?_⟩;subst hi
  ·refine⟨rfl,rfl,false,(by first|rfl|decide),aI ⟨ze (by simp),fun J r=>?_⟩⟩
   have z:=(Same.new (o:=.lst [.str "web",.str "piece",.str "chain",.str "closed",.str "table",.str "goal",.str "push",.str "map",.str "order",.str "number",.str "note"]) r) _ _ (ak (a:=j));refine⟨_,rfl,_,rfl,.inl ⟨rfl,_,SqL.of z⟩,j,_,.bl true,7,rfl,rfl,z,ξ,rfl,ξ,ξ,(fun m hm=>?_),J,_,7,_,rfl,rfl,SqL.of ak,rfl,k _ (y.trans (Same.new r))⟩;have:m=0\/m=1\/m=2\/m=3\/m=4\/m=5\/m=6:=ω
   rcases this with rfl|rfl|rfl|rfl|rfl|rfl|rfl<;>decide
end
end K55
end
section
namespace K55
open K1
open PySem L2 STb
abbrev Cu:Stmt:=top 58
section
variable{P:Program}{w:World}{K:Ad}{mg:Str->Option Value}{base:Heap}{f fw f0 f1 f2 f3 f4 f5 f6 fM f8 f9 dC fS:Addr}{fd c5:FuncData}
def sv(K:Ad):Sp:=fun vs H Q E=>∃l o z m e as bs gs pss ae av ns ms,vs=[.ref l,.ref o,.ref z,.ref m,.ref e]/\m≠e/\WM K H l o m as bs pss ae ns/\WM K H o z e bs gs ae av ms/\
 ((gJ ns ms pss ae av=true/\∀D H',Same H H'->H D=none->H' D=some (zV (comp ns ms))->Q (.ref D) H')\/(gJ ns ms pss ae av=false/\∀H',Same H H'->Q (.str "map") H'))
def pu:zq ["web","middle","last","one","other","told","e"] ["web","middle","last","one","other"] (zg Cu):=⟨rfl,rfl,rfl,δ,rfl,δ,δ⟩
def N1(F:Fun K "_law_asked" "_law_asked" Cu f fd)(L:mg "SeamError"=some (.ref fS))(T:Cl P w K mg base (fG P w) "behind" ["web","middle","last","one","other"] 11 (pk K fM))(Fw:Fun K "_law_which" "_law_which" jp fw c5)(N:Binds K c5 ["e"] [])(O:mg "_law_which"=some (.ref fw))(U:pc P w K mg base 1 fw c5 ["e"] (GR K f0 f1 f2 f3 f4 f5 f6 fM f8 f9 dC))(M:Mk K fM f0 f1 f2 f3 f4 f5 f6 fM f8 f9 dC 7)(S:iI K fM fS):FnOk P w K mg base az 12 f fd ["web","middle","last","one","other"] (sv K):=by
 refine F.ok pu (fun vs H Q E h=>?_) (fun cdv A outer s H vs Q E hr h=>?_)
 ·obtain⟨l,o,z,m,e,as,bs,gs,pss,ae,av,ns,ms,rfl,_⟩:=h;rfl
 ·obtain⟨l,o,z,m,e,as,bs,gs,pss,ae,av,ns,ms,rfl,p,I,J,h⟩:=h
  have r:Room 1 _:=hr.mono ξ;refine⟨_,zd (zr (i:=5) pu.nd rfl (Or.inl rfl) G7)
   (zd (Nr (ie:=6) (S:=fS) rfl pu.nd rfl rfl rfl rfl rfl L
    (fun aa EB=>zi (zr (i:=5) pu.nd rfl (Or.inl rfl) (cK T hr rfl (Nq rfl) (ac (pv 0) (ac (pv 1) (ac (pv 2) (ac (pv 3) (ac (pv 4) al))))))))
    (fun aa x=>zi (zr (i:=5) pu.nd rfl (Or.inl rfl) (NA (E:=E0) U (r.mark _) rfl O Fw.kp N .nil (ac (pv 6) al)))))
   (zi (zt (pv 5)))),?_⟩
  refine⟨_,rfl,_,rfl,_,rfl,_,rfl,_,rfl,l,o,z,m,e,as,bs,gs,pss,ae,av,ns,ms,rfl,p,I,J,?_⟩;rcases h with ⟨q,k⟩|⟨q,k⟩
  ·exact .inl ⟨q,fun D H' j u v=>⟨_,rfl,k D H' j u v⟩⟩
  ·refine .inr ⟨q,fun H1 j x hx=>⟨x,fM,rfl,rfl,S,fun y C=>?_⟩⟩
   match y,C with
   |[a,b,c,d,e,f,g],_=>exact⟨_,rfl,x,fM,7,rfl,M,rfl,ak,fun H2 G=>⟨_,rfl,k H2 (j.trans ((Same.new hx).trans G))⟩⟩
end
abbrev pw:Stmt:=top 59
def N3{pss:Ξ}(hw:bv pss=true):pss.Nodup:=List.pairwise_iff_getElem.mpr fun i j hi a b e=>by
 have:=JO pss (i:=j) (ps:=pss[j]) (Af a) (.inl (by rw[<-e];exact List.mem_take_iff_getElem.mpr ⟨i,ω,rfl⟩));rw[hw] at this;cases this
def sD(ns:List (Int×Int)):((kZ ns).map fun kv=>kV kv.1)=(ns.map (·.1)).map V.int:=by rw[As,As,As];rfl
def N4(l:List (Int×Int))(q:Int×Int):kZ (l++[q])=kZ l++[((Sum.inl q.1:Key),V.int q.2)]:=by rw[kZ,kZ,Am,Am];rfl
section
variable{P:Program}{w:World}{K:Ad}{mg:Str->Option Value}{base:Heap}{f:Addr}{fd:FuncData}
def pA{p:Addr}{c:St}{H2:Hp}{L D:Addr}{xs:List Int}{te:TE}{R:Int×Int->Prop}{Q:VK}(hb:zG H2 p)(F:H2 L=some (.lst (xs.map V.int)))(J:L≠p)(N:xs.length<=1000)(M:∀(x:Int)(d:Hp)(G:VK),x∈xs->zu p H2 d->zG d p->(∀(y:Int)(u:Addr)(r:Hp),zu p d r->zG r p->R (x,y)->r u=none->G (.ref u) (upd r u (.tup [.int x,.int y])))->te (some (.int x)::c) d G)(l:H2 D=none)(k:∀(d:Hp)(ts:List Addr)(ys:List (Int×Int)),zu p H2 d->zG d p->d D=some (.lst (ts.map V.ref))->PZ d ts (kZ ys)->ys.map (·.1)=xs->(∀q∈ys,R q)->Q (.ref D) d):cX (dH K L) (cQ 0) b8 te (none::c) H2 D Q:=by
 refine zM (xs:=xs.map V.int) (fun i σ ys d=>∃(v:Option V)(ts:List Addr)(zs:List (Int×Int)),σ=v::c/\zu p H2 d/\zG d p/\d L=some (.lst (xs.map V.int))/\d D=some (.lst ys)/\ys=ts.map V.ref/\PZ d ts (kZ zs)/\zs.map (·.1)=xs.take i/\∀q∈zs,R q)
  ⟨none,[],[],rfl,zu.of (Same.new l),hb.same (Same.new l),(Same.new l) _ _ F,ak,rfl,.nil,rfl,fun q hq=>nomatch hq⟩ (fun i σ ys d ⟨_,_,_,_,_,_,h,_⟩=>SqL.of h) ?_ ?_
 ·rintro i σ ys d z hx hi hy ⟨v,ts,zs,rfl,w,f,C,j,rfl,hp,hk,hR⟩
  obtain⟨x,ex,rfl⟩:=gh hx;refine cv (M x d _ (Ap ex) w f fun y u r s H hr hu=>?_);have E:=s _ _ (f.ne j) j;have g:=Same.new (o:=.tup [.int x,.int y]) hu;have I:L≠D:=zh F l;have A:D≠p:=f.ne j;rw[Ab] at hi;refine bu (by rw[Ab];exact ze ω) (by rw[Ab];exact hi) hy (g _ _ E) ⟨_,ts++[u],zs++[(x,y)],rfl,?_,?_,?_,ak,by rw[Am];rfl,?_,?_,?_⟩
  ·exact((w.trans s).trans (zu.of g)).then l
  ·exact(H.same g).upd A
  ·rw[zj I];exact g _ _ (s _ _ J C)
  ·rw[N4]
   refine Paired.mapP (Paired.snoc (Paired.mapP hp fun b q e=>g _ _ (s _ _ (f.net e) e)) (b:=((Sum.inl x:Key),V.int y)) (a:=u) ak) fun b q e=>?_;rw[zj (dj e (g _ _ E) (by intro z;cases z))];exact e
  ·rw[Am,hk,AM ex];rfl
  ·intro q hq
   rcases List.mem_append.mp hq with z|z
   ·exact hR q z
   ·rw[List.mem_singleton.mp z];exact hr
 ·rintro σ ys d ⟨v,ts,zs,rfl,w,f,C,j,rfl,hp,hk,hR⟩
  rw[Ab,take_all] at hk;exact k d ts zs w f j hp hk hR
def GS:Sp:=fun vs H Q _=>∃p o e bs ae ms,vs=[.ref p,.ref o,.ref e]/\zG H p/\H o=some (.lst (bs.map V.ref))/\Tps H bs ae/\a6 ae/\(canon ae).length<=56/\H e=some (zV ms)/\(ms.map (·.1)).Nodup/\ms.length<=60/\
 ∀T z e2 gs av a H',zu p H H'->zG H' p->H' T=some (.tup [.ref z,.ref e2])->H' z=some (.lst (gs.map V.ref))->Tps H' gs av->a6 av->(canon av).length<=56->H' e2=some (zV a)->a.map (·.1)=ms.map (·.1)->Q (.ref T) H'
abbrev sH:List Str:=["box","middle","other","way","about"]
def Cv:zq sH ["box","middle","other"] (zg pw):=⟨rfl,rfl,rfl,δ,rfl,δ,δ⟩
def jr:a6 [[95,96]]/\(canon [[95,96]]).length<=56:=⟨⟨δ,by rw[zJ];decide +kernel⟩,by rw[zJ];decide +kernel⟩
def N5(F:Fun K "_law_last" "_law_last" pw f fd)(B:Bt mg)(Ct:Cl P w K mg base az "_law_take" ["box","most"] 1 hF):FnOk P w K mg base az 2 f fd ["box","middle","other"] GS:=by
 refine F.ok Cv (fun vs H Q E h=>?_) (fun cdv A outer s H vs Q E hr h=>?_)
 ·obtain⟨p,o,e,bs,ae,ms,rfl,_⟩:=h;rfl
 ·obtain⟨p,o,e,bs,ae,ms,rfl,hb,hO,ho,hv,bj,he,bC,hz,k⟩:=h
  have hu:=d_ hr;have au:=hr.units;refine⟨_,zd (zr (i:=3) Cv.nd rfl (Or.inl rfl) (cK Ct hr rfl ao (ac (pv 0) (ac zf al))))
   (zd (oX (i:=4) Cv.nd rfl (Or.inl rfl) sH ["piece"] [none] (zA (pv 1)) (fun c C s₀ H₀ ex=>zn (i:=0) (b7 ["piece"]) rfl (Or.inl rfl)) (fun c C s₀ H₀ ex=>zF)
      (fun c C s₀ H₀ ex=>zm zL rfl B.tuple jf (ac (zy ["piece"] ["point"] [none] (Gf rfl B.reversed Eh (ac (pv 0) al)) (fun c C s₀ H₀ ex=>zn (i:=0) (b7 ["point"]) rfl (Or.inl rfl)) (fun c C s₀ H₀ ex=>zF)
       (fun c C s₀ H₀ ex=>zE ku zf (pv 0)) (hfr:=bF δ)) al)) (hfr:=bF δ) (te:=kb K))
   (zd (zR (zp db (pv 3) zf (ar _))
    (zi (zt (dw (ac (pv 4) (ac (zm (zH rfl au) rfl B.dict g0 (ac (zy sH ["point","other"] [none,some 2] (zA (zm (kK rfl) rfl B.list ff (ac (pv 2) al))) (fun c C s₀ H₀ ex=>zn (i:=0) (b7 ["point","other"]) rfl (Or.inl rfl)) (fun c C s₀ H₀ ex=>zF)
      (fun c C s₀ H₀ ex=>dw (ac (pv 0) (ac (zE ku zf (fY hu (pv 1) (pv 0) (fun _ _=>rfl))) al))) (hfr:=ck (zg pw) δ)) al)) al))))) zv)
   (zd (zR (zp db (pv 3) zf (ar _))
    (zi (zt (dw (ac (zO (ac (dw (ac zf (ac zf al))) al)) (ac (zm (zH rfl au) rfl B.dict g0 (ac (zy sH ["point","box"] [none,some 0] (zA (zm (kK rfl) rfl B.list ff (ac (pv 2) al))) (fun c C s₀ H₀ ex=>zn (i:=0) (b7 ["point","box"]) rfl (Or.inl rfl)) (fun c C s₀ H₀ ex=>zF)
      (fun c C s₀ H₀ ex=>dw (ac (pv 0) (ac (zE eZ zf (cK Ct hr rfl ao (ac (pv 1) (ac zf al)))) al))) (hfr:=ck (zg pw) δ)) al)) al))))) zv)
   (zi (zt (dw (ac (zN zD (zO (ac (zm me rfl B.list ff (ac (pv 1) al)) (ac (pv 4) al))) (zm CL rfl B.int qY (ac (gN db (pv 3) zf (ar _)) al)) (fun _ _=>rfl)) (ac (pv 2) al)))))))),?_⟩
  refine⟨_,rfl,p,4,rfl,hb,ξ,ξ,fun wy H1 w0 w1 X hb1=>?_⟩;have fQ:=X _ _ (hb.ne hO) hO;have cS:=X.tps hb ho;have vy:=X _ _ (dM hb he) he;obtain⟨cn,_,h5,_⟩:=gk hv.1;refine⟨_,rfl,o,rfl,⟨_,SqL.of fQ⟩,fun g aK=>zB (Gy (SqL.of fQ) cS ω h5 aK fun H2 us U h2 t2=>?_)⟩;have cy:=X.trans (zu.of U);have S:=hb1.same U;have wH:=U _ _ fQ;have cP:=U.tps cS;have lP:=U _ _ vy;obtain⟨m1,m2⟩:=Gq hv.1 (N3 hv.1) bj;refine⟨_,rfl,rfl,_,rfl,be (fun _=>?_) (fun _=>?_)⟩
  ·refine⟨_,rfl,_,rfl,e,_,rfl,lP,fun L G=>?_⟩
   rw[sD];have d:=Same.new (o:=.lst ((ms.map (·.1)).map V.int)) G;have J:L≠p:=by obtain⟨x,y,q,_⟩:=S;exact(zh q G).symm
   have M:=S.same d;have pU:=d _ _ lP;refine⟨L,rfl,⟨_,SqL.of ak⟩,fun D3 ag=>zB (pA (R:=fun _=>True) M ak J (by rw[Ab];omega) (fun x H3 Q' hx N I q=>?_) ag fun H3 ts ys N I O pz hk _=>?_)⟩
   ·have sy:=N _ _ (dM M pU) pU
    exact⟨_,rfl,_,rfl,_,rfl,e,_,rfl,j8 (.inl sy) hx,_,_,rfl,rfl,ze (by simp),fun u hu=>q _ u H3 (zu.of (Same.refl _)) I trivial hu⟩
   ·refine⟨D3,ts,_,rfl,SqL.of O,pz,fun M2 g_=>?_⟩
    rw[ka _ (by rw[hk];exact bC)];have W:=Same.new (o:=zV ys) g_;refine⟨ze (by simp),fun T l=>?_⟩;have b:=Same.new (o:=.tup [.ref g,.ref M2]) l;have hDp:g≠p:=S.ne h2;have v:=(N.trans (zu.of W)).trans (zu.of b);exact k T g M2 us _ ys _ (((cy.trans (zu.of d))).trans v) ((I.same W).same b) ak (v _ _ hDp (d _ _ h2)) (v.tps M (d.tps t2)) m1 m2 (b _ _ ak) hk
  ·refine⟨_,rfl,rfl,_,rfl,be (fun _=>?_) (fun _=>?_)⟩
   ·refine⟨ze (by simp),fun t ht=>⟨ze (by simp),fun Z hZ=>⟨_,rfl,e,kZ ms,rfl,?_,fun L G=>?_⟩⟩⟩
    ·exact(Same.new hZ) _ _ ((Same.new ht) _ _ lP)
    have st:=Same.new (o:=.tup [.int 95,.int 96]) ht;have sZ:=Same.new (o:=.lst [.ref t]) hZ;rw[sD];have d:=Same.new (o:=.lst ((ms.map (·.1)).map V.int)) G;have D:=(st.trans sZ).trans d;have tI:=(S.same st).same sZ;have J:L≠p:=by obtain⟨x,y,q,_⟩:=tI;exact(zh q G).symm
    have M:=S.same D;have p7:=d _ _ (ak (H:=upd H2 t (.tup [.int 95,.int 96])) (a:=Z) (o:=.lst [.ref t]));have uS:Tp _ t [95,96]:=(sZ.trans d) _ _ (ak (H:=H2) (a:=t) (o:=.tup [.int 95,.int 96]));refine⟨L,rfl,⟨_,SqL.of ak⟩,fun D3 ag=>zB (pA (R:=fun _=>True) M ak J (by rw[Ab];omega) (fun x H3 Q' hx N I q=>?_) ag fun H3 ts ys N I O pz hk _=>?_)⟩
    ·exact⟨_,rfl,_,rfl,p,2,rfl,I,ξ,ξ,fun r H4 _ _ v bE=>⟨_,_,rfl,rfl,ze (by simp),fun u hu=>q _ u H4 v bE trivial hu⟩⟩
    ·refine⟨D3,ts,_,rfl,SqL.of O,pz,fun M2 g_=>?_⟩
     rw[ka _ (by rw[hk];exact bC)];have W:=Same.new (o:=zV ys) g_;refine⟨ze (by simp),fun T l=>?_⟩;have b:=Same.new (o:=.tup [.ref Z,.ref M2]) l;have v:=(N.trans (zu.of W)).trans (zu.of b);have tO:Z≠p:=zG.ne (as:=[t]) M p7;exact k T Z M2 [t] _ ys _ (((cy.trans (zu.of D))).trans v) ((I.same W).same b) ak (v _ _ tO p7) (v.tps M (.cons uS .nil)) jr.1 jr.2 (b _ _ ak) hk
   ·refine⟨_,rfl,o,_,rfl,.inl (SqL.of wH),fun L G=>?_⟩
    have d:=Same.new (o:=.lst (bs.map V.ref)) G;refine⟨_,rfl,ze (by simp),fun Y hY=>?_⟩;have sY:=Same.new (o:=.lst [.ref L,.ref g]) hY;have D:=d.trans sY;have go:∀(Z:Addr)(gs:List Addr)(av:Ξ),upd (upd H2 L (.lst (bs.map V.ref))) Y (.lst [.ref L,.ref g]) Z=some (.lst (gs.map V.ref))->Tps (upd (upd H2 L (.lst (bs.map V.ref))) Y (.lst [.ref L,.ref g])) gs av->a6 av->(canon av).length<=56->
      ∀T,upd (upd H2 L (.lst (bs.map V.ref))) Y (.lst [.ref L,.ref g]) T=none->Q (.ref T) (upd (upd (upd H2 L (.lst (bs.map V.ref))) Y (.lst [.ref L,.ref g])) T (.tup [.ref Z,.ref e])):=fun Z gs av hZ hg hw h6 T l=>by
     have b:=Same.new (o:=.tup [.ref Z,.ref e]) l;exact k T Z e gs av ms _ (cy.trans (zu.of (D.trans b))) ((S.same D).same b) ak (b _ _ hZ) (b.tps hg) hw h6 (b _ _ (D _ _ lP)) rfl
    refine⟨_,rfl,rfl,.inr ⟨_,rfl,?_⟩⟩
    by_cases O:wy=3
    ·refine⟨Y,_,_,.ref g,rfl,?_,SqL.of ak,zx (j:=1) rfl,_,rfl,ze (by simp),fun T l=>go g us _ (D _ _ h2) (D.tps t2) m1 m2 T l⟩
     rw[O];rfl
    ·refine⟨Y,_,_,.ref L,rfl,?_,SqL.of ak,zx (j:=0) rfl,_,rfl,ze (by simp),fun T l=>go L bs ae (sY _ _ ak) (D.tps cP) hv bj T l⟩
     rw[decide_eq_false (fun z=>O (by injection z))];rfl
end
end K55
end
section
namespace L2
open PySem PySem.Spec PyProof.Rows
def N6{X:Cx}:z0 X (.builtin "isinstance") (fun xs H Q=>∃a kvs,xs=[.ref a,.ty "dict"]/\H a=some (.dK kvs)/\Q (.bl true) H):=by
 intro aa s σ H xs us Q I r h;obtain⟨a,ys,rfl,b,q⟩:=h;obtain⟨u,e,rfl,c,d⟩:=vals2 r;cases d;exact uT I c (.dK b) (by first|rfl|kernel_rfl|decide +kernel) fun tk=>⟨.bl true,H,I.tok _,rfl,q⟩
end L2
namespace K55
open K1
open PySem L2 STb
def Cy{ns:List (Int×Int)}{p:List Int}{x:Int}:x∈dy ns p↔∃z∈p,nv ns z=x:=by
 unfold dy;rw[(List.mergeSort_perm _ _).mem_iff,fv,List.mem_map]
def N7{ns:List (Int×Int)}{p:List Int}:(dy ns p).Nodup:=(List.mergeSort_perm _ _).nodup_iff.mpr (jd _)
def N8{ns:List (Int×Int)}{p:List Int}:(dy ns p).Pairwise (·<=·):=sr _
def N9{ns ms:List (Int×Int)}{p:List Int}(h:∀x∈p,x∈ns.map (·.1)):dy ms (dy ns p)=dy (comp ns ms) p:=by
 refine oA ((List.perm_ext_iff_of_nodup N7 (jd _)).mpr fun x=>?_) N8;rw[Cy,fv,List.mem_map];constructor
 ·rintro⟨y,hy,rfl⟩
  obtain⟨z,a,rfl⟩:=Cy.mp hy;exact⟨z,a,Co (h z a)⟩
 ·rintro⟨z,a,rfl⟩
  exact⟨nv ns z,Cy.mpr ⟨z,a,rfl⟩,(Co (h z a)).symm⟩
def sJ{ns:List (Int×Int)}{kn th:Ξ}(h:aW ns kn th=true):fh ns kn=true/\∀p∈kn,dy ns p∈th:=by
 unfold aW at h;rw[AC] at h;exact⟨h.1,fun p hp=>of_decide_eq_true (List.all_eq_true.mp h.2 p hp)⟩
def N_{ns ms:List (Int×Int)}{pss ae av:Ξ}(h1:aW ns (canon pss) (canon ae)=true)(h2:aW ms (canon ae) (canon av)=true):aW (comp ns ms) (canon pss) (canon av)=true:=by
 obtain⟨a,b⟩:=sJ h1;obtain⟨d,c⟩:=sJ h2;unfold aW;rw[AC];refine⟨?_,List.all_eq_true.mpr fun p hp=>decide_eq_true ?_⟩
 ·unfold fh at a ⊢
  rw[NP];exact a
 ·rw[<-N9 fun x hx=>oS a (lm hp hx)]
  exact c _ (b p hp)
def Oa{ts:Ch}{c:List Int×Int}(h:c∈sumC ts):∃t∈ts,t.1=c.1:=by
 apply Classical.byContradiction;intro a;obtain⟨d,e⟩:=rH h;rw[L5 fun t b z=>a ⟨t,b,z⟩] at e;exact d e.symm
def Ob{ns:List (Int×Int)}{pss ae:Ξ}{cs:Ch}(hm:aW ns (canon pss) (canon ae)=true)(hc:fg (canon pss) cs=true)(f:∀c∈cs,c.1∈canon pss):fg (canon ae) (sumC (carT ns cs))=true/\(∀c∈sumC (carT ns cs),c.1∈canon ae)/\(sumC (carT ns cs)).length<=(canon ae).length:=by
 obtain⟨h,g⟩:=sJ hm;have key:∀c∈sumC (carT ns cs),∃d∈cs,c.1=dy ns d.1/\c.1.length=d.1.length:=fun c a=>by
  obtain⟨t,b,e⟩:=Oa a;obtain⟨d,hd,b⟩:=List.mem_flatMap.mp b;unfold dI at b;split at b
  ·rename_i hn
   have:=List.mem_singleton.mp b;subst this;refine⟨d,hd,?_,?_⟩
   ·rw[<-e]
    refine oA ?_ (sr _);rw[(FW _).2 hn];exact pi _
   ·rw[<-e]
    show(gE _).length=_;rw[(pi _).length_eq,Ab]
  ·cases b
 have one:∀x∈lens (ksC cs),∀y∈lens (ksC cs),x=y:=by
  unfold fg at hc;rw[AC,AC] at hc;refine(EZ _).mp ?_;have:=of_decide_eq_true hc.2.1;omega
 have hk:∀c∈sumC (carT ns cs),c.1∈canon ae:=fun c a=>by
  obtain⟨d,hd,e,_⟩:=key c a;rw[e];exact g _ (f d hd)
 refine⟨?_,hk,?_⟩
 ·cases hs:cs with
  |nil=>rw[hs] at hk;exact BZ (n:=0) (fun c hc=>nomatch hc) (fun c hc=>nomatch hc) (fun c hc=>nomatch hc)
  |cons d0 r=>
   rw[<-hs];refine BZ (n:=d0.1.length) hk (fun c a=>?_) fun c a=>(rH a).1;obtain⟨d,hd,_,e⟩:=key c a;rw[e];have h1:(d.1.length:Int)∈lens (ksC cs):=List.mem_map.mpr ⟨d.1,List.mem_map.mpr ⟨d,hd,rfl⟩,rfl⟩;have h2:(d0.1.length:Int)∈lens (ksC cs):=List.mem_map.mpr ⟨d0.1,List.mem_map.mpr ⟨d0,by rw[hs];exact Av,rfl⟩,rfl⟩;have:=one _ h1 _ h2;omega
 ·rw[<-j6]
  exact(ow _).length_le_of_subset fun q hq=>by
   obtain⟨c,a,rfl⟩:=List.mem_map.mp hq;exact hk c a
def GT{g:Int->Int}:∀{ys ns:List (Int×Int)},ys.map (·.1)=ns.map (·.1)->(∀q∈ys,q.2=g q.1)->ys=ns.map fun p=>(p.1,g p.1)
 |[],[],_,_=>rfl
 |[],_::_,h,_=>nomatch h
 |_::_,[],h,_=>nomatch h
 |y::ys,n::ns,h,k=>by
  rw[Ar,Ar] at h;injection h with h1 h2
  rw[Ar,<-GT h2 fun q hq=>k q (Ax _ hq),<-h1,<-k y Av]
def Oc{ns ms ys:List (Int×Int)}(h:ys.map (·.1)=ns.map (·.1))(k:∀q∈ys,q.2=nv ms (nv ns q.1)):ys=comp ns ms:=GT (g:=fun x=>nv ms (nv ns x)) h k
def Od{H:Hp}{a b:Addr}{cs ds:Ch}(d:Rd H a (.dT (bb cs)))(hb:Rd H b (.dT (bb ds)))(e:cs.length=ds.length)(hm:∀c∈cs,c∈ds):fj H a b true:=⟨bb cs,bb ds,ksC cs,ksC ds,cs.map (·.2),d,hb,Br cs,Br ds,LG cs,.inl ⟨rfl,by rw[hX,hX];exact e,fun kv hkv=>by
 obtain⟨c,hc,rfl⟩:=List.mem_map.mp hkv;exact List.mem_map.mpr ⟨c,hm c hc,rfl⟩⟩⟩
end K55
end
section
namespace K55
open K1
open PySem L2 STb
abbrev bW:Stmt:=top 60
def CA{k:Nat}{A:Around}(r:Room k A):A.units+128<cLine:=by have:=r.un;omega
def Oe{H H':Hp}{W d:Addr}{u:HO}(s:zu W H H')(a:d≠W)(r:Rd H d u):Rd H' d u:=by
 rcases r with r|⟨o,r⟩
 ·exact .inl (s _ _ a r)
 ·exact .inr ⟨o,s _ _ a r⟩
def pB{H:Hp}{x:Addr}{o:HO}:zu x H (L2.upd H x o):=fun b u hb e=>by rw[zj hb];exact e
def Of{H:Hp}{d l:Addr}{u:HO}(r:Rd H d u)(h:H l=none):d≠l:=by
 rcases r with r|⟨_,r⟩
 ·exact zh r h
 ·exact zh r h
structure S9(H:Hp)(p O OT Z M N KN TH LA LB LC DM DN HD:Addr)(os bs gs ks ts:List Addr)(pss ae av:Ξ)(ns ms:List (Int×Int)):Prop where
 bx:zG H p
 hO:H O=some (.lst (os.map V.ref))
 ho:Tps H os pss
 hT:H OT=some (.lst (bs.map V.ref))
 hb:Tps H bs ae
 hZ:H Z=some (.lst (gs.map V.ref))
 hg:Tps H gs av
 hM:H M=some (zV ns)
 hN:H N=some (zV ms)
 hK:H KN=some (.lst (ks.map V.ref))
 hk:Tps H ks (canon pss)
 hTH:H TH=some (.lst (ts.map V.ref))
 ht:Tps H ts (canon ae)
 hA:H LA=some (.lst (os.map V.ref))
 hB:H LB=some (.lst (bs.map V.ref))
 hC:H LC=some (.lst (gs.map V.ref))
 hD:H DM=some (zV ns)
 hE:H DN=some (zV ms)
 hH:H HD=some (.lst ([LA,LB,LC,DM,DN].map V.ref))
 hne:DM≠DN
section
variable{p O OT Z M N KN TH LA LB LC DM DN HD:Addr}{os bs gs ks ts:List Addr}{pss ae av:Ξ}{ns ms:List (Int×Int)}{H H':Hp}
def S9.mv{x:Addr}(h:S9 H p O OT Z M N KN TH LA LB LC DM DN HD os bs gs ks ts pss ae av ns ms)(s:zu x H H')(a:zG H' p)(c:∀{b:Addr}{as:List Addr},H b=some (.lst (as.map V.ref))->b≠x)(d:∀{b:Addr}{l:List V},H b=some (.tup l)->b≠x)(h1:M≠x)(h2:N≠x)(f:DM≠x)(g:DN≠x):S9 H' p O OT Z M N KN TH LA LB LC DM DN HD os bs gs ks ts pss ae av ns ms:=
 have l:∀{b:Addr}{as:List Addr},H b=some (.lst (as.map V.ref))->H' b=some (.lst (as.map V.ref)):=fun e=>s _ _ (c e) e;have t:∀{as:List Addr}{l:Ξ},Tps H as l->Tps H' as l:=fun q=>Paired.mapP q fun _ _ e=>s _ _ (d e) e
 ⟨a,l h.hO,t h.ho,l h.hT,t h.hb,l h.hZ,t h.hg,s _ _ h1 h.hM,s _ _ h2 h.hN,l h.hK,t h.hk,l h.hTH,t h.ht,l h.hA,l h.hB,l h.hC,s _ _ f h.hD,s _ _ g h.hE,l h.hH,h.hne⟩
def S9.same(h:S9 H p O OT Z M N KN TH LA LB LC DM DN HD os bs gs ks ts pss ae av ns ms)(s:Same H H'):S9 H' p O OT Z M N KN TH LA LB LC DM DN HD os bs gs ks ts pss ae av ns ms:=
 ⟨h.bx.same s,s _ _ h.hO,s.tps h.ho,s _ _ h.hT,s.tps h.hb,s _ _ h.hZ,s.tps h.hg,s _ _ h.hM,s _ _ h.hN,s _ _ h.hK,s.tps h.hk,s _ _ h.hTH,s.tps h.ht,s _ _ h.hA,s _ _ h.hB,s _ _ h.hC,s _ _ h.hD,s _ _ h.hE,s _ _ h.hH,h.hne⟩
def S9.box(h:S9 H p O OT Z M N KN TH LA LB LC DM DN HD os bs gs ks ts pss ae av ns ms)(s:zu p H H')(b:zG H' p):S9 H' p O OT Z M N KN TH LA LB LC DM DN HD os bs gs ks ts pss ae av ns ms:=
 h.mv s b h.bx.ne h.bx.net (dM h.bx h.hM) (dM h.bx h.hN) (dM h.bx h.hD) (dM h.bx h.hE)
def S9.but{x:Addr}{kvs:List (List Key×V)}(h:S9 H p O OT Z M N KN TH LA LB LC DM DN HD os bs gs ks ts pss ae av ns ms)(s:zu x H H')(hx:Rd H x (.dT kvs)):S9 H' p O OT Z M N KN TH LA LB LC DM DN HD os bs gs ks ts pss ae av ns ms:=
 have z:∀{b:Addr}{l:List (Int×Int)},H b=some (zV l)->b≠x:=fun e=>fE hx e (by intro k z;cases z) (by intro q k z;cases z)
 h.mv s (let ⟨a,b,e,k⟩:=h.bx;⟨a,b,s.lst hx e,k⟩) (fun e=>fE hx e (by intro k z;cases z) (by intro q k z;cases z)) (fun e=>fE hx e (by intro k z;cases z) (by intro q k z;cases z)) (z h.hM) (z h.hN) (z h.hD) (z h.hE)
end
abbrev fH:List Str:=["script","box","web","middle","one","known","there","dots","to","other","last","handed","found","due","chain","twice"]
def dP:zq fH ["script"] (zg bW):=⟨rfl,rfl,rfl,δ,rfl,δ,δ⟩
section
variable{P:Program}{w:World}{K:Ad}{mg:Str->Option Value}{base:Heap}{f:Addr}{fd:FuncData}
def Og{H2:Hp}{L D d:Addr}{ns:List (Int×Int)}{Q:VK}(g:H2 L=some (.lst ((ns.map (·.1)).map V.int)))(hd:H2 d=some (zV ns))(h:ns.length<=1000)(f:H2 D=none)(k:∀a,Same H2 a->a D=some (.lst ((ns.map fun _=>true).map V.bl))->Q (.ref D) a):cX (dH K L) (cQ 0) b8 (l7 o7 [] E0 (zP (v1 (aE 1) (aE 0)) bq)) [none,some (.ref d)] H2 D Q:=by
 refine zM (xs:=(ns.map (·.1)).map V.int) (fun i σ ys a=>∃v:Option V,σ=[v,some (.ref d)]/\Same H2 a/\a D=some (.lst ys)/\ys=((ns.map fun _=>true).take i).map V.bl)
  ⟨none,rfl,Same.new f,ak,rfl⟩ (fun i σ ys a ⟨_,_,b,_⟩=>SqL.of (b _ _ g)) ?_ ?_
 ·rintro i σ ys a x hx hi hy ⟨v,rfl,b,c,rfl⟩
  obtain⟨q,eq,rfl⟩:=gh hx;have hq:=Ap eq;rw[Ab,Ab] at hi;have e:(ns.map fun _=>true)[i]?=some true:=by rw[Aj,Af hi];rfl
  refine cv ⟨_,rfl,_,rfl,d,_,rfl,j8 (.inl (b _ _ hd)) hq,_,rfl,?_⟩;exact bu (by rw[Ab,Ab];exact ze ω) (by rw[Ab,Ab];exact hi) hy c ⟨_,rfl,b.then f,ak,by rw[AM e,Am];rfl⟩
 ·rintro σ ys a ⟨v,rfl,b,c,rfl⟩
  rw[Az (by rw[Ab,Ab,Ab];omega)] at c;exact k a b c
def Oh{cdv:Value}{A:Around}{outer:List Env}{s:Shared}{H:Hp}{Q:VK}{E:XK}(hr:Room 12 (bc az P w K mg base fH "law" (zg bW) f cdv A outer s H E).A)(k:∀H',Q (.bl true) H')(B:Bt mg)(Ct:Cl P w K mg base az "_law_take" ["box","most"] 1 hF)(kj:Cl P w K mg base az "_law_chain" ["box","known","high"] 2 (rC K))(Cw:Cl P w K mg base az "_law_whole" ["x"] 1 o7)(Ca:Cl P w K mg base az "_law_asked" ["web","middle","last","one","other"] 12 (sv K))(Cr:Cl P w K mg base az "carried" ["web","other","names","chain"] 11 (sh K)):∃tr,PSs (bc az P w K mg base fH "law" (zg bW) f cdv A outer s H E).nox (List.drop 14 (zK bW)) tr/\
   ∀(p O OT Z M N KN TH LA LB LC DM DN HD D:Addr)(os bs gs ks ts:List Addr)(pss ae av:Ξ)(ns ms:List (Int×Int))(v0 v7 v8:Option V)(H2:Hp),S9 H2 p O OT Z M N KN TH LA LB LC DM DN HD os bs gs ks ts pss ae av ns ms->a6 pss->(canon pss).length<=56->a6 ae->(canon ae).length<=56->a6 av->(canon av).length<=56->ns.length<=60->ms.length<=60->
    aW ns (canon pss) (canon ae)=true->aW ms (canon ae) (canon av)=true->H2 D=some (zV (comp ns ms))->M≠D->N≠D->DM≠D->DN≠D->
    tr {nx:=fun _ H'=>Q .non H',rt:=Q} [v0,some (.ref p),some (.ref O),some (.ref OT),some (.ref M),some (.ref KN),some (.ref TH),v7,v8,some (.ref N),some (.ref Z),some (.ref HD),some (.ref D),none,none,none] H2:=by
 have hu:=d_ hr;have au:=hr.units;refine⟨_,zd (zr (i:=13) dP.nd rfl (Or.inl rfl) (zm (zH rfl au) rfl B.dict g0 (ac (zy fH ["point","other","one"] [none,some 9,some 4] (zA (zm (kK rfl) rfl B.list ff (ac (pv 4) al))) (fun J C s₀ H₀ ex=>zn (i:=0) (b7 ["point","other","one"]) rfl (Or.inl rfl)) (fun J C s₀ H₀ ex=>zF)
      (fun J C s₀ H₀ ex=>dw (ac (pv 0) (ac (fY hu (pv 1) (fY hu (pv 2) (pv 0) (fun _ _=>rfl)) (fun _ _=>rfl)) al))) (hfr:=ck (zg bW) δ)) al)))
  (zd (zR (PW.pt (pH (fL (fN (zl N6 rfl B.isinstance nH (ac (pv 12) (ac (pE (v:=.ty "dict") rfl B.dict g0 rfl) al))))) (pG (zp (Mw au) (pv 12) (pv 13) (ar _))))) (zi (zt dG)) zv)
  (zd (zR (fL (fN (zl (kI rfl) rfl B.all k4 (ac (zy fH ["point","found"] [none,some 12] (zA (zm (kK rfl) rfl B.list ff (ac (pv 12) al))) (fun J C s₀ H₀ ex=>zn (i:=0) (b7 ["point","found"]) rfl (Or.inl rfl)) (fun J C s₀ H₀ ex=>zF)
      (fun J C s₀ H₀ ex=>cK Cw hr rfl ao (ac (fY hu (pv 1) (pv 0) (fun _ _=>rfl)) al)) (hfr:=ck (zg bW) δ)) al)))) (zi (zt dG)) zv)
  (zd (zr (i:=14) dP.nd rfl (Or.inl rfl) (cK kj hr rfl ao (ac (pv 1) (ac (pv 5) (ac (cK Ct hr rfl ao (ac (pv 1) (ac zf al))) al)))))
  (zd (zr (i:=15) dP.nd rfl (Or.inl rfl) (cK Cr hr rfl ao (ac (pv 3) (ac (pv 10) (ac (pv 9) (ac (cK Cr hr rfl ao (ac (pv 2) (ac (pv 3) (ac (pv 4) (ac (pv 14) al))))) al))))))
  (zd (zR (zp (Nc au) (cK Cr hr rfl ao (ac (pv 2) (ac (pv 10) (ac (pv 12) (ac (pv 14) al))))) (pv 15) (ar _)) (zi (zt dG)) zv)
  (zd (gb hu (pv 12) zf zf rfl)
  (zi (zt (gN (Mv au) (cK Ca hr rfl ao (ac (zN zD (pv 11) zf (fun _ _=>rfl)) (ac (zN zD (pv 11) zf (fun _ _=>rfl)) (ac (zN zD (pv 11) zf (fun _ _=>rfl)) (ac (zN zD (pv 11) zf (fun _ _=>rfl)) (ac (zN zD (pv 11) zf (fun _ _=>rfl)) al)))))) (pv 13) (ar _)))))))))),?_⟩
 intro p O OT Z M N KN TH LA LB LC DM DN HD D os bs gs ks ts pss ae av ns ms v0 v7 v8 H2 st d bj S dv hz lg dU hml h1 h2 aK eM eN vJ tJ;obtain⟨k1,_⟩:=sJ h1;have bC:=GP k1;refine⟨_,rfl,M,_,rfl,st.hM,fun L hL=>?_⟩;rw[sD];have sL:=Same.new (o:=.lst ((ns.map (·.1)).map V.int)) hL;have lB:=st.same sL;have hLp:L≠p:=by obtain⟨x,y,q,_⟩:=st.bx;exact(zh q hL).symm
 have gP:=sL _ _ aK;refine⟨L,rfl,⟨_,SqL.of ak⟩,fun D3 ag=>zB (pA (R:=fun q=>q.2=nv ms (nv ns q.1)) lB.bx ak hLp (by rw[Ab];omega) (fun x H3 Q' hx W X q=>?_) ag fun H3 us ys W X h3 pz hk hR=>?_)⟩
 ·have aP:=lB.box W X
  exact⟨_,rfl,_,rfl,_,rfl,_,rfl,M,_,rfl,j8 (.inl aP.hM) hx,N,_,rfl,j8 (.inl aP.hN) (GO h1 h2 hx),ze (by simp),fun u hu=>q _ u H3 (zu.of (Same.refl _)) X rfl hu⟩
 obtain rfl:=Oc hk hR;have aP:=lB.box W X;have r:D≠p:=dM lB.bx gP;have jk:=W _ _ r gP;refine⟨D3,us,_,rfl,SqL.of h3,pz,fun I qf=>?_⟩;rw[ka _ (by rw[hk];exact bC)];have sU:=Same.new (o:=zV (comp ns ms)) qf;have gT:=aP.same sU;have G:=sU _ _ jk;have lC:=ak (H:=H3) (a:=I) (o:=zV (comp ns ms));have nE:D≠I:=zh jk qf;have qd:I≠p:=dM gT.bx lC;generalize L2.upd H3 I (zV (comp ns ms))=H4 at gT G lC;have hcl:(comp ns ms).length=ns.length:=by unfold comp;rw[Ab]
 refine⟨_,rfl,D,_,rfl,G,_,rfl,aI ⟨_,rfl,_,rfl,D,I,comp ns ms,rfl,rfl,.inl G,.inl lC,_,rfl,aI ?_⟩⟩;refine⟨_,rfl,D,_,rfl,G,fun L2 fI=>?_⟩;rw[sD];have s2:=Same.new (o:=.lst (((comp ns ms).map (·.1)).map V.int)) fI;refine⟨L2,rfl,⟨_,SqL.of ak⟩,fun D4 mf=>zB (Og ak (s2 _ _ G) ω mf fun H5 s5 h5=>?_)⟩;refine⟨D4,_,rfl,SqL.of h5,?_⟩;rw[show((comp ns ms).map fun _=>true).all id=true from by rw[List.all_map,List.all_eq_true];exact fun _ _=>rfl];have iQ:=s2.trans s5;have cU:=gT.same iQ;have cJ:=iQ _ _ G;have rO:=iQ _ _ lC;refine⟨_,rfl,aI ?_⟩;refine⟨_,rfl,_,rfl,_,rfl,p,3,rfl,cU.bx,ξ,ξ,fun hi H7 i0 i1 dh gf=>?_⟩;have nO:=cU.box dh gf;have nF:=dh _ _ r cJ;have vi:=dh _ _ qd rO;refine⟨p,KN,ks,canon pss,hi,rfl,gf,nO.hK,nO.hk,ω,fun CH cs H8 l6 ym Bx T nd sub len wt=>?_⟩;have h:=nO.box l6 ym;have lz:=l6 _ _ r nF;have qz:=l6 _ _ qd vi;have g:∀c∈cs,c.1∈canon pss:=fun c hc=>sub c.1 (List.mem_map.mpr ⟨c,hc,rfl⟩);have cj:fg (canon pss) cs=true:=BZ g (n:=(hi+1).toNat) (fun c hc=>by have:=(wt c hc).1;omega) fun c hc=>(wt c hc).2.1;obtain⟨c1,c2,c3⟩:=Ob h1 cj g;have U:∀c∈cs,∀x∈c.1,x∈ns.map (·.1):=fun c hc x hx=>oS k1 (lm (g c hc) hx);obtain⟨tw1,tw2⟩:=twice (ms:=ms) U;refine⟨_,rfl,_,rfl,_,rfl,_,rfl,_,rfl,_,rfl,_,rfl,O,OT,M,CH,os,bs,pss,ae,ns,cs,rfl,⟨SqL.of h.hO,h.ho,d,SqL.of h.hT,h.hb,S,h.hM,ω⟩,h1,⟨h.hO,h.ho,d,ω,.inl T,len,cj,nd⟩,g,fun E1 H9 oG pP pY Y=>?_⟩;have l:=h.but oG (.inl T);have lO:=oG _ _ (fE (.inl T) lz (by intro k z;cases z) (by intro q k z;cases z)) lz;have qj:=oG _ _ (fE (.inl T) qz (by intro k z;cases z) (by intro q k z;cases z)) qz;have tT:CH≠E1:=zh T pY;refine⟨OT,Z,N,E1,bs,gs,ae,av,ms,sumC (carT ns cs),rfl,⟨SqL.of l.hT,l.hb,S,SqL.of l.hZ,l.hg,hz,l.hN,ω⟩,h2,⟨l.hT,l.hb,S,ω,.inl Y,c3,c1,ow _⟩,c2,fun E2 HA lM A_ mr ot=>?_⟩;have F:=l.but lM (.inl Y);have oK:=lM _ _ (fE (.inl Y) lO (by intro k z;cases z) (by intro q k z;cases z)) lO;have qH:=lM _ _ (fE (.inl Y) qj (by intro k z;cases z) (by intro q k z;cases z)) qj;have gu:=Oe lM tT pP;have nD:CH≠E2:=Of pP mr;refine⟨_,rfl,_,rfl,_,rfl,_,rfl,O,Z,D,CH,os,gs,pss,av,comp ns ms,cs,rfl,⟨SqL.of F.hO,F.ho,d,SqL.of F.hZ,F.hg,hz,oK,ω⟩,N_ h1 h2,⟨F.hO,F.ho,d,ω,gu,len,cj,nd⟩,g,fun E3 HB lY yF u0 mO=>?_⟩;have fX:=F.but lY gu;have pW:=lY _ _ (fE gu oK (by intro k z;cases z) (by intro q k z;cases z)) oK;have wD:=lY _ _ (fE gu qH (by intro k z;cases z) (by intro q k z;cases z)) qH;have pq:=lY _ _ (Ne.symm nD) ot;refine⟨_,rfl,E3,E2,true,rfl,rfl,Od (.inl mO) (.inl pq) tw1 tw2,_,rfl,aI ?_⟩;refine⟨_,rfl,D,_,rfl,DPut.k (k:=Sum.inl 98) pW (by rw[Ab,Ab];exact zZ ω),?_⟩;have dl:∀{b:Addr}{o:HO},HB b=some o->(∀z,o≠.dK z)->b≠D:=fun e n=>dj e pW (n _)
 have stC:=fX.mv (pB (o:=.dK (putK (kZ (comp ns ms)) (Sum.inl 98) (.int 1)))) (let ⟨a,b,e,q⟩:=fX.bx;⟨a,b,pB _ _ (dl e (by intro z y;cases y)) e,q⟩) (fun e=>dl e (by intro z y;cases y)) (fun e=>dl e (by intro z y;cases y)) eM eN vJ tJ;have rZ:=pB (o:=.dK (putK (kZ (comp ns ms)) (Sum.inl 98) (.int 1))) _ _ (Ne.symm nE) wD;refine⟨_,rfl,HD,_,_,_,rfl,rfl,SqL.of stC.hH,zx (j:=0) rfl,_,rfl,HD,_,_,_,rfl,rfl,SqL.of stC.hH,zx (j:=1) rfl,_,rfl,HD,_,_,_,rfl,rfl,SqL.of stC.hH,zx (j:=2) rfl,_,rfl,HD,_,_,_,rfl,rfl,SqL.of stC.hH,zx (j:=3) rfl,_,rfl,HD,_,_,_,rfl,rfl,SqL.of stC.hH,zx (j:=4) rfl,?_⟩;refine⟨LA,LB,LC,DM,DN,os,bs,gs,pss,ae,av,ns,ms,rfl,stC.hne,⟨SqL.of stC.hA,stC.ho,d,SqL.of stC.hB,stC.hb,S,stC.hD,ω⟩,⟨SqL.of stC.hB,stC.hb,S,SqL.of stC.hC,stC.hg,hz,stC.hE,ω⟩,.inl ⟨by unfold gJ;rw[h1,h2];rfl,fun D5 HE sE oP nS=>?_⟩⟩;exact⟨_,rfl,D5,I,comp ns ms,rfl,rfl,.inl nS,.inl (sE _ _ rZ),k _⟩
end
end K55
end
section
namespace L2
open PySem PySem.Spec PyProof.Rows
def GU{X:Cx}:z0 X (.type "dict") (fun xs H Q=>∃a kvs,xs=[.ref a]/\Rd H a (.dK kvs)/\∀p,H p=none->Q (.ref p) (upd H p (.dK kvs))):=by
 intro aa s σ H xs us Q I r h;obtain⟨a,kvs,rfl,hq,q⟩:=h;obtain⟨u,rfl,b⟩:=vals1 r;cases b;exact Iu I hq fun p s' hp c=>⟨.ref p,_,c,rfl,q p hp⟩
end L2
namespace K55
open K1
open PySem L2 STb
section
variable{P:Program}{w:World}{K:Ad}{mg:Str->Option Value}{base:Heap}{f:Addr}{fd:FuncData}
def Oi{cdv:Value}{A:Around}{outer:List Env}{s:Shared}{H:Hp}{Q:VK}{E:XK}(hr:Room 12 (bc az P w K mg base fH "law" (zg bW) f cdv A outer s H E).A)(k:∀H',Q (.bl true) H')(B:Bt mg)(Ct:Cl P w K mg base az "_law_take" ["box","most"] 1 hF)(kj:Cl P w K mg base az "_law_chain" ["box","known","high"] 2 (rC K))(Cw:Cl P w K mg base az "_law_whole" ["x"] 1 o7)(Ca:Cl P w K mg base az "_law_asked" ["web","middle","last","one","other"] 12 (sv K))(Cr:Cl P w K mg base az "carried" ["web","other","names","chain"] 11 (sh K))(ky:Cl P w K mg base az "_law_pieces" ["web"] 2 (jR K))(Ci:Cl P w K mg base az "_law_is_map" ["known","there","names"] 2 (B8 K)):∃tr,PSs (bc az P w K mg base fH "law" (zg bW) f cdv A outer s H E).nox (List.drop 10 (zK bW)) tr/\
   ∀(p O OT Z M N KN TH:Addr)(os bs gs ks ts:List Addr)(pss ae av:Ξ)(ns ms:List (Int×Int))(v0 v7 v8:Option V)(H2:Hp),zG H2 p->H2 O=some (.lst (os.map V.ref))->Tps H2 os pss->H2 OT=some (.lst (bs.map V.ref))->Tps H2 bs ae->H2 Z=some (.lst (gs.map V.ref))->Tps H2 gs av->H2 M=some (zV ns)->H2 N=some (zV ms)->H2 KN=some (.lst (ks.map V.ref))->Tps H2 ks (canon pss)->H2 TH=some (.lst (ts.map V.ref))->Tps H2 ts (canon ae)->
    a6 pss->(canon pss).length<=56->a6 ae->(canon ae).length<=56->a6 av->(canon av).length<=56->ns.length<=60->ms.length<=60->
    tr {nx:=fun _ H'=>Q .non H',rt:=Q} [v0,some (.ref p),some (.ref O),some (.ref OT),some (.ref M),some (.ref KN),some (.ref TH),v7,v8,some (.ref N),some (.ref Z),none,none,none,none,none] H2:=by
 have hu:=d_ hr;have au:=hr.units;have jU:=CA hr;obtain⟨yH,yx,vS⟩:=Oh (f:=f) (cdv:=cdv) (A:=A) (outer:=outer) (s:=s) (H:=H) (Q:=Q) (E:=E) hr k B Ct kj Cw Ca Cr;refine⟨_,zd (zr (i:=11) dP.nd rfl (Or.inl rfl) (zO (ac (zm me rfl B.list ff (ac (pv 2) al)) (ac (zm me rfl B.list ff (ac (pv 3) al)) (ac (zm me rfl B.list ff (ac (pv 10) al)) (ac (zm GU rfl B.dict g0 (ac (pv 4) al)) (ac (zm GU rfl B.dict g0 (ac (pv 9) al)) al)))))))
  (zd (zr (i:=12) dP.nd rfl (Or.inr rfl) (cK Ca hr rfl ao (ac (zN zD (pv 11) zf (fun _ _=>rfl)) (ac (zN zD (pv 11) zf (fun _ _=>rfl)) (ac (zN zD (pv 11) zf (fun _ _=>rfl)) (ac (zN zD (pv 11) zf (fun _ _=>rfl)) (ac (zN zD (pv 11) zf (fun _ _=>rfl)) al)))))))
  (zd (zR (zp (Mz jU) (pv 11) (zO (ac (pv 2) (ac (pv 3) (ac (pv 10) (ac (pv 4) (ac (pv 9) al)))))) (ar _)) (zi (zt dG)) zv)
  (zd (zR (PW.pt (pH (fL (fN (cK Ci hr rfl ao (ac (pv 5) (ac (pv 6) (ac (pv 4) al)))))) (pG (fL (fN (cK Ci hr rfl ao (ac (pv 6) (ac (cK ky hr rfl ao (ac (pv 10) al)) (ac (pv 9) al)))))))))
   (zi (zt (gN db (pv 12) pe_str (ar _)))) zv)
  yx))),?_⟩
 intro p O OT Z M N KN TH os bs gs ks ts pss ae av ns ms v0 v7 v8 H2 bx hO ho hT hb hZ hg hM hN hK hk W ht d bj v dv X lg dU Y;refine⟨_,rfl,O,_,rfl,.inl (SqL.of hO),fun LA xt=>?_⟩;have sA:=Same.new (o:=.lst (os.map V.ref)) xt;refine⟨_,rfl,OT,_,rfl,.inl (SqL.of (sA _ _ hT)),fun LB wX=>?_⟩;have sB:=Same.new (o:=.lst (bs.map V.ref)) wX;have rB:=sA.trans sB;refine⟨_,rfl,Z,_,rfl,.inl (SqL.of (rB _ _ hZ)),fun LC yw=>?_⟩;have sC:=Same.new (o:=.lst (gs.map V.ref)) yw;have qF:=rB.trans sC;refine⟨_,rfl,M,_,rfl,.inl (qF _ _ hM),fun DM wR=>?_⟩;have L:=Same.new (o:=zV ns) wR;have s3:=qF.trans L;refine⟨_,rfl,N,_,rfl,.inl (s3 _ _ hN),fun DN qg=>⟨ze (by simp),fun HD wo=>?_⟩⟩;have y:=Same.new (o:=zV ms) qg;have s4:=s3.trans y;have u:=Same.new (o:=.lst [.ref LA,.ref LB,.ref LC,.ref DM,.ref DN]) wo;have c:=s4.trans u;have z:DM≠DN:=zh (ak (o:=zV ns)) qg;have st:S9 _ p O OT Z M N KN TH LA LB LC DM DN HD os bs gs ks ts pss ae av ns ms:=
  ⟨bx.same c,c _ _ hO,c.tps ho,c _ _ hT,c.tps hb,c _ _ hZ,c.tps hg,c _ _ hM,c _ _ hN,c _ _ hK,c.tps hk,c _ _ W,c.tps ht,u _ _ (y _ _ (L _ _ (sC _ _ (sB _ _ ak)))),u _ _ (y _ _ (L _ _ (sC _ _ ak))),u _ _ (y _ _ (L _ _ ak)),u _ _ (y _ _ ak),u _ _ ak,ak,z⟩
 have S:∀{H3:Hp}{D:Addr}{l:List (Int×Int)}{b:Addr},H3 b=some (zV l)->H3 D=none->b≠D:=fun e h=>zh e h;obtain⟨pT,_,z5,_⟩:=gk X.1;generalize L2.upd (L2.upd (L2.upd (L2.upd (L2.upd (L2.upd H2 LA (.lst (os.map V.ref))) LB (.lst (bs.map V.ref))) LC (.lst (gs.map V.ref))) DM (zV ns)) DN (zV ms)) HD (.lst [.ref LA,.ref LB,.ref LC,.ref DM,.ref DN])=H6 at st;refine⟨_,rfl,HD,_,_,_,rfl,rfl,SqL.of st.hH,zx (j:=0) rfl,_,rfl,HD,_,_,_,rfl,rfl,SqL.of st.hH,zx (j:=1) rfl,_,rfl,HD,_,_,_,rfl,rfl,SqL.of st.hH,zx (j:=2) rfl,_,rfl,HD,_,_,_,rfl,rfl,SqL.of st.hH,zx (j:=3) rfl,_,rfl,HD,_,_,_,rfl,rfl,SqL.of st.hH,zx (j:=4) rfl,?_⟩;refine⟨LA,LB,LC,DM,DN,os,bs,gs,pss,ae,av,ns,ms,rfl,z,⟨SqL.of st.hA,st.ho,d,SqL.of st.hB,st.hb,v,st.hD,ω⟩,⟨SqL.of st.hB,st.hb,v,SqL.of st.hC,st.hg,X,st.hE,ω⟩,?_⟩;cases hb1:gJ ns ms pss ae av with
 |false=>
  refine .inr ⟨rfl,fun H9 s9=>?_⟩;have eE:=st.same s9;refine⟨_,rfl,_,rfl,_,rfl,_,rfl,_,rfl,_,rfl,ze (by simp),fun T nQ=>?_⟩;have U:=Same.new (o:=.lst [.ref O,.ref OT,.ref Z,.ref M,.ref N]) nQ;have a:=eE.same U;refine⟨HD,T,_,_,rfl,rfl,SqL.of a.hH,SqL.of ak,.cons (.lt (SqL.of a.hA) a.ho (SqL.of a.hO) a.ho) (.cons (.lt (SqL.of a.hB) a.hb (SqL.of a.hT) a.hb) (.cons (.lt (SqL.of a.hC) a.hg (SqL.of a.hZ) a.hg) (.cons (.dz (ns:=ns) (.inl a.hD) (.inl a.hM)) (.cons (.dz (ns:=ms) (.inl a.hE) (.inl a.hN)) .nil)))),_,rfl,aI ?_⟩;refine⟨_,rfl,_,rfl,_,rfl,KN,TH,M,ks,ts,ns,canon pss,pss,canon ae,rfl,SqL.of a.hK,a.hk,rfl,ω,fun q hq=>(eV d.1 q hq).1,SqL.of a.hTH,a.ht,a.hM,ω,fun HB C=>⟨_,rfl,?_⟩⟩;have r:=a.same C;cases I:aW ns (canon pss) (canon ae) with
  |false=>exact bg ⟨_,rfl,rfl,k _⟩
  |true=>
   refine aI ⟨_,rfl,_,rfl,Z,gs,av,rfl,SqL.of r.hZ,r.hg,z5,pT,by rw[<-zJ];omega,fun KZ HC qs t=>?_⟩;obtain⟨zs,G,_,nw,g⟩:=jl t;have stC:=r.same G;refine⟨_,rfl,TH,KZ,N,ts,zs,ms,canon ae,ae,canon av,rfl,SqL.of stC.hTH,stC.ht,rfl,ω,fun q hq=>(eV v.1 q hq).1,SqL.of nw,g,stC.hN,ω,fun HE mJ=>⟨_,rfl,?_⟩⟩;cases J:aW ms (canon ae) (canon av) with
   |false=>exact bg ⟨_,rfl,rfl,k _⟩
   |true=>unfold gJ at hb1;rw[I,J] at hb1;exact absurd hb1 ξ
 |true=>
  have jz:=hb1;unfold gJ at jz;rw[AC] at jz;obtain⟨I,J⟩:=jz;refine .inl ⟨rfl,fun D H9 s9 F lO=>?_⟩;have eE:=st.same s9;have nM:=S st.hM F;have nN:=S st.hN F;have ul:=S st.hD F;have yy:=S st.hE F;refine⟨_,rfl,_,rfl,_,rfl,_,rfl,_,rfl,_,rfl,ze (by simp),fun T nQ=>?_⟩;have U:=Same.new (o:=.lst [.ref O,.ref OT,.ref Z,.ref M,.ref N]) nQ;have a:=eE.same U;refine⟨HD,T,_,_,rfl,rfl,SqL.of a.hH,SqL.of ak,.cons (.lt (SqL.of a.hA) a.ho (SqL.of a.hO) a.ho) (.cons (.lt (SqL.of a.hB) a.hb (SqL.of a.hT) a.hb) (.cons (.lt (SqL.of a.hC) a.hg (SqL.of a.hZ) a.hg) (.cons (.dz (ns:=ns) (.inl a.hD) (.inl a.hM)) (.cons (.dz (ns:=ms) (.inl a.hE) (.inl a.hN)) .nil)))),_,rfl,aI ?_⟩;refine⟨_,rfl,_,rfl,_,rfl,KN,TH,M,ks,ts,ns,canon pss,pss,canon ae,rfl,SqL.of a.hK,a.hk,rfl,ω,fun q hq=>(eV d.1 q hq).1,SqL.of a.hTH,a.ht,a.hM,ω,fun HB C=>⟨_,rfl,?_⟩⟩;have r:=a.same C;rw[I];refine aI ⟨_,rfl,_,rfl,Z,gs,av,rfl,SqL.of r.hZ,r.hg,z5,pT,by rw[<-zJ];omega,fun KZ HC qs t=>?_⟩;obtain⟨zs,G,_,nw,g⟩:=jl t;have stC:=r.same G;refine⟨_,rfl,TH,KZ,N,ts,zs,ms,canon ae,ae,canon av,rfl,SqL.of stC.hTH,stC.ht,rfl,ω,fun q hq=>(eV v.1 q hq).1,SqL.of nw,g,stC.hN,ω,fun HE mJ=>⟨_,rfl,?_⟩⟩;rw[J];have sAll:=((U.trans C).trans G).trans mJ;exact aI (vS p O OT Z M N KN TH LA LB LC DM DN HD D os bs gs ks ts pss ae av ns ms _ _ _ HE (stC.same mJ) d bj v dv X lg dU Y I J (sAll _ _ lO) nM nN ul yy)
end
end K55
end
section
namespace K55
open K1
open PySem L2 STb
def Oj{ns:List (Int×Int)}{x y:Int}{n:Nat}(h:(ns.map (·.1)).Nodup)(d:ns.length<=n):∃ms:List (Int×Int),putK (kZ ns) (Sum.inl x) (V.int y)=kZ ms/\(ms.map (·.1)).Nodup/\ms.length<=n+1:=by
 by_cases hx:x∈ns.map (·.1)
 ·obtain⟨ms,e,hk⟩:=Gu (y:=y) hx
  refine⟨ms,e,by rw[hk];exact h,?_⟩;have:=congrArg List.length hk;rw[Ab,Ab] at this;omega
 ·refine⟨_,sk hx,?_,by rw[Aw];simp;omega⟩
  rw[Am,List.nodup_append];exact⟨h,by simp,fun a c b hb e=>by rw[List.mem_singleton.mp (show b∈[x] from hb)] at e;exact hx (e▸c)⟩
structure A6(H:Hp)(p O OT M KN TH DD:Addr)(os bs ks ts:List Addr)(pss ae:Ξ)(ns:List (Int×Int)):Prop where
 bx:zG H p
 hO:H O=some (.lst (os.map V.ref))
 ho:Tps H os pss
 hT:H OT=some (.lst (bs.map V.ref))
 hb:Tps H bs ae
 hM:H M=some (zV ns)
 hK:H KN=some (.lst (ks.map V.ref))
 hk:Tps H ks (canon pss)
 hTH:H TH=some (.lst (ts.map V.ref))
 ht:Tps H ts (canon ae)
 hD:H DD=some (.lst ((dots (canon ae)).map V.int))
 hp:DD≠p
section
variable{p O OT M KN TH DD:Addr}{os bs ks ts:List Addr}{pss ae:Ξ}{ns:List (Int×Int)}{H H':Hp}
def A6.mv{x:Addr}(h:A6 H p O OT M KN TH DD os bs ks ts pss ae ns)(s:zu x H H')(a:zG H' p)(c:∀{b:Addr}{as:List Addr},H b=some (.lst (as.map V.ref))->b≠x)(d:∀{b:Addr}{l:List V},H b=some (.tup l)->b≠x)(h1:M≠x)(h2:DD≠x):A6 H' p O OT M KN TH DD os bs ks ts pss ae ns:=
 have l:∀{b:Addr}{as:List Addr},H b=some (.lst (as.map V.ref))->H' b=some (.lst (as.map V.ref)):=fun e=>s _ _ (c e) e;have t:∀{as:List Addr}{l:Ξ},Tps H as l->Tps H' as l:=fun q=>Paired.mapP q fun _ _ e=>s _ _ (d e) e
 ⟨a,l h.hO,t h.ho,l h.hT,t h.hb,s _ _ h1 h.hM,l h.hK,t h.hk,l h.hTH,t h.ht,s _ _ h2 h.hD,h.hp⟩
def A6.same(h:A6 H p O OT M KN TH DD os bs ks ts pss ae ns)(s:Same H H'):A6 H' p O OT M KN TH DD os bs ks ts pss ae ns:=
 ⟨h.bx.same s,s _ _ h.hO,s.tps h.ho,s _ _ h.hT,s.tps h.hb,s _ _ h.hM,s _ _ h.hK,s.tps h.hk,s _ _ h.hTH,s.tps h.ht,s _ _ h.hD,h.hp⟩
def A6.box(h:A6 H p O OT M KN TH DD os bs ks ts pss ae ns)(s:zu p H H')(b:zG H' p):A6 H' p O OT M KN TH DD os bs ks ts pss ae ns:=
 h.mv s b h.bx.ne h.bx.net (dM h.bx h.hM) h.hp
end
abbrev Ol:List V->Hp->VK->Prop:=fun xs H Q=>(∃i,xs=[.int i]/\Q (.int i) H)\/∃k,xs=[.bl k]/\Q (.int (if k then 1 else 0)) H
abbrev Om(K:Ad):TE:=dD (zP (aE 0) (zP (da (l_ K) (l5 (zP (aE 0) (zP (aE 1) bq))) (gO Ol (zP (da p0 (l7 hF [] E0 (zP (aE 2) (zP (tC (.int 3)) bq))) (tC (.int 1))) bq))) bq))
section
variable{P:Program}{w:World}{K:Ad}{mg:Str->Option Value}{base:Heap}{f:Addr}{fd:FuncData}
def sK(K:Ad):Sp:=fun vs H Q _=>∃(a:Addr)(ns:List Int),vs=[.ref a]/\SqL K H a (ns.map V.int)/\ns.length<=63/\∀H',Q (.bl true) H'
def On(F:Fun K "law" "law" bW f fd)(B:Bt mg)(Cc:Cl P w K mg base az "_law_cell_at" ["script","k"] 1 (EJ K))(Cx:Cl P w K mg base az "_law_box" ["cell"] 1 EK)(Ct:Cl P w K mg base az "_law_take" ["box","most"] 1 hF)(Cp:Cl P w K mg base az "_law_pair" ["box"] 4 Gz)(ky:Cl P w K mg base az "_law_pieces" ["web"] 2 (jR K))(Cz:Cl P w K mg base az "_law_last" ["box","middle","other"] 2 GS)(Ci:Cl P w K mg base az "_law_is_map" ["known","there","names"] 2 (B8 K))(kj:Cl P w K mg base az "_law_chain" ["box","known","high"] 2 (rC K))(Cw:Cl P w K mg base az "_law_whole" ["x"] 1 o7)(Ca:Cl P w K mg base az "_law_asked" ["web","middle","last","one","other"] 12 (sv K))(Cr:Cl P w K mg base az "carried" ["web","other","names","chain"] 11 (sh K)):FnOk P w K mg base az 13 f fd ["script"] (sK K):=by
 refine F.ok dP (fun vs H Q E h=>?_) (fun cdv A outer s H vs Q E hr h=>?_)
 ·obtain⟨a,ns,rfl,_⟩:=h;rfl
 ·obtain⟨a,nn,rfl,hS,hn,k⟩:=h
  have hu:=d_ hr;have au:=hr.units;obtain⟨yW,i8,kL⟩:=Oi (f:=f) (cdv:=cdv) (A:=A) (outer:=outer) (s:=s) (H:=H) (Q:=Q) (E:=E) hr k B Ct kj Cw Ca Cr ky Ci;have R9:∃W,PSs (bc az P w K mg base fH "law" (zg bW) f cdv A outer s H E).nox (List.drop 9 (zK bW)) W/\
    ∀(p O OT M N KN TH DD:Addr)(os bs ks ts:List Addr)(pss ae:Ξ)(ns ms:List (Int×Int))(S v8:Option V)(H2:Hp),A6 H2 p O OT M KN TH DD os bs ks ts pss ae ns->H2 N=some (zV ms)->(ms.map (·.1)).Nodup->ms.length<=57->a6 pss->(canon pss).length<=56->a6 ae->(canon ae).length<=56->ns.length<=60->
     W {nx:=fun _ H'=>Q .non H',rt:=Q} [S,some (.ref p),some (.ref O),some (.ref OT),some (.ref M),some (.ref KN),some (.ref TH),some (.ref DD),v8,some (.ref N),none,none,none,none,none,none] H2:=by
   refine⟨_,zd (lS (cK Cz hr rfl ao (ac (pv 1) (ac (pv 3) (ac (pv 9) al)))) (kr rfl (zT (zn (i:=10) dP.nd rfl (Or.inl rfl)) (zT (zn (i:=9) dP.nd rfl (Or.inr rfl)) kq))))
    i8,?_⟩
   intro p O OT M N KN TH DD os bs ks ts pss ae ns ms S v8 H2 st I bC hml c v g l D;refine⟨_,rfl,_,rfl,_,rfl,p,OT,N,bs,ae,ms,rfl,st.bx,st.hT,st.hb,g,l,I,bC,ω,fun T Z N2 gs av ib X J G mW wp kH hz lg lv yi=>?_⟩;have d:=st.box J G;refine⟨T,_,rfl,SqT.of mW,rfl,_,_,rfl,_,_,rfl,rfl,?_⟩;have hl2:ib.length<=60:=by
    have:=congrArg List.length yi;rw[Ab,Ab] at this;omega
   exact kL p O OT Z M N2 KN TH os bs gs ks ts pss ae av ns ib _ _ _ X G d.hO d.ho d.hT d.hb wp kH d.hM lv d.hK d.hk d.hTH d.ht c v g l hz lg D hl2
  obtain⟨t9,h9,e9⟩:=R9;have R8:∃W,PSs (bc az P w K mg base fH "law" (zg bW) f cdv A outer s H E).nox (List.drop 8 (zK bW)) W/\
    ∀(p O OT M N KN TH DD:Addr)(os bs ks ts:List Addr)(pss ae:Ξ)(ns ms:List (Int×Int))(S v8:Option V)(H2:Hp),A6 H2 p O OT M KN TH DD os bs ks ts pss ae ns->H2 N=some (zV ms)->M≠N->ms.map (·.1)=dots (canon ae)->a6 pss->(canon pss).length<=56->a6 ae->(canon ae).length<=56->ns.length<=60->
     W {nx:=fun _ H'=>Q .non H',rt:=Q} [S,some (.ref p),some (.ref O),some (.ref OT),some (.ref M),some (.ref KN),some (.ref TH),some (.ref DD),v8,some (.ref N),none,none,none,none,none,none] H2:=by
   refine⟨_,zd (zR (zp db (cK Ct hr rfl ao (ac (pv 1) (ac zf al))) zf (ar _)) (zi (gb hu (pv 9) zf zf rfl)) zv)
    h9,?_⟩
   intro p O OT M N KN TH DD os bs ks ts pss ae ns ms S v8 H2 st I oV hk c v g l D;have cI:=iH (canon ae);have bC:(ms.map (·.1)).Nodup:=by rw[hk];exact lr
   have hml:ms.length<=56:=by
    have:=congrArg List.length hk;rw[Ab] at this;omega
   refine⟨_,rfl,p,6,rfl,st.bx,ξ,ξ,fun r X _ _ J G=>⟨rfl,_,rfl,be (fun _=>?_) fun _=>?_⟩⟩
   ·have d:=st.box J G
    have lv:=J _ _ (dM st.bx I) I;obtain⟨ib,e2,nd2,l2⟩:=Oj (x:=97) (y:=97) bC hml;refine⟨_,rfl,N,_,rfl,DPut.k (k:=Sum.inl 97) lv (by rw[Ab,Ab];exact zZ ω),?_⟩;have dl:∀{b:Addr}{o:HO},X b=some o->(∀z,o≠.dK z)->b≠N:=fun e n=>dj e lv (n _);refine e9 p O OT M N KN TH DD os bs ks ts pss ae ns ib _ _ _ (d.mv pB (let ⟨a,b,e,q⟩:=d.bx;⟨a,b,pB _ _ (dl e (by intro z y;cases y)) e,q⟩) (fun e=>dl e (by intro z y;cases y)) (fun e=>dl e (by intro z y;cases y)) oV (dl d.hD (by intro z y;cases y))) ?_ nd2 ω c v g l D;rw[ak];exact congrArg (fun z=>some (HO.dK z)) e2
   ·exact e9 p O OT M N KN TH DD os bs ks ts pss ae ns ms _ _ _ (st.box J G) (J _ _ (dM st.bx I) I) bC ω c v g l D
  obtain⟨t8,h8,e8⟩:=R8;have R6:∃W,PSs (bc az P w K mg base fH "law" (zg bW) f cdv A outer s H E).nox (List.drop 6 (zK bW)) W/\
    ∀(p O OT M KN TH DD:Addr)(os bs ks ts:List Addr)(pss ae:Ξ)(ns:List (Int×Int))(S:Option V)(to:Int)(H2:Hp),A6 H2 p O OT M KN TH DD os bs ks ts pss ae ns->a6 pss->(canon pss).length<=56->a6 ae->(canon ae).length<=56->ns.length<=60->
     W {nx:=fun _ H'=>Q .non H',rt:=Q} [S,some (.ref p),some (.ref O),some (.ref OT),some (.ref M),some (.ref KN),some (.ref TH),some (.ref DD),some (.int to),none,none,none,none,none,none,none] H2:=by
   refine⟨_,zd (zr (i:=9) dP.nd rfl (Or.inr rfl) (zm (zH rfl au) rfl B.dict g0 (ac (zy fH ["point","to","box"] [none,some 8,some 1] (zA (pv 7)) (fun U C s₀ H₀ ex=>zn (i:=0) (b7 ["point","to","box"]) rfl (Or.inl rfl)) (fun U C s₀ H₀ ex=>zF)
      (fun U C s₀ H₀ ex=>dw (ac (pv 0) (ac (zN zD (zO (ac (pv 0) (ac (pv 1) al))) (zm CL rfl B.int qY (ac (gN db (cK Ct hr rfl ao (ac (pv 2) (ac zf al))) zf (ar _)) al)) (fun _ _=>rfl)) al))) (hfr:=ck (zg bW) δ) (te:=Om K)) al)))
    (zd (zR (zp db (cK Ct hr rfl ao (ac (pv 1) (ac zf al))) zf (ar _))
     (zi (zr (i:=9) dP.nd rfl (Or.inr rfl) (zm (zH rfl au) rfl B.dict g0 (ac (zy fH ["point","to"] [none,some 8] (zA (pv 7)) (fun U C s₀ H₀ ex=>zn (i:=0) (b7 ["point","to"]) rfl (Or.inl rfl)) (fun U C s₀ H₀ ex=>zF)
      (fun U C s₀ H₀ ex=>dw (ac (pv 0) (ac (pv 1) al))) (hfr:=ck (zg bW) δ)) al)))) zv)
    h8),?_⟩
   intro p O OT M KN TH DD os bs ks ts pss ae ns S to H2 st c v g l D;have cI:=iH (canon ae);have q_:=lr (pss:=ae);refine⟨_,rfl,DD,rfl,⟨_,SqL.of st.hD⟩,fun D3 ag=>zB (pA (R:=fun _=>True) st.bx st.hD st.hp ω (fun x X Q' hx J G q=>?_) ag fun X us ys J G h3 pz hk _=>?_)⟩
   ·refine⟨_,rfl,_,rfl,_,rfl,ze (by simp),fun L hL=>⟨_,rfl,p,3,rfl,G.same (Same.new hL),ξ,ξ,fun r H4 _ _ aR bE=>⟨rfl,.inr ⟨_,rfl,?_⟩⟩⟩⟩
    have hLp:L≠p:=by obtain⟨a,b,e,_⟩:=G;exact(zh e hL).symm
    have Y:=(zu.of (p:=p) (Same.new (o:=.lst [.int x,.int to]) hL)).trans aR;have dQ:=aR _ _ hLp ak
    by_cases h1:r=1
    ·refine⟨L,_,_,.int to,rfl,?_,SqL.of dQ,zx (j:=1) rfl,ze (by simp),fun u hu=>q to u H4 Y bE trivial hu⟩
     rw[h1];rfl
    ·refine⟨L,_,_,.int x,rfl,?_,SqL.of dQ,zx (j:=0) rfl,ze (by simp),fun u hu=>q x u H4 Y bE trivial hu⟩
     rw[decide_eq_false (fun z=>h1 (by injection z))];rfl
   have d:=st.box J G;refine⟨D3,us,_,rfl,SqL.of h3,pz,fun N I=>?_⟩;rw[ka _ (by rw[hk];exact q_)];have sN:=Same.new (o:=zV ys) I;have gT:=d.same sN;have qO:=ak (H:=X) (a:=N) (o:=zV ys);have oV:M≠N:=zh d.hM I;refine⟨_,rfl,p,3,rfl,gT.bx,ξ,ξ,fun r H5 _ _ Y b0=>⟨rfl,_,rfl,be (fun _=>?_) fun _=>?_⟩⟩
   ·have cU:=gT.box Y b0
    refine⟨_,rfl,DD,rfl,⟨_,SqL.of cU.hD⟩,fun D4 aZ=>zB (pA (R:=fun _=>True) cU.bx cU.hD cU.hp ω (fun x H6 Q' hx a8 cb q=>?_) aZ fun H6 w6 qG a8 cb h6 tQ pN _=>?_)⟩
    ·exact⟨_,rfl,_,rfl,ze (by simp),fun u hu=>q to u H6 (zu.of (Same.refl _)) cb trivial hu⟩
    have jJ:=cU.box a8 cb;refine⟨D4,w6,_,rfl,SqL.of h6,tQ,fun N2 qC=>?_⟩;rw[ka _ (by rw[pN];exact q_)];have s7:=Same.new (o:=zV qG) qC;exact e8 p O OT M N2 KN TH DD os bs ks ts pss ae ns qG _ _ _ (jJ.same s7) ak (zh jJ.hM qC) pN c v g l D
   ·exact e8 p O OT M N KN TH DD os bs ks ts pss ae ns ys _ _ _ (gT.box Y b0) (Y _ _ (dM gT.bx qO) qO) oV hk c v g l D
  obtain⟨t6,h6,e6⟩:=R6;refine⟨_,zd (zr (i:=1) dP.nd rfl (Or.inr rfl) (cK Cx hr rfl ao (ac (cK Cc hr rfl ao (ac (pv 0) (ac zf al))) al)))
   (zd (lS (cK Cp hr rfl ao (ac (pv 1) al)) (kr rfl (zT (zn (i:=2) dP.nd rfl (Or.inl rfl)) (zT (zn (i:=3) dP.nd rfl (Or.inl rfl)) (zT (zn (i:=4) dP.nd rfl (Or.inr rfl)) kq)))))
   (zd (zr (i:=5) dP.nd rfl (Or.inl rfl) (cK ky hr rfl ao (ac (pv 2) al)))
   (zd (zr (i:=6) dP.nd rfl (Or.inl rfl) (cK ky hr rfl ao (ac (pv 3) al)))
   (zd (oX (i:=7) dP.nd rfl (Or.inl rfl) fH ["piece"] [none] (zA (pv 6)) (fun U C s₀ H₀ ex=>zn (i:=0) (b7 ["piece"]) rfl (Or.inl rfl))
      (fun U C s₀ H₀ ex=>ik (zp db (zl zk rfl B.len zW (ac (pv 0) al)) zf (ar _))) (fun U C s₀ H₀ ex=>zN fb (pv 0) zf (fun _ _=>rfl)) (hfr:=bF δ) (tc:=jn K) (te:=oT K))
   (zd (zr (i:=8) dP.nd rfl (Or.inr rfl) (tu (zp iU (zl zk rfl B.len zW (ac (pv 7) al)) zf (ar _)) (zN zD (pv 7) (cK Ct hr rfl ao (ac (pv 1) (ac (zl zk rfl B.len zW (ac (pv 7) al)) al))) (fun _ _=>rfl)) zf))
   h6))))),?_⟩
  refine⟨_,rfl,a,nn,rfl,hS,fun n=>⟨n,rfl,fun p x y hp bo=>?_⟩⟩;refine⟨_,rfl,p,rfl,⟨x,y,ak,bo⟩,fun T O OT M os bs pss ae ns H1 cB hb1 hT1 fQ cS bD jD ju g l tZ hd=>?_⟩;refine⟨T,_,rfl,SqT.of hT1,rfl,_,_,rfl,_,_,rfl,_,_,rfl,rfl,?_⟩;obtain⟨hw,bC,o0⟩:=k8 bD;obtain⟨cn,_,h5,_⟩:=gk hw;have cR:=k_ bD;have v:(canon pss).length<=56:=by rw[zJ];exact cR
  have c:a6 pss:=⟨hw,ω⟩;obtain⟨vg,_,q5,_⟩:=gk g.1;refine⟨_,rfl,O,os,pss,rfl,SqL.of fQ,cS,h5,cn,ω,fun KN H2 qs t=>?_⟩;obtain⟨ks,iK,_,mh,bS⟩:=jl t;refine⟨_,rfl,OT,bs,ae,rfl,SqL.of (iK _ _ jD),iK.tps ju,q5,vg,by rw[<-zJ];omega,fun TH X BO t3=>?_⟩;obtain⟨ts,aU,_,iL,jB⟩:=jl t3;have s3:=iK.trans aU;have D:ns.length<=60:=by
   have:=iH (canon pss);have:=congrArg List.length hd;rw[Ab] at this;omega
  refine⟨_,rfl,TH,rfl,⟨_,SqL.of iL⟩,fun DD jT=>zB (rY (SqL.of iL) jB ω jT fun H4 s4 h4=>?_)⟩;have bK:=s3.trans s4;have bE:=hb1.same bK;have hDp:DD≠p:=by
   obtain⟨x,y,e,_⟩:=hb1.same s3;exact(zh e jT).symm
  have st:A6 H4 p O OT M KN TH DD os bs ks ts pss ae ns:=⟨bE,bK _ _ fQ,bK.tps cS,bK _ _ jD,bK.tps ju,bK _ _ tZ,(aU.trans s4) _ _ mh,(aU.trans s4).tps bS,s4 _ _ iL,s4.tps jB,h4,hDp⟩;have cI:=iH (canon ae);refine⟨_,rfl,DD,_,rfl,.inl (SqL.of st.hD),_,_,rfl,rfl,_,rfl,be (fun hgt=>?_) (fun _=>?_)⟩
  ·have dL:0<(dots (canon ae)).length:=by
    have:=of_decide_eq_true hgt;rw[Ab] at this;omega
   refine⟨_,rfl,_,rfl,_,rfl,DD,_,rfl,.inl (SqL.of st.hD),p,_,rfl,st.bx,by rw[Ab];omega,by rw[Ab];omega,fun r2 H6 q0 q1 a8 cb=>?_⟩;rw[Ab] at q1;have jJ:=st.box a8 cb;obtain⟨x,ex⟩:∃x,(dots (canon ae))[r2.toNat]?=some x:=⟨(dots (canon ae))[r2.toNat]'ω,Af _⟩;have er:r2=((r2.toNat:Nat):Int):=ω
   exact⟨DD,_,_,.int x,rfl,rfl,SqL.of jJ.hD,by rw[er];exact zx (by rw[Aj,ex];rfl),e6 p O OT M KN TH DD os bs ks ts pss ae ns _ x _ jJ c v g l D⟩
  ·exact e6 p O OT M KN TH DD os bs ks ts pss ae ns _ 0 _ st c v g l D
end
end K55
end
section
namespace K55
open K1
open PySem L2 STb
def Oo{l:PySem.W.OpenLaw}{w:World}{K:Ad}{h:Heap}{mg:Str->Option Value}{fa f1 f2 f3 f4 f5 f6 f7 f8 f9 dC vh tP vx xV tF uk xD vU uh uC uu r_ vP vt x6 sR vQ w4 u_ wW u6 xu vz wL xM se vW vf w5 e0 e1 e2 e3 e4 e5 e6 b e8 e9 kL eS:Addr}{tp tq tr ts:Tok}(X:K.In h)(G:h.Ns mainGlobals mg)(rW:mg "law"=some (.ref fa))(d1:Df K "is_piece" qV f1)(d2:Df K "parts_of" kW f2)(d3:Df K "order_key" fy f3)(d4:Df K "in_order" nG f4)(d5:Df K "all_parts" sAll f5)(d6:Df K "is_web" qW f6)(d7:Df K "must_be_web" rv f7)(d8:Df K "pieces" n_ f8)(d9:Df K "is_chain" rz f9)(lw:Df K "is_of_one_height" iC dC)(wz:Df K "must_be_chain" rA vh)(wU:Df K "sum_of" iG tP)(vX:Df K "is_map" oO vx)(tt:Df K "must_be_map" oQ xV)(sw:Df K "image_of" rL tF)(rR:Df K "names_along" lj uk)(vD:Df K "carried" j9 xD)(uE:Df K "carried_by" rS vU)(wZ:Df K "risen_terms" rN uh)(vc:Df K "falls_in" oI uC)(uK:Df K "less_than" oH uu)(ug:Df K "behind" ki r_)(wj:Df K "_law_cell_at" zc vP)(xH:Df K "_law_box" jX vt)(vo:Df K "_law_take" jY x6)(xq:Df K "_law_parts" nZ sR)(vT:Df K "_law_pieces" ri vQ)(vR:Df K "_law_known" ro w4)(ub:Df K "_law_named" n4 u_)(sI:Df K "_law_web" iu wW)(uW:Df K "_law_chain" BQ u6)(vF:Df K "_law_whole" Cf xu)(wA:Df K "_law_image" oy vz)(uN:Df K "_law_is_map" rT wL)(yf:Df K "_law_pair" gG xM)(xn:Df K "_law_which" jp se)(tS:Df K "_law_asked" Cu vW)(sG:Df K "_law_last" pw vf)(qc:Df K "law" bW w5)(gp:Nn K "MOST_POINTS" (some (.int 5 tp)))(gq:Nn K "LAST_POINT" (some (.int 99 tq)))(gr:Nn K "MOST_HANDED" (some (.int 20 tr)))(gs:Nn K "MOST_PIECES" (some (.int 200 ts)))(rP:Nn K "NoWeb" (some (.ref e0)))(uq:Nn K "NoPiece" (some (.ref e1)))(uO:Nn K "NoChain" (some (.ref e2)))(xj:Nn K "NotClosed" (some (.ref e3)))(vZ:Nn K "NoTable" (some (.ref e4)))(wO:Nn K "NoGoal" (some (.ref e5)))(tV:Nn K "NoPush" (some (.ref e6)))(pJ:Nn K "NoMap" (some (.ref b)))(xF:Nn K "NoOrder" (some (.ref e8)))(wY:Nn K "NoNumber" (some (.ref e9)))(oq:Nn K "NoNote" (some (.ref kL)))(tW:Nn K "SeamError" (some (.ref eS)))(q7:PySem.W.excIn K b kd "ValueError.__new__"=true)(M7:Mk K b e0 e1 e2 e3 e4 e5 e6 b e8 e9 kL 7)(S7:iI K b eS)(z1:Nn K "len" none)(z2:Nn K "all" none)(z3:Nn K "zip" none)(z4:Nn K "sorted" none)(z5:Nn K "set" none)(z6:Nn K "list" none)(z7:Nn K "tuple" none)(z8:Nn K "range" none)(z9:Nn K "enumerate" none)(vd:Nn K "int" none)(u8:Nn K "isinstance" none)(tE:Nn K "reversed" none)(wV:Nn K "bool" none)(u3:Nn K "dict" none)(uj:Nn K "ValueError" none)(vp:Nn K "sum" none):∃fd:FuncData,(∀(s:Shared)(v:Value),BindsTo s fd ⟨[v],[]⟩ [("script",v)])/\∀base:Heap,K.In base->base.Ns mainGlobals mg->FnOk l.prog w K mg base az 13 fa fd ["script"] (sK K):=by
 cases rW.symm.trans (qc.m X G);have B:Bt mg:=⟨z1.n X G,z2.n X G,z3.n X G,z4.n X G,z5.n X G,z6.n X G,z7.n X G,z8.n X G,z9.n X G,vd.n X G,u8.n X G,tE.n X G,wV.n X G,u3.n X G⟩;obtain⟨g1,F1,b1,m1⟩:=d1.g1 X G "numbers";obtain⟨g2,F2,r,m2⟩:=d2.g1 X G "piece";obtain⟨g3,F3,u,y⟩:=d3.g1 X G "piece";obtain⟨g4,F4,z,A⟩:=d4.g1 X G "some";obtain⟨g5,o,C,D⟩:=d5.g1 X G "some";obtain⟨g6,F6,b6,m6⟩:=d6.g1 X G "web";obtain⟨g7,p,E,F⟩:=d7.g1 X G "web";obtain⟨g8,q,H,I⟩:=d8.g1 X G "web";obtain⟨g9,F9,b9,m9⟩:=d9.g2 X G "web" "chain";obtain⟨Bq,J,we,nV⟩:=lw.g1 X G "some";obtain⟨yR,L,uU,vH⟩:=wz.g2 X G "web" "chain";obtain⟨yJ,M,vC,uL⟩:=wU.g1 X G "terms";obtain⟨yM,g,N,O⟩:=vX.g3 X G "web" "other" "names";obtain⟨BE,c,Q,S⟩:=tt.g3 X G "web" "other" "names";obtain⟨BV,T,vB,yu⟩:=sw.g2 X G "names" "piece";obtain⟨yU,i,U,Y⟩:=rR.g2 X G "names" "piece";obtain⟨yI,Z,xN,sd⟩:=vD.g4 X G "web" "other" "names" "chain";obtain⟨yK,pF,xI,wP⟩:=uE.g2 X G "names" "chain";obtain⟨yC,qb,t_,vO⟩:=wZ.g2 X G "some" "weight";obtain⟨Bj,qN,xa,n8⟩:=vc.g1 X G "some";obtain⟨yO,si,xr,ve⟩:=uK.g2 X G "point" "some";obtain⟨yX,qm,uQ,sF⟩:=ug.g5 X G "web" "middle" "last" "one" "other";obtain⟨BD,pI,wT,yg⟩:=wj.g2 X G "script" "k";obtain⟨BL,qi,wQ,uV⟩:=xH.g1 X G "cell";obtain⟨yZ,a,d,f⟩:=vo.g2 X G "box" "most";obtain⟨Bu,yp,um,wM⟩:=xq.g1 X G "piece";obtain⟨BH,j,qh,pX⟩:=vT.g1 X G "web";obtain⟨yT,xT,yA,yo⟩:=vR.g1 X G "number";obtain⟨BC,xz,tK,xh⟩:=ub.g2 X G "box" "web";obtain⟨BF,qp,ue,wG⟩:=sI.g1 X G "box";obtain⟨BK,qA,r9,v_⟩:=uW.g3 X G "box" "known" "high";obtain⟨BI,pO,wv,xb⟩:=vF.g1 X G "x";obtain⟨BN,wa,vG,xJ⟩:=wA.g2 X G "piece" "names";obtain⟨Bl,qk,u2,w_⟩:=uN.g3 X G "known" "there" "names";obtain⟨BB,rf,uv,uy⟩:=yf.g1 X G "box";obtain⟨BU,qv,yr,uH⟩:=xn.g1 X G "e";obtain⟨yE,rm,vq,wE⟩:=tS.g5 X G "web" "middle" "last" "one" "other";obtain⟨BG,pQ,wN,uX⟩:=sG.g3 X G "box" "middle" "other";obtain⟨⟨gL,FL⟩,_⟩:=qc;refine⟨gL,?_,fun base _ _=>?_⟩
 ·obtain⟨_,_,_,_,_,_,_,_,_,rfl,_,_⟩:=FL.ex;exact fun s v=>.of_eq rfl
 have nC:=Ep (P:=l.prog) (w:=w) (base:=base) o B F2 r m2 F4 z A F3 u y;have nr:=J2 (P:=l.prog) (w:=w) (base:=base) F6 B (gp.m X G) (gq.m X G) (gr.m X G) (gs.m X G) F1 b1 m1 o C D F2 r m2 F4 z A F3 u y;have Gm:=Ll p F6 b6 m6 nr;have Gp:=Lm q p E F Gm o C D nC;have rJ:=KQ (P:=l.prog) (w:=w) (base:=base) j B yp um wM;have Go:=LM (P:=l.prog) (w:=w) (base:=base) J B;have Gi:=LO F9 B q H I Gp J we nV Go;have u7:=LQ L F9 b9 m9 Gi;have Gs:=LW (mg:=mg) (P:=l.prog) (w:=w) (base:=base) M;have Ga:=FQ (P:=l.prog) (w:=w) (base:=base) i B;have Gr:=MN qb B qN xa n8 (ML (P:=l.prog) (w:=w) (base:=base) qN B (vp.n X G) δ si xr ve);have vE:=MO pF i U Y Ga qb t_ vO Gr M vC uL Gs;have rh:=MS g B q H I Gp T vB yu (MF (P:=l.prog) (w:=w) (base:=base) T B i U Y);have xm:=MT c g N O rh;have vm:=eX c Q S (NV c (pJ.m X G) q7 (eX g N O rh));have Cb:=eX qm uQ sF (NX qm (eX p E F Gm) vm);have wF:=N0 (P:=l.prog) (w:=w) (base:=base) qv B.isinstance (uj.n X G) (rP.m X G) (uq.m X G) (uO.m X G) (xj.m X G) (vZ.m X G) (wO.m X G) (tV.m X G) (pJ.m X G) (xF.m X G) (wY.m X G) (oq.m X G);have Ct:=eX a d f (nY (P:=l.prog) (w:=w) (base:=base) a);exact On FL B (eX pI wT yg (KH pI B)) (eX qi wQ uV (KJ qi)) Ct (eX rf uv uy (M9 rf B a d f qp ue wG (K7 qp B a d f xz tK xh xT yA yo) j qh pX rJ)) (eX j qh pX rJ) (eX pQ wN uX (N5 pQ B Ct)) (eX qk u2 w_ (MR (P:=l.prog) (w:=w) (base:=base) qk B wa vG xJ)) (eX qA r9 v_ (LS qA B a d f)) (eX pO wv xb (Nf pO B)) (eX rm vq wE (N1 rm (tW.m X G) Cb qv yr uH wF M7 S7)) (eX Z xN sd (MV Z c Q S xm L uU vH u7 pF xI wP vE))
def walk{l:PySem.W.OpenLaw}{q:Program}{g:List Str}{p:(Str->Option Value)->Heap->Prop}{b:World->Heap->Prop}{d:DefRec}{K:Params->Ad}(i:l.most=some 63)(j:d.params.defaults=[])(o:∀(w:World)(h:Heap),b w h->(K w.params).In h)(F:∀(w:World)(mg:Str->Option Value)(fa:Addr)(h:Heap),(K w.params).In h->h.Ns mainGlobals mg->mg d.name=some (.ref fa)->
   ∃fd:FuncData,(∀(s:Shared)(u:Value),BindsTo s fd ⟨[u],[]⟩ [("script",u)])/\∀base:Heap,(K w.params).In base->base.Ns mainGlobals mg->FnOk l.prog w (K w.params) mg base az 13 fa fd ["script"] (sK (K w.params))):
  PySem.W.WalkO q g p b l.row.toRowW d [] (fun f vs=>PySem.call f vs):=
 L2.C_ (n:=63) (k:=13) (x:="script") (CX:=fun _=>az) (sp:=fun w=>sK (K w.params)) i ξ j ⟨rfl,ξ,ξ⟩ o F (fun _ _ a ns c _ e=>⟨a,ns,rfl,e,c,fun _=>rfl⟩) fun _ _ _ _ _ z=>z
end K55
open PySem PySem.W PyProof.Rows
structure PySem.W.Fast:Prop where
 (tw10031676470222901185 tw10139055510975646681 tw10302056975035354060 tw10334007401169933505 tw10393574555007191455 tw10515661226505064312 tw10536350010676139161 tw10541910870243505545 tw10557509999100486431 tw10645287930890941443 tw10648590376763553267 tw10667811600302405564 tw10704961393189721058 tw10713646478583108699 tw10757449725007183418 tw10811125788752927438 tw10891331359487769031 tw10900343073137834487 tw10917383371114182852 tw11005238043366659028 tw11194964763973729092 tw11236495750425962675 tw11273406852910251355 tw11273721306437310655 tw11307618392852318195 tw11316162991875316679 tw11348443223836809014 tw11369809867822981129 tw11436236137377138517 tw11447388907406028262 tw11563953788189039208 tw11598782708694963214 tw11608973688853957787 tw11731877251453666396 tw1175095777999469361 tw11844609764703766535 tw11849949859020957676 tw11870806760732673877 tw11902234299030732576 tw1195373829191548421 tw12077420489495366198 tw12121984584516061997 tw12156795594298087905 tw12367177652135683942 tw12415093215802464933 tw12428447354694795131 tw12506262014212107078 tw12567911743734931309 tw12582246839413432728 tw12670120655023272488 tw12721938793422325314 tw12730910988335832722 tw12783741861390158687 tw12824753790048681891 tw12837554976141775802 tw12846053047007299733 tw12888753014792995558 tw12928756656885859006 tw12950562395148265487 tw12967405818009632140 tw13106536016985440705 tw13118333784289060616 tw1314562957277392728 tw1315908601950328784 tw13202499765210160042 tw13215962744609499871 tw13254970817604883630 tw13284582941560533404 tw13395804482955019567 tw13405098599776885185 tw1344239666734323925 tw13465324530631536008 tw13496979592546664024 tw13525669592134146049 tw13547133661645784783 tw13617905051310077871 tw13619715574307330596 tw13677335464156521885 tw13691624750490410 tw1371177360222282926 tw13712403561605499687 tw13718266019013369184 tw13760387863199493749 tw13774293420528123140 tw13809783047044836457 tw13905018933990226523 tw13913410559048945549 tw13972044365141488756 tw14056094730832695324 tw14069443832550053458 tw14086524396922324973 tw14219240995086987920 tw14254118197094360549 tw14341448473582714776 tw14342045181966321787 tw14358079671336488362 tw14375955766199104733 tw14448907961140116540 tw14456797034537042259 tw14511835480120647645 tw14513513812374161036 tw14536177249114516503 tw14542411714218425812 tw14595713994623748850 tw1460029718951707856 tw14603420571068334015 tw14634481090545281755 tw14687669273334945581 tw14693706586636036610 tw14777098492420896954 tw14804538957477476109 tw14806061842286943693 tw14818707749781479847 tw14826114300989389471 tw14839281624655296524 tw14870445812996898316 tw14901681886299879610 tw14909602261723434731 tw14940716358155940527 tw14947183819835417356 tw1497679549182640352 tw15097308328533949078 tw15114309055834873099 tw15114808701195682877 tw15145649100702104643 tw15211321189779039633 tw15363667547681351814 tw15367089118274418124 tw15373938604793984693 tw15389563865066318792 tw15404716092343751677 tw15428784368784239758 tw15605906909880506667 tw15658123577637890591 tw15668035555924779259 tw15689169347724577312 tw15696453632519310398 tw15703224182447192042 tw15755160723763218504 tw15833738466980524122 tw15871661442740090317 tw15873152477601198262 tw15928005430730717852 tw15942754020238229621 tw15955309558933011012 tw15963649978259296475 tw1605381766556521453 tw16055217525260935675 tw16062655546984452040 tw1613692855394992181 tw16150956008049177684 tw16172063976013932825 tw16222912793757961831 tw16249099055639148207 tw1625523848145729499 tw16283683086681703590 tw16322705671587861811 tw16325301787539701147 tw16355372173705034361 tw1637266835832058788 tw16391030127951656404 tw16411598461695896322 tw16491431124596228254 tw16523805597412653506 tw16562805758190251323 tw16563701313220304480 tw16567345946944357147 tw16582477467309762128 tw16636553158101258066 tw16677072359492073943 tw16706004876368540947 tw16739545303277019293 tw16771429287321986366 tw16781756289440896371 tw16877505790600542934 tw16919843072077504808 tw16960298153195164294 tw1699288022895602684 tw17002086088110944845 tw1703160694065473991 tw17050983219469169648 tw17060004972346820267 tw17122273638659255336 tw17132297925489006902 tw17133362694559677418 tw17174057555350513313 tw17243789707800580150 tw1725180841375302557 tw17265959313795120565 tw17275344987979690272 tw17278994834127111255 tw17305636181474921750 tw17305680973550666160 tw17420912628067689266 tw17434505994882947870 tw17437907275708589005 tw17458385476765406711 tw17522875394234330697 tw1762507854847362253 tw17719801439843150989 tw17746145826398398302 tw17750531694272761905 tw17750625174911304318 tw17787367085393667612 tw17914037314054494533 tw17946419905202340044 tw17983800704855377383 tw18028237325075383954 tw18048277441036549130 tw18064828906147336137 tw18218490786267221618 tw18256989792240751637 tw18344221486521461407 tw18364593530098417729 tw1838693070685042436 tw1952780522081963489 tw1957967876024643012 tw1964083061174332699 tw2030240313431891179 tw207486535620212785 tw2112496921791526906 tw2115572884714893357 tw2164193382555521597 tw2206139792726572988 tw2286333437911597622 tw2288258281943067321 tw2299129133846100982 tw2317785846918303322 tw2445304550682276124 tw2522040136246577205 tw2524555354775202459 tw2552730382415898149 tw2559897192790711473 tw2598187247279086373 tw260560351594754488 tw2642637000970458585 tw2643932511057392748 tw2723519913017884355 tw2724755237206327965 tw2728125530307617992 tw2741927719072840988 tw2778884667972319834 tw2809887576194538651 tw2826532807314424360 tw2875654488670014902 tw2993295147996264975 tw3008738641461145404 tw304257370394314916 tw3090814376107448145 tw3096739631316077659 tw3113004535197008766 tw3114364000196033507 tw3118484025954915002 tw316140533419553385 tw3161662914146308013 tw3171084402620041691 tw3195456420472523461 tw3197229520081492543 tw3202270299734803779 tw3284272559657896597 tw3285282961042952011 tw3293576711571792750 tw3353989813140199051 tw3373829334113595416 tw3386991647495534068 tw3394376512911903885 tw340704976293531604 tw3445489585649572597 tw3651633797367549738 tw3678437361907163887 tw3752472326339884726 tw3824561369667890751 tw3828104734593114324 tw3831038849683484964 tw3844794482695077765 tw3968096488298073627 tw3988447786947102401 tw4017237781075513000 tw4051400351528775745 tw4079773529942954797 tw4110984077293722292 tw4135639831890044408 tw4243971048732084421 tw425595295588256230 tw4297833628147753483 tw4366617581965215349 tw4421707104127450088 tw4463581083697679933 tw4603283376252895603 tw4606670075305333375 tw4626652873719040492 tw4628419738762133024 tw4642396394775652603 tw4651751173751031177 tw4674786169476795450 tw4857966758418823773 tw4932171994777683505 tw4943360951027496548 tw4964428240606153423 tw4969168253190235105 tw4976025981394074809 tw5054000644961552611 tw5064925672023329093 tw5074795555709274840 tw5105201855448305973 tw5174504981723115949 tw5186894881495127252 tw5192584762768002888 tw5197407990846618980 tw5230653303666793738 tw5238412502762910077 tw5277205819553207864 tw5282725880016608395 tw5565205946904786579 tw5611375091120983404 tw5651161740711970324 tw5765043795188674294 tw5867931640077534975 tw5914037884025033981 tw5958365577884815574 tw6000441181780662617 tw6003922141812250274 tw6024719257674410350 tw6044760943053722659 tw6058103000444484376 tw606975251665910040 tw6078542547853315099 tw6089409031367251022 tw6128050149806394754 tw6175968151189403051 tw6216914648558564538 tw6376716319365488531 tw6438301243333046689 tw6477014565410648814 tw6528280949149389682 tw6553390628399191164 tw6553726856941442420 tw6554449454715250866 tw6607479488614511308 tw6654689034091783723 tw6699268126717941868 tw6745223620971264941 tw6754736852972459459 tw6756942493377368142 tw6780914205323870934 tw6864145876117421613 tw6868495533353502084 tw6871494643075232919 tw696204649850642949 tw7073935016844682326 tw7074118127476332764 tw7103367034507883890 tw718813071843502335 tw7205295189559414209 tw7266440782113979721 tw7277919114973263566 tw7361469965930841520 tw7367193679946956597 tw7475446764851498548 tw7479813849599856445 tw7600112604655311058 tw7838105006510041035 tw7952056916850934880 tw8061420370202893830 tw8143854590303400720 tw8185220997438975937 tw8250369304449623681 tw8331074720715137253 tw8417689836004153274 tw8534913949440753755 tw8573941576351757714 tw8624693084506717525 tw8682419506981472560 tw8693460891090147507 tw8762085142471641438 tw8766242585992070274 tw8833813758576477974 tw8957306739939593623 tw897599463442313832 tw9105824208390949325 tw9107099320533383766 tw9149783896261751032 tw9243744952354218252 tw9299206438748333743 tw9365385274569337331 tw9576213643592187454 tw962455248071097816 tw9655101447156823790 tw965558109937758778 tw9675753858113566592 tw9738803111146463923 tw9754070522336665935 tw9757226720431776340 tw9784147666289955403 tw9859868845325793464 tw9902628165748750050 tw9924799751180834855 tw9941928511061047563:True)
set_option maxRecDepth 100000 in
set_option maxHeartbeats 0 in
theorem PySem.Challenge.cw_seamwright_k55_one_map_behind_another_holds : PySem.Challenge.rw_seamwright_k55_one_map_behind_another.Holds := by
 w_on; o_law; k_head; (case hw=>w_witness2)
 k_fill
 refine K55.walk (l:=PySem.Challenge.rw_seamwright_k55_one_map_behind_another) rfl rfl (fun w h Y=>PySem.W.kIn_of Y) ?F
 case F=>
  intro w mg fa h KX G iF;refine' K55.Oo KX G iF ?_ ?_ ?_ ?_ ?_ ?_ ?_ ?_ ?_ ?_ ?_ ?_ ?_ ?_ ?_ ?_ ?_ ?_ ?_ ?_ ?_ ?_ ?_ ?_ ?_ ?_ ?_ ?_ ?_ ?_ ?_ ?_ ?_ ?_ ?_ ?_ ?_ ?_ ?_ ?_ ?_ ?_ ?_ ?_ ?_ ?_ ?_ ?_ ?_ ?_ ?_ ?_ ?_ ?_ ?_ ?_ ?_ ?_ ?_ ?_ ?_ ?_ ?_ ?_ ?_ ?_ ?_ ?_ ?_ ?_ ?_ ?_ ?_ ?_
  all_goals try first | refine' L2.Cn ?_ ?_ ?_ ?_ | refine' L2.Nn.mk ?_ | refine' K55.NY ?_ ?_ ?_ ?_ ?_ ?_ ?_ ?_ ?_ ?_ ?_ ?_ ?_ ?_ ?_ ?_ ?_ ?_ ?_ ?_ | refine' L2.NE ?_ ?_ ?_
  all_goals try first | k_is | kit_is | k_exc
#print axioms PySem.Challenge.cw_seamwright_k55_one_map_behind_another_holds
end
