import PyProof.Rows.All
import Wide.All
import OpenK.AllK
import Wide.FinOn
import Lean
import PyProof.EqAt
import PyProof.EqKinds
import PyProof.TupleCall
import PyProof.Rows.SortRuns
import KE.KSortKey
import KE.KListMore
import KE.KIntText
import KE.KEqDat
import PyProof.Rows.CallKwBuiltin
import PySem.SetTable
import PyProof.Rows.SetFrom
import PyProof.TupleKey
import PyProof.IsRules
import KE.KRevIter
import PyProof.ListRange
import PyProof.TupleOfGen
import PyProof.CollectIter
import PySem.Challenge.RW_seamwright_k51_pushes_refused_everywhere
import KE.KDictLaws
import PyProof.DictWalks
import PyProof.DictItems
import PyProof.MinMaxWalk
import PyProof.SumAny
import PyProof.SetNew
import PyProof.DictCopy
import PyProof.FactsAll.dict_1
import PyProof.FactsAll.set_2
import PyProof.FactsAll.subtypes_5
import PyProof.AttrMissHeap
import PyProof.NeKinds
import PyProof.StationsW
import PyProof.ExcClass3
import OpenK.KOwn
import PyProof.ExcArgsOwn
open PySem renaming wpAny_bind->Aa,wpAny_pure->Ad,tupleKeyHash->Ay,wpAny_field->AR,IsTupleKey->AU,bootBuiltins->AV,wpAny_newObj_type->AW,wpAny_holding->A0,wpAny_setField_rec->A2,compareOp->A6,wpAny_call_entry->A8
open List renaming length_map->Ab,length_append->Af,map_append->Ah,size_toArray->Ai,getElem?_eq_getElem->Aj,length_cons->Am,mem_of_getElem?->An,getElem?_map->Ao,mem_cons_self->Ar,mem_cons_of_mem->At,take_of_length_le->Au,length_take->Av,mem_append_left->Aw,mem_append_right->Az,map_map->AC,map_cons->AF,append_assoc->AG,length_singleton->AK,nodup_append->AM,range->AQ,append_nil->AT,replicate->A5,lookup_cons->A9
open PySem.W renaming Frag->Ac,kitOne->A4
open PySem.Heap renaming get?_push_of_some->Ae,lt_size->Ap,get?_push_size->Aq,SameBut->AS
open Nat renaming le_refl->Ag,ne_of_lt->AA,le_trans->AB,lt_of_lt_of_le->AD,zero_le->AY
open Bool renaming false_ne_true->Ak,false_eq_true->Al,and_eq_true->AL
open Option.some renaming inj->As
open Array renaming length_toList->Ax,getElem?_toList->AH,toList_append->A3
open PySem.PassesOwn renaming never->AE
open PyProof.Rows renaming take_snoc->AI,pendingOf->AJ
open PySem.F renaming plainAttrs_list->AN
open PySem.Obj renaming mapSeq->AO
open PySem.Heap.SameBut renaming update->AX
open Int renaming le_trans->AZ
open PySem.Paired renaming length->A1
open PySem.PyData renaming int->A7
set_option linter.all false
set_option Elab.async false
set_option maxRecDepth 100000
set_option maxHeartbeats 4000000
def δ{p:Prop}(h:p:=by decide +kernel):p:=h
def ω{p:Prop}(h:p:=by (first|lia|omega)):p:=h
def ξ{p:Prop}(h:p:=by decide):p:=h
abbrev Ω:=PySem.Value->PySem.Shared->Prop
abbrev Ξ:=List (List Int)
abbrev Ψ:=List (PySem.Addr×PySem.Obj)
local macro_rules|`($s⁻¹)=>`(($s).heap.objs.size)
section
namespace L2
open PySem PySem.Spec PyProof.Rows
abbrev Key:=Sum Int Str
def md:Key->Value->Bool
 |.inl k,v=>Value.isInt k v
 |.inr x,v=>Value.isStrOf x v
def xD(w:World):Key->Int
 |.inl k=>hashInt k
 |.inr x=>hashStr w x
def a7:∀{k:Key}{v:Value},md k v=true->(∃i t,k=Sum.inl i/\v=Value.int i t)\/(∃x t,k=Sum.inr x/\v=Value.str x t)
 |.inl i,v,h=>by
  obtain⟨t,e⟩:=Value.isInt_shape (k:=i) (v:=v) h;exact .inl ⟨i,t,rfl,e⟩
 |.inr x,v,h=>by
  obtain⟨t,e⟩:=Value.isStrOf_shape (x:=x) (v:=v) h;exact .inr ⟨x,t,rfl,e⟩
def Ji(i:Int)(t:Tok):md (.inl i) (.int i t)=true:=by simp[md,Value.isInt]
def Jj(x:Str)(t:Tok):md (.inr x) (.str x t)=true:=by simp[md,Value.isStrOf]
def Jk(a b:Int):decide ((Sum.inl a:Key)=Sum.inl b)=(a==b):=by
 by_cases e:a=b
 ·subst e;simp
 ·have h:¬(Sum.inl a:Key)=Sum.inl b:=fun q=>e (Sum.inl.inj q)
  rw[decide_eq_false h];exact(beq_eq_false_iff_ne.mpr e).symm
def Jl(a b:Str):decide ((Sum.inr a:Key)=Sum.inr b)=decide (a=b):=by
 by_cases e:a=b
 ·subst e;simp
 ·have h:¬(Sum.inr a:Key)=Sum.inr b:=fun q=>e (Sum.inr.inj q)
  rw[decide_eq_false h,decide_eq_false e]
def Jm(a:Int)(b:Str):decide ((Sum.inl a:Key)=Sum.inr b)=false:=decide_eq_false (fun q=>nomatch q)
def Jo(a:Str)(b:Int):decide ((Sum.inr a:Key)=Sum.inl b)=false:=decide_eq_false (fun q=>nomatch q)
def zy(prog:Program)(w:World):PySem.KeyKind prog w Key where
 is:=md
 hash:=xD w
 inj:=fun v a b ha hb=>by
  rcases a7 ha with ⟨i,t,rfl,rfl⟩|⟨x,t,rfl,rfl⟩
  ·rcases a7 hb with ⟨j,u,rfl,e⟩|⟨y,u,rfl,e⟩
   ·injection e with e1 _;rw[e1]
   ·exact nomatch e
  ·rcases a7 hb with ⟨j,u,rfl,e⟩|⟨y,u,rfl,e⟩
   ·exact nomatch e
   ·injection e with e1 _;rw[e1]
 byValue:=fun k v h=>by
  rcases a7 h with ⟨i,t,rfl,rfl⟩|⟨x,t,rfl,rfl⟩<;>rfl
 pyHash:=fun c h=>by
  rcases a7 c with ⟨i,t,rfl,rfl⟩|⟨x,t,rfl,rfl⟩
  ·exact wpAny_pyHash_int h
  ·exact wpAny_pyHash_str h
 eqBool:=fun hu c h=>by
  rcases a7 hu with ⟨i,t,rfl,rfl⟩|⟨x,t,rfl,rfl⟩
  ·rcases a7 c with ⟨j,u,rfl,rfl⟩|⟨y,u,rfl,rfl⟩
   ·rw[Jk] at h;exact wpAny_eqBool_int h
   ·rw[Jm] at h;exact SeqAt.EqAt.int_str i t y u _ _ _ _ h
  ·rcases a7 c with ⟨j,u,rfl,rfl⟩|⟨y,u,rfl,rfl⟩
   ·rw[Jo] at h;exact SeqAt.EqAt.str_int x t j u _ _ _ _ h
   ·rw[Jl] at h;exact wpAny_eqBool_str h
 «strs»:=fun k x t v h=>by
  rcases a7 h with ⟨i,u,rfl,e⟩|⟨y,u,rfl,e⟩
  ·exact nomatch e
  ·injection e with e1 _
   subst e1;cases v<;>rfl
def xS(prog:Program)(w:World)(i:Int)(t:Tok):(zy prog w).is (.inl i) (.int i t)=true:=Ji i t
def Jp(prog:Program)(w:World)(x:Str)(t:Tok):(zy prog w).is (.inr x) (.str x t)=true:=Jj x t
inductive V where
 |non|bl (b:Bool)|int (i:Int)|str (x:Str)|byt (b:Array UInt8)|flt (b:UInt64)|ref (a:Addr)|ty (n:String)
 deriving DecidableEq
def RelV:V->Value->Prop
 |.non,u=>u=Value.none
 |.bl b,u=>u=Value.bool b
 |.int i,u=>∃t,u=Value.int i t
 |.str x,u=>∃t,u=Value.str x t
 |.byt b,u=>∃t,u=Value.bytes b t
 |.flt b,u=>∃t,u=Value.float b t
 |.ref a,u=>u=Value.ref a
 |.ty n,u=>u=Value.type n
abbrev Vals:List V->List Value->Prop:=Paired RelV
def Vals.length{xs:List V}{us:List Value}(r:Vals xs us):xs.length=us.length:=A1 r
def Vals.get:∀{xs:List V}{us:List Value}{i:Nat}{x:V},Vals xs us->xs[i]?=some x->∃u,us[i]?=some u/\RelV x u
 |_,_,_,_,.nil,e=>by simp at e
 |_,_,0,_,.cons r _,e=>by simp at e;subst e;exact⟨_,rfl,r⟩
 |_,_,i+1,x,.cons _ t,e=>by
  obtain⟨u,h1,h2⟩:=Vals.get (i:=i) (x:=x) t (by simpa using e);exact⟨u,by simpa using h1,h2⟩
def Vals.set{x:V}{u:Value}(r:RelV x u):∀{xs:List V}{us:List Value}(i:Nat),Vals xs us->Vals (xs.set i x) (us.set i u)
 |_,_,_,.nil=>.nil
 |_,_,0,.cons _ t=>.cons r t
 |_,_,i+1,.cons q t=>.cons q (Vals.set r i t)
def Vals.append{xs ys:List V}{us a:List Value}(h:Vals xs us)(g:Vals ys a):Vals (xs++ys) (us++a):=by
 induction h with
 |nil=>exact g
 |cons r _ ih=>exact .cons r ih
def Vals.take:∀{xs:List V}{us:List Value}(n:Nat),Vals xs us->Vals (xs.take n) (us.take n)
 |_,_,0,_=>.nil
 |_,_,_+1,.nil=>.nil
 |_,_,n+1,.cons r t=>.cons r (Vals.take n t)
def Vals.drop:∀{xs:List V}{us:List Value}(n:Nat),Vals xs us->Vals (xs.drop n) (us.drop n)
 |_,_,0,r=>r
 |_,_,_+1,.nil=>.nil
 |_,_,n+1,.cons _ t=>Vals.drop n t
def Vals.none_of:∀{xs:List V}{us:List Value}{i:Nat},Vals xs us->xs[i]?=none->us[i]?=none:=fun{xs us i} r e=>by
 have h1:=r.length;have h2:xs.length<=i:=List.getElem?_eq_none_iff.mp e;exact List.getElem?_eq_none_iff.mpr ω
def RelO:Option V->Option Value->Prop
 |some v,some u=>RelV v u
 |none,none=>True
 |_,_=>False
def KV{κ:Type}:List (κ×V)->List (κ×Value)->Prop:=Paired fun(p:κ×V)(q:κ×Value)=>p.1=q.1/\RelV p.2 q.2
def kV:Key->V
 |.inl i=>.int i
 |.inr x=>.str x
inductive HO where
 |lst (xs:List V)
 |tup (xs:List V)
 |dK (kvs:List (Key×V))|dT (kvs:List (List Key×V))
 |set (S:Int->Bool) (n:Nat)
 |ins (C dx:Addr) (fs:List (Str×V))
 |own (x:Addr)
 |xd (fs:List (Str×V))
 |met (f x:Addr)
 |rng (lo hi:Int)
 |frz (o:Obj) (u:HO)
 |tbl (ps:Array Value)
 |ext (φ:Heap->Prop)
abbrev Hp:=Addr->Option HO
def upd(H:Hp)(a:Addr)(o:HO):Hp:=fun b=>if b=a then some o else H b
def al{H:Hp}{a:Addr}{o:HO}:upd H a o a=some o:=by unfold upd;rw[if_pos rfl]
def au{H:Hp}{a b:Addr}{o:HO}(h:b≠a):upd H a o b=H b:=by unfold upd;rw[if_neg h]
def dg{H:Hp}{a b:Addr}{o u:HO}(h:H a=some o)(h':H b=some u)(d:o≠u):a≠b:=by
 intro e;subst e;rw[h] at h';exact d (As h')
def zh{H:Hp}{a b:Addr}{o:HO}(h:H a=some o)(h':H b=none):a≠b:=by
 intro e;subst e;rw[h] at h';cases h'
section
variable(P:Program)(w:World)
def zT(H:Hp)(h:Heap)(a:Addr):HO->Prop
 |.lst xs=>xs.length<=sizeLine/\∃(c:List Value)(n:Nat),Vals xs c/\h.get? a=some {cls:=.type "list",data:=.seq c.toArray n}
 |.tup xs=>xs.length<=sizeLine/\∃c:List Value,Vals xs c/\IsTup h a c.toArray
 |.dK kvs=>kvs.length<=sizeLine/\(a==sysModules)=false/\∃vs,KV kvs vs/\h.DictOf (zy P w) a vs
 |.dT kvs=>kvs.length<=sizeLine/\(a==sysModules)=false/\∃xs:List (List Key×Addr×Value),
   Paired (fun(p:List Key×V)(q:List Key×Addr×Value)=>p.1=q.1/\H q.2.1=some (.tup (p.1.map kV))/\RelV p.2 q.2.2) kvs xs/\
   ∃o es ep,h.get? a=some o/\o.ExactDict/\o.data=.dict es ep/\es.toList=xs.map (entryOfKey (tupleKind (zy P w)))/\(xs.map (·.1)).Nodup
 |.set S n=>h.SetOf (intKind P w) a S n
 |.ins C dx fs=>H dx=some (.own a)/\fs.length<=1000/\dx≠a/\h.get? a=some (PySem.W.instObj C dx)/\
   ∃mA,h.Ns1 dx mA/\(∀f,RelO (fs.lookup f) (mA f))/\PySem.Within mA (fs.map (·.1))
 |.own _=>∃o,h.get? a=some o
 |.xd fs=>∃mA,h.Ns1 a mA/\∀f,RelO (fs.lookup f) (mA f)
 |.rng lo hi=>∃t u v,h.get? a=some {cls:=.type "range",data:=.fields #[.int lo t,.int hi u,.int 1 v]}
 |.frz o u=>h.get? a=some o/\zT H h a u
 |.tbl ps=>h.get? a=some {cls:=.none,data:=.fields ps}
 |.met f x=>h.get? a=some (PySem.W.methodObj (.ref f) (.ref x))
 |.ext φ=>φ h/\(∃o,h.get? a=some o)/\∀h1 h2:Heap,φ h1->(∀o,h1.get? a=some o->h2.get? a=some o)->φ h2
def HOk(H:Hp)(h:Heap):Prop:=∀a o,H a=some o->zT P w H h a o
end
section
variable{P:Program}{w:World}{H H':Hp}{h h':Heap}{a:Addr}{o:HO}
def zT.lt(x:zT P w H h a o):a<h.objs.size:=by
 cases o with
 |lst xs=>obtain⟨_,_,_,_,e⟩:=x;exact Ap e
 |tup xs=>obtain⟨_,_,_,p⟩:=x;exact p.lt
 |dK kvs=>obtain⟨_,_,_,_,o,_,_,e,_⟩:=x;exact Ap e
 |dT kvs=>obtain⟨_,_,_,_,o,_,_,e,_⟩:=x;exact Ap e
 |set S n=>obtain⟨o,_,_,_,e,_⟩:=x;exact Ap e
 |ins C dx fs=>obtain⟨_,_,_,e,_⟩:=x;exact Ap e
 |own y=>obtain⟨_,e⟩:=x;exact Ap e
 |xd fs=>obtain⟨_,⟨_,_,_,e,_⟩,_⟩:=x;exact Ap e
 |rng lo hi=>obtain⟨_,_,_,e⟩:=x;exact Ap e
 |frz ob u=>obtain⟨e,_⟩:=x;exact Ap e
 |tbl ps=>exact Ap (show h.get? a=some _ from x)
 |met f y=>exact Ap (show h.get? a=some _ from x)
 |ext φ=>obtain⟨_,⟨_,e⟩,_⟩:=x;exact Ap e
def Paired.mapP{c d:Type}{F G:c->d->Prop}{l₁:List c}{l₂:List d}(h:Paired F l₁ l₂)(f:∀a b,F a b->G a b):Paired G l₁ l₂:=by
 induction h with
 |nil=>exact .nil
 |cons r _ ih=>exact .cons (f _ _ r) ih
def zT.stay(x:zT P w H h a o)(k:∀b u,(b=a\/H b=some (.own a))->h.get? b=some u->h'.get? b=some u)(j:∀b,H b=some (.own a)->H' b=some (.own a))(ht:∀b xs,H b=some (.tup xs)->H' b=some (.tup xs)):zT P w H' h' a o:=by
 induction o with
 |lst xs=>obtain⟨z,g,n,r,e⟩:=x;exact⟨z,g,n,r,k _ _ (.inl rfl) e⟩
 |tup xs=>obtain⟨z,g,r,ob,e,c⟩:=x;exact⟨z,g,r,ob,k _ _ (.inl rfl) e,c⟩
 |dK kvs=>obtain⟨z,y,vs,r,ob,es,ep,e,c⟩:=x;exact⟨z,y,vs,r,ob,es,ep,k _ _ (.inl rfl) e,c⟩
 |dT kvs=>
  obtain⟨z,y,xs,r,ob,es,ep,e,c⟩:=x;exact⟨z,y,xs,Paired.mapP r fun p q z=>⟨z.1,ht _ _ z.2.1,z.2.2⟩,ob,es,ep,k _ _ (.inl rfl) e,c⟩
 |set S n=>obtain⟨ob,es,ep,t,e,c⟩:=x;exact⟨ob,es,ep,t,k _ _ (.inl rfl) e,c⟩
 |ins C dx fs=>
  obtain⟨d,z,ne,e,mA,⟨i,es,ep,e2,c⟩,r⟩:=x;exact⟨j _ d,z,ne,k _ _ (.inl rfl) e,mA,⟨i,es,ep,k _ _ (.inr d) e2,c⟩,r⟩
 |own y=>obtain⟨ob,e⟩:=x;exact⟨ob,k _ _ (.inl rfl) e⟩
 |xd fs=>obtain⟨mA,⟨i,es,ep,e,c⟩,r⟩:=x;exact⟨mA,⟨i,es,ep,k _ _ (.inl rfl) e,c⟩,r⟩
 |rng lo hi=>obtain⟨t,u,v,e⟩:=x;exact⟨t,u,v,k _ _ (.inl rfl) e⟩
 |frz ob u ih=>obtain⟨e,q⟩:=x;exact⟨k _ _ (.inl rfl) e,ih q⟩
 |tbl ps=>
  have e:h.get? a=some {cls:=.none,data:=.fields ps}:=x;show h'.get? a=some {cls:=.none,data:=.fields ps};exact k a _ (.inl rfl) e
 |met f y=>
  have e:h.get? a=some (PySem.W.methodObj (.ref f) (.ref y)):=x;show h'.get? a=some (PySem.W.methodObj (.ref f) (.ref y));exact k a _ (.inl rfl) e
 |ext φ=>obtain⟨p,⟨o,e⟩,st⟩:=x;exact⟨st _ _ p fun o q=>k _ _ (.inl rfl) q,⟨o,k _ _ (.inl rfl) e⟩,st⟩
def HOk.lt(x:HOk P w H h)(e:H a=some o):a<h.objs.size:=(x a o e).lt
def HOk.fresh(x:HOk P w H h)(e:h.objs.size<=a):H a=none:=by
 cases q:H a with
 |none=>rfl
 |some u=>exact absurd (AD (x.lt q) e) (Nat.lt_irrefl _)
def HOk.kept(x:HOk P w H h)(k:∀b u,h.get? b=some u->h'.get? b=some u):HOk P w H h':=fun a o e=>
 (x a o e).stay (fun b u _ q=>k b u q) (fun _ q=>q) fun _ _ q=>q
def HOk.laid(x:HOk P w H h)(k:∀b u,h.get? b=some u->h'.get? b=some u)(hp:h.objs.size<=a)(new:zT P w (upd H a o) h' a o):HOk P w (upd H a o) h':=fun b u e=>by
 have d:=x.fresh hp
 by_cases hb:b=a
 ·subst hb;rw[al] at e;cases e;exact new
 ·rw[au hb] at e
  exact(x b u e).stay (fun c v _ q=>k c v q) (fun c q=>by rw[au (zh q d)];exact q) fun c xs q=>by rw[au (zh q d)];exact q
end
def Rd(H:Hp)(a:Addr)(u:HO):Prop:=H a=some u\/∃o,H a=some (.frz o u)
def Rd.of{H:Hp}{a:Addr}{u:HO}(h:H a=some u):Rd H a u:=.inl h
def Rd.ok{P:Program}{w:World}{H:Hp}{h:Heap}{a:Addr}{u:HO}(r:Rd H a u)(x:HOk P w H h):zT P w H h a u:=by
 rcases r with r|⟨o,r⟩
 ·exact x a u r
 ·obtain⟨_,q⟩:=x a _ r
  exact q
def oK:Option HO->Prop
 |some (.lst _)=>True
 |some (.dK _)=>True
 |some (.dT _)=>True
 |some (.set _ _)=>True
 |some (.ins _ _ _)=>True
 |some (.ext _)=>True
 |_=>False
section
variable{P:Program}{w:World}{H:Hp}{h h':Heap}{x e:Addr}{o':HO}
def HOk.write(ok:HOk P w H h)(g:oK (H x))(he:e=x\/H e=some (.own x))(k:∀b u,b≠e->h.get? b=some u->h'.get? b=some u)(l:∃u,h'.get? e=some u)(new:zT P w (upd H x o') h' x o'):HOk P w (upd H x o') h':=fun b u q=>by
 have d:∀c y,H c=some (.own y)->c≠x:=fun c y r z=>by subst z;rw[r] at g;exact g
 have f:∀c xs,H c=some (.tup xs)->c≠x:=fun c xs r z=>by subst z;rw[r] at g;exact g
 by_cases hb:b=x
 ·subst hb;rw[al] at q;cases q;exact new
 ·rw[au hb] at q
  by_cases a:b=e
  ·have i:H b=some (.own x):=by
    rcases he with z|z
    ·exact absurd (a.trans z) hb
    ·rw[a];exact z
   rw[q] at i;cases i;obtain⟨v,j⟩:=l;exact⟨v,by rw[a];exact j⟩
  ·refine(ok b u q).stay (fun c v hc r=>k c v ?_ r) (fun c r=>by rw[au (d c b r)];exact r) fun c xs r=>by rw[au (f c xs r)];exact r
   rcases hc with rfl|hc
   ·exact a
   ·rintro rfl
    rcases he with z|z
    ·exact d c b hc z
    ·rw[hc] at z;cases z;exact hb rfl
end
structure Un(fs ex:List Addr)(H H':Hp)(h h':Heap):Prop where
 keep:∀b o,h.get? b=some o->H b=none->b∉fs->b∉ex->h'.get? b=some o
 slot:∀b o,h.get? b=some o->H b=none->b∈fs->b∉ex->∃sl,h'.get? b=some {o with slots:=sl}
 free:∀b o,h.get? b=some o->H b=none->b∉ex->H' b=none
 there:∀b o,h.get? b=some o->b∉ex->∃o',h'.get? b=some o'
 tups:∀b xs,H b=some (.tup xs)->H' b=some (.tup xs)
 frzs:∀b o u,H b=some (.frz o u)->H' b=some (.frz o u)
 tbls:∀b ps,H b=some (.tbl ps)->∃more,H' b=some (.tbl (ps++more))
section
variable{fs pe ex DZ:List Addr}{H H1 H2:Hp}{h h1 h2 h':Heap}{a x e:Addr}{o:HO}
def Un.any(u:Un fs ex H H1 h h1){b:Addr}{ob:Obj}(q:h.get? b=some ob)(n:H b=none)(hx:b∉ex):∃a,h1.get? b=some {ob with slots:=a}:=by
 by_cases hb:b∈fs
 ·exact u.slot b ob q n hb hx
 ·exact⟨ob.slots,u.keep b ob q n hb hx⟩
def Un.kept(k:∀b u,h.get? b=some u->h'.get? b=some u):Un fs ex H H h h':=
 ⟨fun b ob q _ _ _=>k b ob q,fun b ob q _ _ _=>⟨ob.slots,k b ob q⟩,fun _ _ _ n _=>n,fun b ob q _=>⟨ob,k b ob q⟩,fun _ _ q=>q,fun _ _ _ q=>q,fun _ ps q=>⟨#[],by rw[q];simp⟩⟩
def Un.refl:Un fs ex H H h h:=Un.kept fun _ _ q=>q
def Un.laid(k:∀b u,h.get? b=some u->h'.get? b=some u)(hp:h.objs.size<=a)(c:H a=none):Un fs ex H (upd H a o) h h' where
 keep:=fun b u q _ _ _=>k b u q
 slot:=fun b u q _ _ _=>⟨u.slots,k b u q⟩
 free:=fun b u q n _=>by rw[au (AA (AD (Ap q) hp))];exact n
 there:=fun b u q _=>⟨u,k b u q⟩
 tups:=fun b xs q=>by rw[au (zh q c)];exact q
 frzs:=fun b u xs q=>by rw[au (zh q c)];exact q
 tbls:=fun b ps q=>⟨#[],by rw[au (zh q c),q];simp⟩
def Un.write(c:oK (H x))(he:e=x\/H e=some (.own x))(k:∀b u,b≠e->h.get? b=some u->h'.get? b=some u)(d:∃u,h'.get? e=some u):Un fs ex H (upd H x o) h h':=by
 have hx:∀b,H b=none->b≠x:=fun b n z=>by subst z;rw[n] at c;exact c
 have hb:∀b,H b=none->b≠e:=fun b n z=>by
  subst z;rcases he with r|r
  ·exact hx b n r
  ·rw[n] at r;cases r
 have hm:∀b u,H b=some u->¬oK (some u)->b≠x:=fun b u q nm z=>by subst z;rw[q] at c;exact nm c
 refine⟨fun b u q n _ _=>k b u (hb b n) q,fun b u q n _ _=>⟨u.slots,k b u (hb b n) q⟩,fun b u q n _=>by rw[au (hx b n)];exact n,fun b u q _=>?_,
  fun b xs q=>by rw[au (hm b _ q fun z=>z)];exact q,fun b u xs q=>by rw[au (hm b _ q fun z=>z)];exact q,fun b ps q=>⟨#[],by rw[au (hm b _ q fun z=>z),q];simp⟩⟩
 by_cases a:b=e
 ·subst a;exact d
 ·exact⟨u,k b u a q⟩
end
def ry(h:Heap)(H:Hp):List Addr:=(AQ h.objs.size).filter fun a=>(H a).isSome
def du(h:Heap)(H:Hp):Heap:=PySem.W.hideAll h (ry h H)
def Jq(h:Heap)(H:Hp):(du h H).objs.size=h.objs.size:=PySem.W.hideAll_size _ _
def Jr{h:Heap}{H:Hp}{b:Addr}{o:Obj}(e:h.get? b=some o)(n:H b=none):(du h H).get? b=some o:=
 PySem.W.hideAll_get _ e fun hm=>by
  have q:(H b).isSome=true:=(List.mem_filter.mp hm).2;rw[n] at q;simp at q
def Js{h:Heap}{H:Hp}{b:Addr}{o:Obj}(e:(du h H).get? b=some o):h.get? b=some o/\H b=none:=by
 have e':h.get? b=some o:=PySem.W.of_hideAll (ry h H) e;refine⟨e',?_⟩;cases q:H b with
 |none=>rfl
 |some x=>
  have hm:b∈ry h H:=List.mem_filter.mpr ⟨List.mem_range.mpr (Ap e'),by simp[q]⟩;have z:(du h H).get? b=none:=PySem.W.hideAll_none (ry h H) hm;rw[z] at e;cases e
def Jt(g h:Heap)(L:Addr):Ψ:=(AQ h.objs.size).filterMap fun a=>if a=L\/(g.get? a).isSome=true then none else(h.get? a).map fun o=>(a,o)
def rest(g h:Heap)(L d:Addr):Ψ:=(Jt g h L).filter fun p=>decide (p.1≠d)
structure Mod(K:Ac)(mg:Str->Option Value)(base:Heap):Prop where
 kin:K.In base
 glob:base.Ns mainGlobals mg
 blt:∃mb,base.Ns builtinsNs mb/\∀x:Str,x≠"__name__"->mb x=AV x
 nolimit:base.NoLimit
structure Cx where
 prog:Program
 w:World
 K:Ac
 mg:Str->Option Value
 base:Heap
 A:Around
 N:List Str
 s₀:Shared
 H₀:Hp
 env:Env
 outer:List Env
 stack:List Env
 ex:List Addr
 fn:Str->Bool
 calm:Bool
 pn:Ψ
 xe:Ω
def frs(l:List Env):List Addr:=l.filterMap (·.frame)
abbrev Cx.fs(X:Cx):List Addr:=frs X.outer
def oM(a:Scope)(x:Str):Prop:=a.names.lookup x=some .local\/a.names.lookup x=some .cell\/a.names.lookup x=some .free
def Loc(a:Scope)(x:Str):Prop:=a.names.lookup x=some .local\/a.names.lookup x=some .cell
def Look(env:Env)(h:Heap)(m:Str->Option Value)(x:Str)(u:Value):Prop:=
 (env.kindOf x=some .local/\m x=some u)\/((env.kindOf x=some .cell\/env.kindOf x=some .free)/\∃c,env.cells.lookup x=some c/\h.IsCell c (some u))
structure Cx.Ok(X:Cx):Prop where
 mod:Mod X.K X.mg X.base
 kind:X.env.scope.kind=.function
 glob:X.env.globals=mainGlobals
 blt:X.env.builtins=builtinsNs
 above:X.s₀⁻¹<=X.env.locals
 inj:∀x y c,X.env.cells.lookup x=some c->X.env.cells.lookup y=some c->x=y
 has:∀x,(X.env.kindOf x=some .cell\/X.env.kindOf x=some .free)->∃c,X.env.cells.lookup x=some c
 cab:∀x c,X.fn x=true->X.env.cells.lookup x=some c->X.s₀⁻¹<=c
 hd:X.calm=true->X.A.handled=none
 frames:X.A.frames=some X.stack
 stk:X.stack=X.outer\/(X.stack=X.env::X.outer/\X.env.frame=some X.env.locals)
 exf:∀b∈X.ex,b≠X.env.locals/\∀x c,X.env.cells.lookup x=some c->c≠b
 bs:∀b o,X.base.get? b=some o->X.s₀.heap.get? b=some o/\X.H₀ b=none
 bsz:X.base.objs.size<=X.s₀⁻¹
 noex:∀b o,X.base.get? b=some o->b∉X.ex
 exfs:∀b∈X.ex,b∉X.fs
 funs:X.s₀.heap.FunFrames X.base X.outer
 frf:∀b∈X.fs,X.H₀ b=none
structure Inv(X:Cx)(aa:Ψ)(σ:List (Option V))(H:Hp)(s:Shared):Prop where
 ok:X.Ok
 os:s.os=X.s₀.os
 bare:AllBare s.gens
 base:Un X.fs X.ex X.H₀ H X.s₀.heap s.heap
 loc:∃m,s.heap.Ns X.env.locals m/\∀(i:Nat)(x:Str)(v:V),X.N[i]?=some x->σ[i]?=some (some v)->oM X.env.scope x->∃u,RelV v u/\Look X.env s.heap m x u
 cell:∀x c,X.env.cells.lookup x=some c->∃v,s.heap.IsCell c v
 free:H X.env.locals=none
 freeC:∀x c,X.env.cells.lookup x=some c->H c=none
 pin:∀p∈X.pn++aa,s.heap.get? p.1=some p.2/\H p.1=none/\p.1≠X.env.locals/\p.1∉X.fs/\∀v,p.2.data≠.cell v
 hok:HOk X.prog X.w H s.heap
 len:σ.length=X.N.length
section
variable{X:Cx}{aa:Ψ}{σ:List (Option V)}{H H':Hp}{s:Shared}{h':Heap}
def Cx.Ok.nofr(ok:X.Ok){b:Addr}{o:Obj}(e:X.base.get? b=some o):b∉X.fs:=fun hb=>by
 have:=(ok.funs.mem hb).1;rw[e] at this;cases this
def Inv.bs(I:Inv X aa σ H s):∀b o,X.base.get? b=some o->s.heap.get? b=some o/\H b=none:=fun b o e=>
 ⟨I.base.keep b o (I.ok.bs b o e).1 (I.ok.bs b o e).2 (I.ok.nofr e) (I.ok.noex b o e),I.base.free b o (I.ok.bs b o e).1 (I.ok.bs b o e).2 (I.ok.noex b o e)⟩
def Inv.bk(I:Inv X aa σ H s):∀b o,X.base.get? b=some o->s.heap.get? b=some o:=fun b o e=>(I.bs b o e).1
def Inv.mod(I:Inv X aa σ H s):Mod X.K X.mg X.base:=I.ok.mod
def Inv.kIn(I:Inv X aa σ H s):X.K.In s.heap:=I.ok.mod.kin.keeps I.bk
def Inv.nolimit(I:Inv X aa σ H s):s.heap.NoLimit:=I.ok.mod.nolimit.keeps I.bk
def Inv.fr(I:Inv X aa σ H s):∃m,Fr X.base X.env.locals s.heap m:=
 let ⟨m,hn,_⟩:=I.loc
 ⟨m,hn,I.bk,AB I.ok.bsz I.ok.above⟩
def Inv.lt(I:Inv X aa σ H s):X.env.locals<s⁻¹:=let ⟨_,hn,_⟩:=I.loc;hn.lt
def Inv.sz(I:Inv X aa σ H s):X.s₀⁻¹<=s⁻¹:=AB I.ok.above (Nat.le_of_lt I.lt)
def Inv.nofs(I:Inv X aa σ H s){a:Addr}(h:s⁻¹<=a):a∉X.fs:=fun hb=>by
 obtain⟨_,o,c,_⟩:=I.ok.funs.mem hb;exact absurd (AD (Ap c) (AB I.sz h)) (Nat.lt_irrefl _)
def Inv.cne(I:Inv X aa σ H s):∀x c,X.env.cells.lookup x=some c->c≠X.env.locals:=fun x c e z=>by
 obtain⟨v,o,f,hd⟩:=I.cell x c e;obtain⟨m,⟨o',es,ep,a,d,_⟩,_⟩:=I.loc;rw[z,a] at f;cases f;rw[d] at hd;cases hd
def Inv.funs(I:Inv X aa σ H s):s.heap.FunFrames X.base X.outer:=by
 have all:∀(l:List Env),(∀b∈frs l,b∈X.fs)->X.s₀.heap.FunFrames X.base l->s.heap.FunFrames X.base l:=by
  intro l
  induction l with
  |nil=>intro _ _;trivial
  |cons env r ih=>
   intro hs c;obtain⟨hk,⟨L,o,hf,d,f,hd⟩,hr⟩:=c;have a:L∈X.fs:=hs L (by unfold frs;rw[List.filterMap_cons,hf];exact Ar);obtain⟨g,e⟩:=I.base.slot L o f (I.ok.frf L a) a fun z=>I.ok.exfs L z a;exact⟨hk,⟨L,_,hf,d,e,hd⟩,ih (fun b hb=>hs b (by unfold frs;rw[List.filterMap_cons,hf];exact At _ hb)) hr⟩
 exact all X.outer (fun _ hb=>hb) I.ok.funs
def Inv.stack(I:Inv X aa σ H s):s.heap.FunFrames X.base X.stack:=by
 rcases I.ok.stk with e|⟨e,hf⟩
 ·rw[e];exact I.funs
 ·rw[e]
  obtain⟨m,a,_⟩:=I.loc;refine .cons (by rw[I.ok.kind];decide) hf a ?_ I.funs;exact Heap.get?_none_of_le (AB I.ok.bsz I.ok.above)
def Inv.stkSub(I:Inv X aa σ H s):∀b∈frs X.stack,b∈X.env.locals::X.fs:=fun b hb=>by
 rcases I.ok.stk with e|⟨e,hf⟩
 ·rw[e] at hb;exact At _ hb
 ·rw[e] at hb
  unfold frs at hb;rw[List.filterMap_cons,hf] at hb;exact hb
def Inv.stkFree(I:Inv X aa σ H s):∀b∈frs X.stack,H b=none:=fun b hb=>by
 rcases List.mem_cons.mp (I.stkSub b hb) with e|hb
 ·rw[e];exact I.free
 ·obtain⟨_,o,a,_⟩:=I.ok.funs.mem hb
  exact I.base.free b o a (I.ok.frf b hb) fun z=>I.ok.exfs b z hb
def Inv.step{g':Array GenState}{t':Nat}{d':Drawn}{ch:List Addr}(I:Inv X aa σ H s)(h:∀b∈ch,(b∈X.ex\/X.s₀⁻¹<=b)/\b≠X.env.locals/\(∀x c,X.env.cells.lookup x=some c->c≠b)/\∀p∈X.pn++aa,p.1≠b)(keep:∀b o,b≠X.env.locals->b∉X.fs->b∉ch->s.heap.get? b=some o->H b=none->h'.get? b=some o)(slot:∀b o,b≠X.env.locals->b∈X.fs->b∉ch->s.heap.get? b=some o->H b=none->∃A,h'.get? b=some {o with slots:=A})(free:∀b o,b∉ch->s.heap.get? b=some o->H b=none->H' b=none)(there:∀b o,b∉ch->s.heap.get? b=some o->∃o',h'.get? b=some o')(tups:∀b xs,H b=some (.tup xs)->H' b=some (.tup xs))(frzs:∀b o u,H b=some (.frz o u)->H' b=some (.frz o u))(tbls:∀b ps,H b=some (.tbl ps)->∃more,H' b=some (.tbl (ps++more)))(M:∀m,s.heap.Ns X.env.locals m->h'.Ns X.env.locals m)(C:HOk X.prog X.w H' h')(N:AllBare g'):Inv X aa σ H' {s with heap:=h',gens:=g',drawn:=d',toks:=t'}:=by
 have j:∀b o,X.s₀.heap.get? b=some o->b≠X.env.locals:=fun b o e=>AA (AD (Ap e) I.ok.above);have y:∀b o,X.s₀.heap.get? b=some o->b∉X.ex->b∉ch:=fun b o e hx hb=>by
  rcases(h b hb).1 with z|z
  ·exact hx z
  ·exact absurd (AD (Ap e) z) (Nat.lt_irrefl _)
 have a:∀x c,X.env.cells.lookup x=some c->∀v,s.heap.IsCell c v->h'.IsCell c v:=fun x c e v ⟨o,g,hd⟩=>by
  have f:c∉ch:=fun z=>(h c z).2.2.1 x c e rfl
  by_cases hc:c∈X.fs
  ·obtain⟨A,q⟩:=slot c o (I.cne x c e) hc f g (I.freeC x c e)
   exact⟨_,q,hd⟩
  ·exact⟨o,keep c o (I.cne x c e) hc f g (I.freeC x c e),hd⟩
 refine⟨I.ok,I.os,N,⟨fun b o e n hb hx=>?_,fun b o e n hb hx=>?_,fun b o e n hx=>?_,fun b o e hx=>?_,fun b xs e=>tups b xs (I.base.tups b xs e),fun b o xs e=>frzs b o xs (I.base.frzs b o xs e),fun b ps e=>?_⟩,?_,fun x c e=>?_,?_,fun x c e=>?_,fun p hp=>?_,C,I.len⟩
 ·exact keep b o (j b o e) hb (y b o e hx) (I.base.keep b o e n hb hx) (I.base.free b o e n hx)
 ·obtain⟨A,e1⟩:=I.base.slot b o e n hb hx
  obtain⟨E,e2⟩:=slot b _ (j b o e) hb (y b o e hx) e1 (I.base.free b o e n hx);exact⟨E,e2⟩
 ·obtain⟨o',e1⟩:=I.base.there b o e hx
  exact free b o' (y b o e hx) e1 (I.base.free b o e n hx)
 ·obtain⟨o',e1⟩:=I.base.there b o e hx
  exact there b o' (y b o e hx) e1
 ·obtain⟨F,e1⟩:=I.base.tbls b ps e
  obtain⟨G,e2⟩:=tbls b _ e1;exact⟨F++G,by rw[e2,Array.append_assoc]⟩
 ·obtain⟨m,J,L⟩:=I.loc
  refine⟨m,M m J,fun i x v e1 e2 e3=>?_⟩;obtain⟨u,r,l⟩:=L i x v e1 e2 e3;refine⟨u,r,?_⟩;rcases l with l|⟨k,c,e,z⟩
  ·exact .inl l
  ·exact .inr ⟨k,c,e,a x c e _ z⟩
 ·obtain⟨v,z⟩:=I.cell x c e
  exact⟨v,a x c e v z⟩
 ·obtain⟨m,⟨o,_,_,g,_⟩,_⟩:=I.loc
  exact free _ o (fun z=>(h _ z).2.1 rfl) g I.free
 ·obtain⟨v,o,g,hd⟩:=I.cell x c e
  exact free c o (fun z=>(h c z).2.2.1 x c e rfl) g (I.freeC x c e)
 ·obtain⟨e,n,ne,D,d⟩:=I.pin p hp
  have f:p.1∉ch:=fun z=>(h p.1 z).2.2.2 p hp rfl;exact⟨keep p.1 p.2 ne D f e n,free p.1 p.2 f e n,ne,D,d⟩
def Inv.un{t':Nat}(I:Inv X aa σ H s)(u:Un X.fs [] H H' s.heap h')(c:HOk X.prog X.w H' h'):Inv X aa σ H' {s with heap:=h',toks:=t'}:=by
 obtain⟨m,⟨o,es,ep,d,r⟩,_⟩:=id I.loc;obtain⟨l,f⟩:=u.any d I.free (by simp);exact I.step (g':=s.gens) (d':=s.drawn) (ch:=[]) (fun _ z=>nomatch z) (fun b o _ hb _ e n=>u.keep b o e n hb (by simp)) (fun b o _ hb _ e n=>u.slot b o e n hb (by simp)) (fun b o _ e n=>u.free b o e n (by simp)) (fun b o _ e=>u.there b o e (by simp)) u.tups u.frzs u.tbls (fun j hm=>by
  obtain⟨o',g,h,a,i⟩:=hm;rw[d] at a;cases a;exact⟨_,g,h,f,i⟩) c I.bare
def Inv.call{g':Array GenState}{t':Nat}{d':Drawn}{ch:List Addr}(I:Inv X aa σ H s)(u:Un (frs X.stack) ch H H' s.heap h')(f:HOk X.prog X.w H' h')(q:AllBare g')(h:∀b∈ch,(b∈X.ex\/X.s₀⁻¹<=b)/\b≠X.env.locals/\(∀x c,X.env.cells.lookup x=some c->c≠b)/\∀p∈X.pn++aa,p.1≠b):Inv X aa σ H' {s with heap:=h',gens:=g',drawn:=d',toks:=t'}:=by
 obtain⟨m,⟨o,es,ep,g,r⟩,_⟩:=id I.loc;obtain⟨y,d⟩:=u.any g I.free fun z=>(h _ z).2.1 rfl;exact I.step (ch:=ch) h (fun b o d hb hc e n=>u.keep b o e n (fun z=>(List.mem_cons.mp (I.stkSub b z)).elim d hb) hc) (fun b o _ _ hc e n=>u.any e n hc) (fun b o hc e n=>u.free b o e n hc) (fun b o hc e=>u.there b o e hc) u.tups u.frzs u.tbls (fun v hm=>by
  obtain⟨o',i,j,a,l⟩:=hm;rw[g] at a;cases a;exact⟨_,i,j,d,l⟩) f q
def Inv.turned{t':Nat}{it:Addr}(I:Inv X aa σ H s)(k:∀b o,b≠it->s.heap.get? b=some o->h'.get? b=some o)(g:H it=none)(d:it≠X.env.locals)(h1:it∈X.ex\/X.s₀⁻¹<=it)(h2:∀x c,X.env.cells.lookup x=some c->c≠it)(h:∀p∈X.pn++aa,p.1≠it):Inv X aa σ H {s with heap:=h',toks:=t'}:=by
 have a:∀b u,H b=some u->b≠it:=fun b u e z=>by rw[z,g] at e;cases e
 refine I.step (g':=s.gens) (d':=s.drawn) (ch:=[it]) (fun b hb=>?_) (fun b o _ _ hc e _=>k b o (fun z=>hc (by simp[z])) e) (fun b o _ _ hc e _=>⟨o.slots,k b o (fun z=>hc (by simp[z])) e⟩) (fun _ _ _ _ n=>n)
  (fun b o hc e=>⟨o,k b o (fun z=>hc (by simp[z])) e⟩) (fun _ _ e=>e) (fun _ _ _ e=>e) (fun b ps e=>⟨#[],by rw[e];simp⟩) (fun m hm=>?_) (fun b u e=>?_) I.bare
 ·have e:b=it:=by simpa using hb
  subst e;exact⟨h1,d,h2,h⟩
 ·obtain⟨o,es,ep,f,r⟩:=hm
  exact⟨o,es,ep,k _ o (Ne.symm d) f,r⟩
 ·refine(I.hok b u e).stay (fun c v hc q=>k c v ?_ q) (fun _ q=>q) fun _ _ q=>q
  rcases hc with z|z
  ·rw[z];exact a b u e
  ·exact a c _ z
def Inv.tok(I:Inv X aa σ H s)(t:Nat):Inv X aa σ H {s with toks:=t}:=I.un (h':=s.heap) (t':=t) Un.refl I.hok
def Inv.kept{t':Nat}(I:Inv X aa σ H s)(k:∀b u,s.heap.get? b=some u->h'.get? b=some u):Inv X aa σ H {s with heap:=h',toks:=t'}:=I.un (Un.kept k) (I.hok.kept k)
def Inv.laid{a:Addr}{o:HO}{t':Nat}(I:Inv X aa σ H s)(k:∀b u,s.heap.get? b=some u->h'.get? b=some u)(hp:s⁻¹<=a)(new:zT X.prog X.w (upd H a o) h' a o):Inv X aa σ (upd H a o) {s with heap:=h',toks:=t'}:=I.un (Un.laid k hp (I.hok.fresh hp)) (I.hok.laid k hp new)
def Inv.write{x e:Addr}{o:HO}{t':Nat}(I:Inv X aa σ H s)(a:oK (H x))(he:e=x\/H e=some (.own x))(k:∀b u,b≠e->s.heap.get? b=some u->h'.get? b=some u)(c:∃u,h'.get? e=some u)(new:zT X.prog X.w (upd H x o) h' x o):Inv X aa σ (upd H x o) {s with heap:=h',toks:=t'}:=I.un (Un.write a he k c) (I.hok.write a he k c new)
def Inv.pins_of{bN:Ψ}(I:Inv X aa σ H s)(h:∀p∈bN,s.heap.get? p.1=some p.2/\H p.1=none/\p.1≠X.env.locals/\p.1∉X.fs/\∀v,p.2.data≠.cell v):Inv X bN σ H s:=
 ⟨I.ok,I.os,I.bare,I.base,I.loc,I.cell,I.free,I.freeC,fun p hp=>(List.mem_append.mp hp).elim (fun z=>I.pin p (Aw _ z)) (h p),I.hok,I.len⟩
def xT{N:List Str}(c:N.Nodup){i j:Nat}{x:Str}(a:N[i]?=some x)(b:N[j]?=some x):i=j:=by
 obtain⟨h1,e1⟩:=List.getElem?_eq_some_iff.mp a;obtain⟨h2,e2⟩:=List.getElem?_eq_some_iff.mp b;exact(List.getElem_inj c).mp (e1.trans e2.symm)
def Ju{M:Model}{A:Around}{E:Ω}{i:Nat}{x:Str}{v:V}{u:Value}{Q:Unit->Shared->Prop}(I:Inv X aa σ H s)(hN:X.N.Nodup)(hi:X.N[i]?=some x)(hx:Loc X.env.scope x)(r:RelV v u)(h:∀s',Inv X aa (σ.set i (some v)) H s'->(∃a,AS a s.heap s'.heap/\(a=X.env.locals\/X.env.cells.lookup x=some a))->Q () s')(hf:X.fn x=true\/X.env.scope.names.lookup x=some .local:=by first|exact .inl rfl|exact .inr rfl|assumption):wpAny M A (storeName X.env x u) Q E s:=by
 obtain⟨m,J,Y⟩:=id I.loc;have iA:(X.env.scope.kind==.class|| (X.env.scope.kind==.module&&X.env.locals != X.env.globals))=false:=by rw[I.ok.kind];rfl
 have f:i<σ.length:=by rw[I.len];exact(List.getElem?_eq_some_iff.mp hi).1
 have cne:=I.cne;have dl:∀{a:Addr}{h':Heap},(∃o,s.heap.get? a=some o/\H a=none)->AS a s.heap h'->HOk X.prog X.w H h':=fun{a h'} ha hs b ob e=>by
  obtain⟨_,_,Z⟩:=ha;refine(I.hok b ob e).stay (fun c C hc q=>(hs.2 c ?_).trans q) (fun _ q=>q) fun _ _ q=>q;rintro rfl;rcases hc with rfl|hc
  ·rw[Z] at e;cases e
  ·rw[Z] at hc;cases hc
 rcases hx with hk|hk
 ·refine wpAny_storeName_local hk J (fun h' F hs=>?_) iA
  obtain⟨oL,_,_,L,_⟩:=id J;refine h _ ⟨I.ok,I.os,I.bare,⟨fun b o e n hb hx=>?_,fun b o e n hb hx=>?_,I.base.free,fun b o e hx=>?_,I.base.tups,I.base.frzs,I.base.tbls⟩,⟨_,F,fun j y G e1 e2 e3=>?_⟩,fun y c e=>?_,I.free,I.freeC,fun p hp=>?_,dl ⟨oL,L,I.free⟩ hs,by simpa using I.len⟩ ⟨_,hs,.inl rfl⟩
  ·exact(hs.2 b (AA (AD (Ap e) I.ok.above))).trans (I.base.keep b o e n hb hx)
  ·obtain⟨O,e1⟩:=I.base.slot b o e n hb hx
   exact⟨O,(hs.2 b (AA (AD (Ap e) I.ok.above))).trans e1⟩
  ·obtain⟨o',e1⟩:=I.base.there b o e hx
   exact⟨o',(hs.2 b (AA (AD (Ap e) I.ok.above))).trans e1⟩
  ·by_cases g:j=i
   ·subst g
    rw[hi] at e1;cases e1;rw[List.getElem?_set_self f] at e2;cases e2;exact⟨u,r,.inl ⟨hk,by simp⟩⟩
   ·rw[List.getElem?_set_ne (Ne.symm g)] at e2
    obtain⟨P,S,q⟩:=Y j y G e1 e2 e3;refine⟨P,S,?_⟩;rcases q with ⟨k,e⟩|⟨k,c,e,z⟩
    ·refine .inl ⟨k,?_⟩
     have:y≠x:=fun e=>g (xT hN e1 (e▸hi));simp[this,e]
    ·exact .inr ⟨k,c,e,z.sameBut hs (cne y c e)⟩
  ·obtain⟨C,z⟩:=I.cell y c e
   exact⟨C,z.sameBut hs (cne y c e)⟩
  ·obtain⟨e,n,ne,T,d⟩:=I.pin p hp
   exact⟨(hs.2 p.1 ne).trans e,n,ne,T,d⟩
 ·have U:X.fn x=true:=by
   rcases hf with z|z
   ·exact z
   ·rw[z] at hk;cases hk
  obtain⟨c,hc⟩:=I.ok.has x (.inl hk);obtain⟨C,z⟩:=I.cell x c hc;refine wpAny_storeName_cell I.ok.kind hk hc z (fun h' W hs=>?_);obtain⟨oc,tO,pz⟩:=id z;refine h {s with heap:=h'} ⟨I.ok,I.os,I.bare,⟨fun b o e n hb hx=>?_,fun b o e n hb hx=>?_,I.base.free,fun b o e hx=>?_,I.base.tups,I.base.frzs,I.base.tbls⟩,⟨m,J.sameBut hs (Ne.symm (cne x c hc)),fun j y G e1 e2 e3=>?_⟩,fun y D e=>?_,I.free,I.freeC,fun p hp=>?_,dl ⟨oc,tO,I.freeC x c hc⟩ hs,by simpa using I.len⟩ ⟨c,hs,.inr hc⟩
  ·exact(hs.2 b (AA (AD (Ap e) (I.ok.cab x c U hc)))).trans (I.base.keep b o e n hb hx)
  ·obtain⟨O,e1⟩:=I.base.slot b o e n hb hx
   exact⟨O,(hs.2 b (AA (AD (Ap e) (I.ok.cab x c U hc)))).trans e1⟩
  ·obtain⟨o',e1⟩:=I.base.there b o e hx
   exact⟨o',(hs.2 b (AA (AD (Ap e) (I.ok.cab x c U hc)))).trans e1⟩
  ·by_cases g:j=i
   ·subst g
    rw[hi] at e1;cases e1;rw[List.getElem?_set_self f] at e2;cases e2;exact⟨u,r,.inr ⟨.inl hk,c,hc,W⟩⟩
   ·rw[List.getElem?_set_ne (Ne.symm g)] at e2
    obtain⟨P,S,q⟩:=Y j y G e1 e2 e3;refine⟨P,S,?_⟩;rcases q with q|⟨k,D,e,z'⟩
    ·exact .inl q
    ·refine .inr ⟨k,D,e,z'.sameBut hs ?_⟩
     rintro rfl;exact g (xT hN e1 (I.ok.inj _ _ _ e hc▸hi))
  ·by_cases l:D=c
   ·subst l;exact⟨_,W⟩
   ·obtain⟨w2,z2⟩:=I.cell y D e
    exact⟨w2,z2.sameBut hs l⟩
  ·obtain⟨e,n,ne,T,d⟩:=I.pin p hp
   refine⟨(hs.2 p.1 ?_).trans e,n,ne,T,d⟩;intro q;rw[q,tO] at e;have q':oc=p.2:=As e;exact d C (by rw[<-q'];exact pz)
def rz{M:Model}{A:Around}{E:Ω}{i:Nat}{x:Str}{v:V}{u:Value}{Q:Unit->Shared->Prop}(I:Inv X aa σ H s)(a:X.N.Nodup)(hi:X.N[i]?=some x)(hx:Loc X.env.scope x)(r:RelV v u)(h:∀s',Inv X aa (σ.set i (some v)) H s'->Q () s')(hf:X.fn x=true\/X.env.scope.names.lookup x=some .local:=by first|exact .inl rfl|exact .inr rfl|assumption):wpAny M A (storeName X.env x u) Q E s:=
 Ju I a hi hx r (fun s' c _=>h s' c) hf
def Inv.call'{s':Shared}{ch:List Addr}(I:Inv X aa σ H s)(d:s'.os=s.os)(u:Un (frs X.stack) ch H H' s.heap s'.heap)(a:HOk X.prog X.w H' s'.heap)(f:AllBare s'.gens)(g:∀b∈ch,(b∈X.ex\/X.s₀⁻¹<=b)/\b≠X.env.locals/\(∀x c,X.env.cells.lookup x=some c->c≠b)/\∀p∈X.pn++aa,p.1≠b):Inv X aa σ H' s':=by
 obtain⟨h',g',d',t',o'⟩:=s';have e:o'=s.os:=d;subst e;exact I.call (g':=g') (t':=t') (d':=d') u a f g
end
abbrev XK:=Value->Option Addr->Hp->Prop
abbrev St:=List (Option V)
abbrev VK:=V->Hp->Prop
abbrev TE:=St->Hp->VK->Prop
abbrev TT:=St->Hp->(Bool->Hp->Prop)->Prop
abbrev TA:=St->Hp->(List V->Hp->Prop)->Prop
structure Ends where
 nx:St->Hp->Prop
 rt:VK
 bk:St->Hp->Prop:=fun _ _=>False
 ct:St->Hp->Prop:=fun _ _=>False
abbrev TS:=Ends->St->Hp->Prop
def EP(X:Cx)(aa:Ψ)(σ:St)(Q:VK)(u:Value)(s':Shared):Prop:=∃v H',Inv X aa σ H' s'/\RelV v u/\Q v H'
def TP(X:Cx)(aa:Ψ)(σ:St)(Q:Bool->Hp->Prop)(b:Bool)(s':Shared):Prop:=∃H',Inv X aa σ H' s'/\Q b H'
def AP(X:Cx)(aa:Ψ)(σ:St)(Q:List V->Hp->Prop)(us:List Value)(s':Shared):Prop:=∃vs H',Inv X aa σ H' s'/\Vals vs us/\Q vs H'
def SP(X:Cx)(aa:Ψ)(D:Ends)(f:Flow)(s':Shared):Prop:=
 match f with
 |.next=>∃a H',Inv X aa a H' s'/\D.nx a H'
 |.brk=>∃a H',Inv X aa a H' s'/\D.bk a H'
 |.cont=>∃a H',Inv X aa a H' s'/\D.ct a H'
 |.ret u=>∃v a H',Inv X aa a H' s'/\RelV v u/\D.rt v H'
def PE(X:Cx)(e:Expr)(t:TE):Prop:=
 ∀(aa:Ψ)(s:Shared)(σ:St)(H:Hp)(Q:VK),Inv X aa σ H s->t σ H Q->wpAny (model X.prog X.w) X.A (eval e X.env) (EP X aa σ Q) X.xe s
def PT(X:Cx)(e:Expr)(t:TT):Prop:=
 ∀(aa:Ψ)(s:Shared)(σ:St)(H:Hp)(Q:Bool->Hp->Prop),Inv X aa σ H s->t σ H Q->wpAny (model X.prog X.w) X.A (isTrue e X.env (eval e X.env)) (TP X aa σ Q) X.xe s
def PW(X:Cx)(e:Expr)(t:TT):Prop:=
 ∀(a:Sem Value)(aa:Ψ)(s:Shared)(σ:St)(H:Hp)(Q:Bool->Hp->Prop),Inv X aa σ H s->t σ H Q->wpAny (model X.prog X.w) X.A (isTrue e X.env a) (TP X aa σ Q) X.xe s
def PW.pt{X:Cx}{e:Expr}{t:TT}(h:PW X e t):PT X e t:=h _
def PA(X:Cx)(es:List Expr)(t:TA):Prop:=
 ∀(pos:Pos)(aa:Ψ)(s:Shared)(σ:St)(H:Hp)(Q:List V->Hp->Prop),Inv X aa σ H s->t σ H Q->wpAny (model X.prog X.w) X.A (spliced (backTo pos (starEach es X.env))) (AP X aa σ Q) X.xe s
def PS(X:Cx)(st:Stmt)(t:TS):Prop:=
 ∀(aa:Ψ)(s:Shared)(σ:St)(H:Hp)(D:Ends),Inv X aa σ H s->t D σ H->wpAny (model X.prog X.w) X.A (exec st X.env) (SP X aa D) X.xe s
def PSs(X:Cx)(st:List Stmt)(t:TS):Prop:=
 ∀(aa:Ψ)(s:Shared)(σ:St)(H:Hp)(D:Ends),Inv X aa σ H s->t D σ H->wpAny (model X.prog X.w) X.A (execs st X.env) (SP X aa D) X.xe s
def aX{c:Type}{t:Sem c}{Q d:c->Shared->Prop}{M:Model}{A:Around}{E:Ω}{s:Shared}(h:wpAny M A t Q E s)(e:∀a s,Q a s->d a s):wpAny M A t d E s:=wpAny_mono h e fun _ _ x=>x
section
variable{X:Cx}
def aM(i:Nat):TE:=fun σ H Q=>∃v,σ[i]?=some (some v)/\Q v H
def tC(v:V):TE:=fun _ H Q=>Q v H
def Jv{i:Nat}{x:Str}{pos:Pos}(g:X.N[i]?=some x)(j:oM X.env.scope x)(hd:(x==("__debug__":Str))=false:=by decide)(o:(x==("__classdict__":Str))=false:=by decide):PE X (.Name x pos) (aM i):=by
 intro aa s σ H Q I h;obtain⟨v,e,h⟩:=h;obtain⟨m,d,f⟩:=I.loc;obtain⟨u,r,l⟩:=f i x v g e j;have fin:EP X aa σ Q u s:=⟨v,H,I,r,h⟩;rcases l with ⟨hk,hm⟩|⟨hk,c,hc,a⟩
 ·exact wpAny_Name (wpAny_loadName_local I.ok.kind hk d hm fin) hd
 ·rcases hk with hk|hk
  ·exact wpAny_Name (wpAny_loadName_cell I.ok.kind hk hc a fin) hd
  ·exact wpAny_Name (wpAny_loadName_free I.ok.kind hk hc a fin o) hd
def zf{i j pos}:PE X (.Constant (.int i) j pos) (tC (.int i)):=fun _ _ _ H _ I h=>wpAny_Constant_int ⟨.int i,H,I.tok _,⟨_,rfl⟩,h⟩
def ej{b j pos}:PE X (.Constant (.bool b) j pos) (tC (.bl b)):=fun _ _ _ H _ I h=>Constant_bool ⟨.bl b,H,I,rfl,h⟩
def FG{j pos}:PE X (.Constant .none j pos) (tC .non):=fun _ _ _ H _ I h=>Constant_none ⟨.non,H,I,rfl,h⟩
def pe_str{x j pos}:PE X (.Constant (.str x) j pos) (tC (.str x)):=fun _ _ _ H _ I h=>Calls.Constant_str ⟨.str x,H,I.tok _,⟨_,rfl⟩,h⟩
def Gl(X:Cx)(x:Str):Prop:=X.env.kindOf x=some .globalImplicit
def oO{E:Ω}{aa:Ψ}{s:Shared}{σ:St}{H:Hp}{x:Str}{u:Value}{pos:Pos}{Q:Ω}(I:Inv X aa σ H s)(a:Gl X x)(hm:X.mg x=some u)(h:Q u s)(hd:(x==("__debug__":Str))=false:=by decide):wpAny (model X.prog X.w) X.A (eval (.Name x pos) X.env) Q E s:=
 Calls.Name_function_global I.ok.kind a (Calls.loadGlobal_global (by rw[I.ok.glob];exact I.mod.glob.keeps I.bk) hm h) hd
def hY{E:Ω}{aa:Ψ}{s:Shared}{σ:St}{H:Hp}{x:Str}{u:Value}{pos:Pos}{Q:Ω}(I:Inv X aa σ H s)(a:Gl X x)(hm:X.mg x=none)(c:AV x=some u)(h:Q u s)(d:x≠"__name__":=by decide)(hd:(x==("__debug__":Str))=false:=by decide):wpAny (model X.prog X.w) X.A (eval (.Name x pos) X.env) Q E s:=by
 obtain⟨e,h1,h2⟩:=I.mod.blt;exact Calls.Name_function_global I.ok.kind a (Calls.loadGlobal_builtin (by rw[I.ok.glob];exact I.mod.glob.keeps I.bk) hm (by rw[I.ok.blt];exact h1.keeps I.bk) ((h2 x d).trans c) h) hd
def mw{x:Str}{v:V}{u:Value}{pos:Pos}(a:Gl X x)(hm:X.mg x=some u)(r:RelV v u)(hd:(x==("__debug__":Str))=false:=by decide):PE X (.Name x pos) (tC v):=
 fun _ _ _ H _ I h=>oO I a hm ⟨v,H,I,r,h⟩ hd
def Jw{x:Str}{v:V}{u:Value}{pos:Pos}(a:Gl X x)(hm:X.mg x=none)(c:AV x=some u)(r:RelV v u)(d:x≠"__name__":=by decide)(hd:(x==("__debug__":Str))=false:=by decide):PE X (.Name x pos) (tC v):=
 fun _ _ _ H _ I h=>hY I a hm c ⟨v,H,I,r,h⟩ d hd
variable{a b:Expr}{ta tb:TE}{pos:Pos}
def PC(X:Cx)(op:CmpOp)(a b:Expr)(t:TE):Prop:=
 ∀(aa:Ψ)(s:Shared)(σ:St)(H:Hp)(Q:VK),Inv X aa σ H s->t σ H Q->
  wpAny (model X.prog X.w) X.A (eval a X.env) (fun v c=>wpAny (model X.prog X.w) X.A (eval b X.env) (fun u d=>wpAny (model X.prog X.w) X.A (A6 op v u) (EP X aa σ Q) X.xe d) X.xe c) X.xe s
def ew(b:Expr){op:CmpOp}(h:op≠.In)(h2:op≠.NotIn):behindInMarks op b=false:=by
 have e1:(op==CmpOp.In)=false:=by cases op<;>first|rfl|exact absurd rfl h
 have e2:(op==CmpOp.NotIn)=false:=by cases op<;>first|rfl|exact absurd rfl h2
 cases b<;>simp[behindInMarks,e1,e2]
def tB(t:TE):TT:=fun σ H Q=>t σ H fun x H1=>∃c,x=.bl c/\Q c H1
def xV{op:CmpOp}{t:TE}(h:PC X op a b t)(h1:behindInMarks op b=false:=by first|exact ew _ ξ ξ|rfl):PE X (.Compare a [op] [b] pos) t:=fun aa s σ H Q I hw=>wpAny_Compare1 (h aa s σ H Q I hw) h1
def rE{op:CmpOp}{t:TE}(h:PC X op a b t)(h1:behindInMarks op b=false:=by first|exact ew _ ξ ξ|rfl):PT X (.Compare a [op] [b] pos) (tB t):=by
 intro aa s σ H Q I hw;refine wpAny_isTrue_Compare1 (aX (h aa s σ H _ I hw) fun v g h1=>aX h1 fun u i h2=>aX h2 fun c j ⟨x,H1,f,e,q1⟩=>?_) h1;obtain⟨d,rfl,q⟩:=q1;cases e;exact wpAny_truthy_bool ⟨H1,f,q⟩
def jh{e:Expr}{t:TE}(h:PE X e t)(he:∀a,isTrue e X.env a=(do let v <-a;standAt e.pos;holding [v] (truthy v)):=by intro _;rfl):PT X e (tB t):=by
 intro aa s σ H Q I hw;refine isTrue_plain (aX (h aa s σ H _ I hw) fun v g ⟨x,H1,f,c,q1⟩=>?_) (he _);obtain⟨d,rfl,q⟩:=q1;cases c;exact wpAny_truthy_bool ⟨H1,f,q⟩
variable{tA mL:TT}{rest:List Expr}
def xX(t u:TT):TT:=fun σ H Q=>t σ H fun c H1=>if c=true then u σ H1 Q else Q false H1
def Jx(t u:TT):TT:=fun σ H Q=>t σ H fun c H1=>if c=true then Q true H1 else u σ H1 Q
def xZ(t:TT):TT:=fun σ H Q=>t σ H fun c H1=>Q (!c) H1
def Jy(ha:PT X a tA):PW X (.BoolOp .And [a] pos) tA:=by
 intro d aa s σ H Q I h;refine isTrue_and (aX (ha aa s σ H Q I h) fun c f e=>?_);cases c with
 |true=>exact isTrue_and_nil e
 |false=>exact e
def mx(ha:PT X a tA):PW X (.BoolOp .Or [a] pos) tA:=by
 intro d aa s σ H Q I h;refine isTrue_or (aX (ha aa s σ H Q I h) fun c f e=>?_);cases c with
 |false=>exact isTrue_or_nil e
 |true=>exact e
def Jz(ha:PT X a tA)(hb:PW X (.BoolOp .And (b::rest) pos) mL):PW X (.BoolOp .And (a::b::rest) pos) (xX tA mL):=by
 intro e aa s σ H Q I h;refine isTrue_and (aX (ha aa s σ H _ I h) fun c f ⟨H1,d,q1⟩=>?_);cases c with
 |true=>exact hb e aa f σ H1 Q d q1
 |false=>exact⟨H1,d,q1⟩
def mE(ha:PT X a tA)(hb:PW X (.BoolOp .Or (b::rest) pos) mL):PW X (.BoolOp .Or (a::b::rest) pos) (Jx tA mL):=by
 intro e aa s σ H Q I h;refine isTrue_or (aX (ha aa s σ H _ I h) fun c f ⟨H1,d,q1⟩=>?_);cases c with
 |true=>exact⟨H1,d,q1⟩
 |false=>exact hb e aa f σ H1 Q d q1
def mG(ha:PT X a tA):PT X (.UnaryOp .Not a pos) (xZ tA):=by
 intro aa s σ H Q I h;exact isTrue_not (ha aa s σ H (fun c H1=>Q (!c) H1) I h)
def JA(ta tb:TE):TE:=fun σ H Q=>ta σ H fun x H1=>∃c,x=.bl c/\if c=true then tb σ H1 Q else Q (.bl false) H1
def JB{op}{t:TE}(h:PE X a t):PE X (.BoolOp op [a] pos) t:=fun aa s σ H Q I hw=>BoolOp_one (h aa s σ H Q I hw)
def JC(ha:PE X a ta)(hb:PE X (.BoolOp .And (b::rest) pos) tb):PE X (.BoolOp .And (a::b::rest) pos) (JA ta tb):=by
 intro aa s σ H Q I h;refine BoolOp_and (aX (ha aa s σ H _ I h) fun v e ⟨x,H1,d,f,q1⟩=>?_);obtain⟨c,rfl,q1⟩:=q1;cases f;refine wpAny_truthy_bool ?_;cases c with
 |true=>exact hb aa e σ H1 Q d q1
 |false=>exact⟨.bl false,H1,d,rfl,q1⟩
def FH(t:TT)(ta tb:TE):TE:=fun σ H Q=>t σ H fun c H1=>if c=true then ta σ H1 Q else tb σ H1 Q
def JD{c:Expr}(hc:PT X c tA)(ha:PE X a ta)(hb:PE X b tb):PE X (.IfExp c a b pos) (FH tA ta tb):=by
 intro aa s σ H Q I h;refine wpAny_IfExp (aX (hc aa s σ H _ I h) fun d e ⟨H1,f,q1⟩=>?_);cases d with
 |true=>exact ha aa e σ H1 Q f q1
 |false=>exact hb aa e σ H1 Q f q1
end
def SqL(K:Ac)(H:Hp)(a:Addr)(xs:List V):Prop:=
 Rd H a (.lst xs) \/
  ∃(o:Obj)(c:Array Value)(n:Nat),K.lookup a=some o/\o.cls=.type "list"/\o.dict=none/\o.data=.seq c n/\c.size<=sizeLine/\Vals xs c.toList
def SqT(K:Ac)(H:Hp)(a:Addr)(xs:List V):Prop:=
 Rd H a (.tup xs) \/
  ∃(o:Obj)(c:Array Value)(n:Nat),K.lookup a=some o/\o.cls=.type "tuple"/\o.data=.seq c n/\c.size<=sizeLine/\Vals xs c.toList
def x0:Value->Option V
 |.none=>some .non
 |.bool b=>some (.bl b)
 |.int i _=>some (.int i)
 |.str x _=>some (.str x)
 |.bytes b _=>some (.byt b)
 |.float b _=>some (.flt b)
 |.ref a=>some (.ref a)
 |.type n=>some (.ty n)
 |_=>none
def RelV.abs{x:V}{u:Value}(r:RelV x u):x0 u=some x:=by
 cases x with
 |non=>cases r;rfl
 |bl _=>cases r;rfl
 |int _=>obtain⟨t,rfl⟩:=r;rfl
 |str _=>obtain⟨t,rfl⟩:=r;rfl
 |byt _=>obtain⟨t,rfl⟩:=r;rfl
 |flt _=>obtain⟨t,rfl⟩:=r;rfl
 |ref _=>cases r;rfl
 |ty _=>cases r;rfl
def RelV.inj{x y:V}{u:Value}(r:RelV x u)(q:RelV y u):x=y:=As (r.abs.symm.trans q.abs)
def Vals.inj{xs ys:List V}{us:List Value}(h:Vals xs us)(g:Vals ys us):xs=ys:=by
 induction h generalizing ys with
 |nil=>cases g;rfl
 |cons r t ih=>cases g with|cons r' t'=>rw[r.inj r',ih t']
section
variable{X:Cx}{aa:Ψ}{σ:St}{H:Hp}{s:Shared}{a:Addr}{xs ys:List V}
def SqL.of{K:Ac}(h:H a=some (.lst xs)):SqL K H a xs:=.inl (.inl h)
def SqT.of{K:Ac}(h:H a=some (.tup xs)):SqT K H a xs:=.inl (.inl h)
def Inv.list(I:Inv X aa σ H s)(h:SqL X.K H a xs):∃c:List Value,Vals xs c/\PlainL s.heap a c.toArray/\xs.length<=sizeLine:=by
 rcases h with h|⟨o,c,n,hk,hc,hd,hs,hz,r⟩
 ·obtain⟨z,c,n,r,e⟩:=h.ok I.hok
  exact⟨c,r,⟨_,n,e,rfl,rfl,rfl⟩,z⟩
 ·refine⟨c.toList,r,⟨o,n,I.kIn a o hk,hc,hd,by simpa using hs⟩,?_⟩
  have e:=r.length;simp only[Ax] at e;(first|lia|omega)
def Inv.tuple(I:Inv X aa σ H s)(h:SqT X.K H a xs):∃c:List Value,Vals xs c/\IsTup s.heap a c.toArray/\xs.length<=sizeLine:=by
 rcases h with h|⟨o,c,n,hk,hc,hs,hz,r⟩
 ·obtain⟨z,c,r,p⟩:=h.ok I.hok
  exact⟨c,r,p,z⟩
 ·refine⟨c.toList,r,⟨o,I.kIn a o hk,hc,n,by simpa using hs⟩,?_⟩
  have e:=r.length;simp only[Ax] at e;(first|lia|omega)
def Inv.list_inj(I:Inv X aa σ H s)(h:SqL X.K H a xs)(h':SqL X.K H a ys):xs=ys:=by
 obtain⟨c,r,⟨o,n,e,_,_,d⟩,_⟩:=I.list h;obtain⟨its',f,⟨o',g,e',_,_,d'⟩,_⟩:=I.list h';rw[e] at e';cases e';rw[d] at d';injection d' with d1 _
 have:c=its':=by simpa using congrArg Array.toList d1
 subst this;exact r.inj f
def Inv.tuple_inj(I:Inv X aa σ H s)(h:SqT X.K H a xs)(h':SqT X.K H a ys):xs=ys:=by
 obtain⟨c,r,⟨o,e,_,n,d⟩,_⟩:=I.tuple h;obtain⟨its',f,⟨o',e',_,g,d'⟩,_⟩:=I.tuple h';rw[e] at e';cases e';rw[d] at d';injection d' with d1 _
 have:c=its':=by simpa using congrArg Array.toList d1
 subst this;exact r.inj f
end
abbrev Cx.wish(X:Cx)(E:Ω):Cx:={X with xe:=E}
abbrev Cx.nox(X:Cx):Cx:=X.wish fun _ _=>False
def Cx.Ok.wish{X:Cx}(ok:X.Ok)(E:Ω):(X.wish E).Ok:=
 ⟨ok.mod,ok.kind,ok.glob,ok.blt,ok.above,ok.inj,ok.has,ok.cab,ok.hd,ok.frames,ok.stk,ok.exf,ok.bs,ok.bsz,ok.noex,ok.exfs,ok.funs,ok.frf⟩
def Cx.Ok.unwish{X:Cx}{E:Ω}(ok:(X.wish E).Ok):X.Ok:=
 ⟨ok.mod,ok.kind,ok.glob,ok.blt,ok.above,ok.inj,ok.has,ok.cab,ok.hd,ok.frames,ok.stk,ok.exf,ok.bs,ok.bsz,ok.noex,ok.exfs,ok.funs,ok.frf⟩
section
variable{X:Cx}{aa:Ψ}{σ:St}{H:Hp}{s:Shared}{E:Ω}
def Inv.wish(I:Inv X aa σ H s)(E:Ω):Inv (X.wish E) aa σ H s:=⟨I.ok.wish E,I.os,I.bare,I.base,I.loc,I.cell,I.free,I.freeC,I.pin,I.hok,I.len⟩
def Inv.unwish(I:Inv (X.wish E) aa σ H s):Inv X aa σ H s:=⟨I.ok.unwish,I.os,I.bare,I.base,I.loc,I.cell,I.free,I.freeC,I.pin,I.hok,I.len⟩
def SP.unwish{D:Ends}{f:Flow}{s':Shared}(h:SP (X.wish E) aa D f s'):SP X aa D f s':=by
 cases f with
 |next=>obtain⟨a,H',I,q⟩:=h;exact⟨a,H',I.unwish,q⟩
 |brk=>obtain⟨a,H',I,q⟩:=h;exact⟨a,H',I.unwish,q⟩
 |cont=>obtain⟨a,H',I,q⟩:=h;exact⟨a,H',I.unwish,q⟩
 |ret u=>obtain⟨v,a,H',I,r,q⟩:=h;exact⟨v,a,H',I.unwish,r,q⟩
def PSs.nox{st:List Stmt}{t:TS}(h:PSs X.nox st t):PSs X st t:=fun aa s σ H D I hw=>
 wpAny_mono (h aa s σ H D (I.wish _) hw) (fun _ _ q=>q.unwish) fun _ _ z=>False.elim z
end
section
variable{X:Cx}{st:Stmt}{rest:List Stmt}{t u:TS}{e:Expr}{te:TE}{pos:Pos}
def JE:TS:=fun D σ H=>D.nx σ H
def oR(t u:TS):TS:=fun D σ H=>t {D with nx:=u D} σ H
def zq:PSs X [] JE:=fun _ _ σ H _ I h=>wpAny_execs_nil ⟨σ,H,I,h⟩
def zd(h1:PS X st t)(h2:PSs X rest u):PSs X (st::rest) (oR t u):=by
 intro aa s σ H D I h;refine wpAny_execs_cons (aX (h1 aa s σ H {D with nx:=u D} I h) fun f a q=>?_);cases f with
 |next=>
  obtain⟨c,H',d,q⟩:=q;exact h2 aa a c H' D d q
 |ret v=>exact q
 |brk=>exact q
 |cont=>exact q
def zg(h1:PS X st t):PSs X [st] t:=by
 intro aa s σ H D I h;refine wpAny_execs_cons (aX (h1 aa s σ H D I h) fun f a q=>?_);cases f with
 |next=>exact wpAny_execs_nil q
 |ret v=>exact q
 |brk=>exact q
 |cont=>exact q
def JF:TS:=fun D σ H=>D.ct σ H
def JG:PS X (.Continue pos) JF:=fun _ _ σ H _ I h=>wpAny_Continue ⟨σ,H,I,h⟩
def Inv.quiet{aa:Ψ}{σ:St}{H:Hp}{s:Shared}(I:Inv X aa σ H s):interactive X.env=false:=by simp[interactive,I.ok.kind]
def JH(te:TE):TS:=fun D σ H=>te σ H fun _ H1=>D.nx σ H1
def zN(he:PE X e te)(hs:swapsWith e none pos.line X.env=pure false:=by rfl):PS X (.Expr e pos) (JH te):=by
 intro aa s σ H D I h;exact wpAny_Expr_any (aX (he aa s σ H _ I h) fun v c ⟨x,H1,a,d,q1⟩=>⟨σ,H1,a,q1⟩) I.quiet hs
def x6(te:TE):TS:=fun D σ H=>te σ H D.rt
def zm(he:PE X e te):PS X (.Return (some e) pos) (x6 te):=by
 intro aa s σ H D I h;exact wpAny_Return_some (aX (he aa s σ H _ I h) fun v d ⟨x,H1,c,a,q1⟩=>⟨x,σ,H1,c,a,q1⟩)
def yi(c:TT)(t u:TS):TS:=fun D σ H=>c σ H fun b H1=>if b=true then t D σ H1 else u D σ H1
def zU{c:Expr}{a b:List Stmt}{tc:TT}(hc:PT X c tc)(ha:PSs X a t)(hb:PSs X b u):PS X (.If c a b pos) (yi tc t u):=by
 intro aa s σ H D I h;refine wpAny_If (aX (hc aa s σ H _ I h) fun d e ⟨H1,f,q1⟩=>?_);cases d with
 |true=>exact ha aa e σ H1 D f q1
 |false=>exact hb aa e σ H1 D f q1
def JI:TS:=fun _ _ _=>False
def zY{a:List Stmt}:PSs X a JI:=fun _ _ _ _ _ _ h=>h.elim
end
abbrev TG:=V->St->Hp->(St->Hp->Prop)->Prop
abbrev jS:=List V->St->Hp->(St->Hp->Prop)->Prop
def PG(X:Cx)(c:Expr)(t:TG):Prop:=
 ∀(aa:Ψ)(s:Shared)(σ:St)(H:Hp)(v:V)(u:Value)(Q:St->Hp->Prop),Inv X aa σ H s->RelV v u->t v σ H Q->
  wpAny (model X.prog X.w) X.A (assign c X.env u) (fun _ s'=>∃a H',Inv X aa a H' s'/\Q a H') X.xe s
def rG(X:Cx)(ts:List Expr)(t:jS):Prop:=
 ∀(aa:Ψ)(s:Shared)(σ:St)(H:Hp)(vs:List V)(us:List Value)(Q:St->Hp->Prop),Inv X aa σ H s->Vals vs us->t vs σ H Q->
  wpAny (model X.prog X.w) X.A (assignInOrder ((assignEach ts X.env).map (·.2)) us) (fun _ s'=>∃a H',Inv X aa a H' s'/\Q a H') X.xe s
abbrev jV:=V->V->V->Hp->(Hp->Prop)->Prop
def oS(X:Cx)(t:jV):Prop:=
 ∀(aa:Ψ)(s:Shared)(σ:St)(H:Hp)(o i v:V)(a c u:Value)(Q:Hp->Prop),Inv X aa σ H s->RelV o a->RelV i c->RelV v u->t o i v H Q->
  wpAny (model X.prog X.w) X.A (setItem a c u) (fun _ s'=>∃H',Inv X aa σ H' s'/\Q H') X.xe s
section
variable{X:Cx}{pos:Pos}
def cV(i:Nat):TG:=fun v σ H Q=>Q (σ.set i (some v)) H
def zi{i:Nat}{x:Str}(a:X.N.Nodup)(hi:X.N[i]?=some x)(hx:Loc X.env.scope x)(hf:X.fn x=true\/X.env.scope.names.lookup x=some .local:=by first|exact .inl rfl|exact .inr rfl|assumption):PG X (.Name x pos) (cV i):=by
 intro aa s σ H v u Q I r h;exact wpAny_assign_Name (rz I a hi hx r (fun s' c=>⟨_,H,c,h⟩) hf)
def fg:jS:=fun vs σ H Q=>vs=[]/\Q σ H
def gh(t:TG)(u:jS):jS:=fun vs σ H Q=>∃v r,vs=v::r/\t v σ H fun a H'=>u r a H' Q
def mH:rG X [] fg:=by
 intro aa s σ H vs us Q I r h;obtain⟨e,h⟩:=h;subst e;cases r;exact assignInOrder_nil ⟨σ,H,I,h⟩
def fV{e:Expr}{es:List Expr}{t:TG}{u:jS}(h1:PG X e t)(h2:rG X es u)(hs:(assignEach (e::es) X.env).map (·.2)=assign e X.env::(assignEach es X.env).map (·.2):=by rfl):rG X (e::es) (gh t u):=by
 intro aa s σ H vs us Q I r h;obtain⟨v,f,e1,h⟩:=h;subst e1;cases r with
 |cons r rr=>
  rw[hs];refine assignInOrder_cons (aX (h1 aa s σ H _ _ _ I r h) fun _ a ⟨c,H1,d,q1⟩=>?_);exact h2 aa a c H1 _ _ Q d rr q1
def fi(K:Ac)(n:Nat)(t:jS):TG:=fun v σ H Q=>∃a xs,v=.ref a/\SqT K H a xs/\xs.length=n/\t xs σ H Q
def mI{es:List Expr}{k:Nat}{t:jS}{n:Nat}(hc:X.calm=true)(h:rG X es t)(g:(assignEach es X.env).length=n:=by rfl)(c:(assignEach es X.env).findIdx? (·.1)=none:=by rfl):PG X (.Tuple es k pos) (fi X.K n t):=by
 intro aa s σ H v u Q I r hw;obtain⟨a,xs,e1,hq,f,hw⟩:=hw;subst e1;cases r;obtain⟨j,d,ht,hz⟩:=I.tuple hq;refine assign_Tuple_tuple (I.ok.hd hc) ht (by simp[g,<-f,d.length]) c fun h' hx=>?_;have i:Inv X aa σ H {s with heap:=h'}:=I.kept (t':=s.toks) fun b o e=>hx b o (AA (Ap e)) e;exact h aa _ σ H xs _ Q i (by simpa using d) hw
def yj(to a:TE)(t:jV):TG:=fun v σ H Q=>to σ H fun o H1=>a σ H1 fun i H2=>t o i v H2 fun c=>Q σ c
def FI{o i:Expr}{to d:TE}{t:jV}(q:PE X o to)(hi:PE X i d)(hs:oS X t)(ha:∀v,assign (.Subscript o i pos) X.env v=(do
   let a <-holding [v] (eval o X.env)
   let c <-holding [v,a] (eval i X.env)
   standAt pos
   holding [v,a,c] (setItem a c v)
   release [v,a,c] []):=by intro _;rfl):PG X (.Subscript o i pos) (yj to d t):=by
 intro aa s σ H v u Q I r h;rw[ha];refine Aa (A0 (aX (q aa s σ H _ I h) fun a e ⟨x,H1,z,f,q1⟩=>?_));refine Aa (A0 (aX (hi aa e σ H1 _ z q1) fun c g ⟨y,H2,A,j,l⟩=>?_));refine Aa (wpAny_standAt (Aa (A0 (aX (hs aa g σ H2 x y v a c u _ A f j r l) fun _ E ⟨C,D,p⟩=>?_))));exact wpAny_release ⟨σ,C,D,p⟩
def oT(te:TE)(g:TG):TS:=fun D σ H=>te σ H fun x H1=>g x σ H1 D.nx
def FJ{tg e:Expr}{te:TE}{g:TG}(he:PE X e te)(d:PG X tg g)(hs:swapsWithSole [tg] e pos.line X.env=pure false:=by rfl)(hw:swappedStores [tg] e X.env=pure none:=by rfl)(h1:(assignEach [tg] X.env).map (·.2)=[assign tg X.env]:=by rfl):PS X (.Assign [tg] e pos) (oT te g):=by
 intro aa s σ H D I h;refine wpAny_Assign_stores (aX (he aa s σ H _ I h) fun v a ⟨x,H1,f,c,q1⟩=>?_) hs hw;rw[h1];exact aX (d aa a σ H1 x v _ f c q1) fun _ i q=>q
def zk{i:Nat}{x:Str}{e:Expr}{te:TE}{dA:Pos}(c:X.N.Nodup)(hi:X.N[i]?=some x)(hx:Loc X.env.scope x)(he:PE X e te)(hs:swapsWith e (some (.Name x dA)) pos.line X.env=pure false:=by rfl)(hf:X.fn x=true\/X.env.scope.names.lookup x=some .local:=by first|exact .inl rfl|exact .inr rfl|assumption):PS X (.Assign [.Name x dA] e pos) (oT te (cV i)):=by
 intro aa s σ H D I h;refine wpAny_Assign_Name (aX (he aa s σ H _ I h) fun v g ⟨y,H1,d,a,q1⟩=>?_) hs;exact rz d c hi hx a (fun j f=>⟨_,H1,f,q1⟩) hf
def JJ(c:TT)(tb:TS):TS:=fun D σ H=>∃W:Nat->St->Hp->Prop,(∃m,W m σ H)/\∀m σ H,W m σ H->
 c σ H fun b H1=>if b=true then ∃N:St->Hp->Prop,(∀a H',N a H'->∃d,d<m/\W d a H')/\tb {D with nx:=N,ct:=N,bk:=D.nx} σ H1 else D.nx σ H1
def yy{c:Expr}{body:List Stmt}{tc:TT}{tb:TS}(hp:PassesOwn (model X.prog X.w) X.A X.env X.xe)(hc:PT X c tc)(hb:PSs X body tb):PS X (.While c body [] pos) (JJ tc tb):=by
 intro aa s σ H D I h;obtain⟨W,⟨y,z⟩,turn⟩:=h;refine wpAny_While (codeAny_whileLoop (fun n s'=>∃q H',Inv X aa q H' s'/\W n q H') ?_ y ⟨σ,H,I,z⟩);rintro n C ⟨i,H1,F,E⟩;refine wpAny_passesOwn hp (aX (hc aa C i H1 _ F (turn n i H1 E)) fun b x ⟨H2,u,e⟩=>?_);cases b with
 |true=>
  obtain⟨N,r,e⟩:=e;rw[if_pos rfl];refine wpAny_passesOwn hp (aX (hb aa x i H2 _ u e) fun f G g=>?_);cases f with
  |next=>
   obtain⟨a,d,p,j⟩:=g;obtain⟨l,hm,o⟩:=r a d j;exact⟨l,hm,a,d,p,o⟩
  |cont=>
   obtain⟨a,d,p,j⟩:=g;obtain⟨l,hm,o⟩:=r a d j;exact⟨l,hm,a,d,p,o⟩
  |brk=>exact g
  |ret v=>exact g
 |false=>
  rw[if_neg Ak];exact wpAny_execs_nil ⟨i,H2,u,e⟩
end
structure It where
 go:Nat->Hp->Prop
 yld:Nat->Hp->V->Hp->Prop
 stop:Nat->Hp->Prop
def bW(X:Cx)(aa:Ψ)(H:Hp)(b:Addr):Prop:=
 H b=none/\b≠X.env.locals/\b∉X.fs/\(b∈X.ex\/X.s₀⁻¹<=b)/\(∀x c,X.env.cells.lookup x=some c->c≠b)/\∀p∈X.pn++aa,p.1≠b
def Inv.fpOk{X:Cx}{aa:Ψ}{σ:St}{H H':Hp}{s:Shared}{b:Addr}(I:Inv X aa σ H s)(hb:s⁻¹<=b)(a:H' b=none):bW X aa H' b:=by
 refine⟨a,Nat.ne_of_gt (AD I.lt hb),I.nofs hb,.inr (AB I.sz hb),fun x c e z=>?_,fun p hp z=>?_⟩
 ·obtain⟨v,q⟩:=I.cell x c e
  exact absurd (AD q.lt (by rw[z];exact hb)) (Nat.lt_irrefl _)
 ·exact absurd (AD (Ap (I.pin p hp).1) (by rw[z];exact hb)) (Nat.lt_irrefl _)
structure Turn(P:Program)(w:World)(K:Ac)(tg:Expr)(J:It)(fp:List Addr)(it:Addr)(tn:Nat->Heap->Prop):Prop where
 mem:it∈fp
 obj:∀i h,tn i h->∀b∈fp,∃o,h.get? b=some o/\∀v,o.data≠.cell v
 keep:∀i h h',tn i h->(∀b∈fp,∀o,h.get? b=some o->h'.get? b=some o)->tn i h'
 item:∀(X:Cx),X.prog=P->X.w=w->X.K=K->X.calm=true->∀(i:Nat)(aa:Ψ)(s:Shared)(σ:St)(H:Hp)(E:Ω),Inv X aa σ H s->(∀b∈fp,bW X aa H b)->tn i s.heap->J.go i H->
  wpAny (model P w) X.A (pyNext (.ref it)) (fun r s1=>∃u,r=some u/\
   wpAny (model P w) X.A (letOwnedTupleGo tg (.ref it) u) (fun _ s2=>∃x H',Inv X aa σ H' s2/\RelV x u/\J.yld i H x H'/\tn (i+1) s2.heap/\∀b∈fp,H' b=none) E s1) E s
 done:∀(X:Cx),X.prog=P->X.w=w->X.K=K->X.calm=true->∀(i:Nat)(aa:Ψ)(s:Shared)(σ:St)(H:Hp)(E:Ω),Inv X aa σ H s->(∀b∈fp,bW X aa H b)->tn i s.heap->J.stop i H->
  wpAny (model P w) X.A (pyNext (.ref it)) (fun r s1=>r=none/\Inv X aa σ H s1) E s
 self:∀(A:Around)(i:Nat)(s:Shared)(Q:Ω)(E:Ω),tn i s.heap->Q (.ref it) s->wpAny (model P w) A (pyIter (.ref it)) Q E s
abbrev TI:=St->Hp->(It->Hp->Prop)->Prop
def yG(X:Cx)(aa:Ψ)(σ:St)(tg:Expr)(R:It->Hp->Prop)(d:Value)(a:Shared):Prop:=
 ∃(it:Addr)(fp:List Addr)(c:Nat->Heap->Prop)(J:It)(H':Hp),d=.ref it/\Inv X aa σ H' a/\Turn X.prog X.w X.K tg J fp it c/\c 0 a.heap/\(∀b∈fp,bW X aa H' b)/\R J H'
def PI(X:Cx)(tg iter:Expr)(wi:TI):Prop:=
 ∀(aa:Ψ)(s:Shared)(σ:St)(H:Hp)(R:It->Hp->Prop),Inv X aa σ H s->wi σ H R->
  wpAny (model X.prog X.w) X.A (eval iter X.env) (fun v a=>wpAny (model X.prog X.w) X.A (pyIter v) (yG X aa σ tg R) X.xe a) X.xe s
def mJ{M:Model}{A:Around}{E:Ω}{s:Shared}{tg:Expr}{it:Addr}{u:Value}{o:Obj}{n:String}{vs:Array Value}{Q:Unit->Shared->Prop}(c:s.heap.get? it=some o)(hc:o.cls=.type n)(hd:o.data=.fields vs)(d:["enumerate","zip","dict_itemiterator","dict_reverseitemiterator","odict_iterator","itertools.zip_longest","itertools.pairwise"].contains n=false)(a:Q () s):wpAny M A (letOwnedTupleGo tg (.ref it) u) Q E s:=by
 unfold letOwnedTupleGo;cases tg<;>first
  |exact Ad a
  |(cases u<;>first
    |exact Ad a
    |(refine Aa (wpAny_load c ?_);rw[hc,hd];show wpAny M A (if(["enumerate","zip","dict_itemiterator","dict_reverseitemiterator","odict_iterator","itertools.zip_longest","itertools.pairwise"].contains n&&vs[0]?==some (rawInt _))=true then _ else _) Q E s;rw[if_neg (by intro h;rw[d,Bool.false_and] at h;cases h)];exact Ad a))
def eI(K:Ac)(a:Addr):It:=
 ⟨fun i H=>∃xs x,SqL K H a xs/\xs[i]?=some x,fun i H x H'=>H'=H/\∀xs,SqL K H a xs->xs[i]?=some x,fun i H=>∃xs,SqL K H a xs/\xs.length<=i⟩
def jl(K:Ac)(a:Addr):It:=
 ⟨fun i H=>∃xs x,SqT K H a xs/\xs[i]?=some x,fun i H x H'=>H'=H/\∀xs,SqT K H a xs->xs[i]?=some x,fun i H=>∃xs,SqT K H a xs/\xs.length<=i⟩
def g0(lo:Int)(n:Nat):It:=⟨fun i _=>i<n,fun i H x H'=>H'=H/\x=.int (lo+i),fun i _=>n<=i⟩
def JK{P:Program}{w:World}{K:Ac}{tg:Expr}(a it:Addr):Turn P w K tg (eI K a) [it] it (fun i h=>h.IsListIter it a i) where
 mem:=by simp
 obj:=fun i h st b hb=>by
  have e:b=it:=by simpa using hb
  subst e;obtain⟨o,e,c,d⟩:=st;exact⟨o,e,fun v z=>by rw[d] at z;cases z⟩
 keep:=fun i h h' st k=>st.at fun o e=>k it (by simp) o e
 item:=by
  intro X f hw g hc i aa s σ H E I hf st j;subst f hw g;obtain⟨xs,x,hq,hx⟩:=j;obtain⟨A,l,p,hz⟩:=I.list hq;obtain⟨u,hu,C⟩:=l.get hx;obtain⟨f0,f1,f2,f3,f4,f5⟩:=hf it (by simp);refine wpAny_pyNext_list_item st p.isList (x:=u) (by simpa using hu) fun h' q r=>?_;have D:Inv X aa σ H {s with heap:=h'}:=I.turned (t':=s.toks) (fun b o hb e=>(r.2 b hb).trans e) f0 f1 f3 f4 f5;obtain⟨o,e,c,d⟩:=id q;exact⟨u,rfl,mJ (s:={s with heap:=h'}) e c d ξ ⟨x,H,D,C,⟨rfl,fun ys hy=>by rw[I.list_inj hy hq];exact hx⟩,q,fun b hb=>(hf b hb).1⟩⟩
 done:=by
  intro X f hw g hc i aa s σ H E I hf st j;subst f hw g;obtain⟨xs,hq,hx⟩:=j;obtain⟨A,l,p,hz⟩:=I.list hq;obtain⟨f0,f1,f2,f3,f4,f5⟩:=hf it (by simp);have F:=l.length;exact wpAny_pyNext_list_end (I.ok.hd hc) st p.isList (by simp;(first|lia|omega)) fun h' y=>⟨rfl,I.turned (t':=s.toks) (fun b o hb e=>y b o hb e) f0 f1 f3 f4 f5⟩
 self:=fun _ _ _ _ _ st h=>wpAny_pyIter_listiter st h
def JL{P:Program}{w:World}{K:Ac}{tg:Expr}(a it:Addr):Turn P w K tg (jl K a) [it] it (fun i h=>h.IsTupleIter it a i) where
 mem:=by simp
 obj:=fun i h st b hb=>by
  have e:b=it:=by simpa using hb
  subst e;obtain⟨o,e,c,d⟩:=st;exact⟨o,e,fun v z=>by rw[d] at z;cases z⟩
 keep:=fun i h h' st k=>st.at fun o e=>k it (by simp) o e
 item:=by
  intro X f hw g hc i aa s σ H E I hf st j;subst f hw g;obtain⟨xs,x,hq,hx⟩:=j;obtain⟨l,q,p,hz⟩:=I.tuple hq;obtain⟨u,hu,C⟩:=q.get hx;obtain⟨f0,f1,f2,f3,f4,f5⟩:=hf it (by simp);refine wpAny_pyNext_tuple_item st (show s.heap.IsTuple a l.toArray from p) (x:=u) (by simpa using hu) fun h' r y=>?_;have D:Inv X aa σ H {s with heap:=h'}:=I.turned (t':=s.toks) (fun b o hb e=>(y.2 b hb).trans e) f0 f1 f3 f4 f5;obtain⟨o,e,c,d⟩:=id r;exact⟨u,rfl,mJ (s:={s with heap:=h'}) e c d ξ ⟨x,H,D,C,⟨rfl,fun ys hy=>by rw[I.tuple_inj hy hq];exact hx⟩,r,fun b hb=>(hf b hb).1⟩⟩
 done:=by
  intro X f hw g hc i aa s σ H E I hf st j;subst f hw g;obtain⟨xs,hq,hx⟩:=j;obtain⟨l,q,p,hz⟩:=I.tuple hq;obtain⟨f0,f1,f2,f3,f4,f5⟩:=hf it (by simp);have F:=q.length;exact wpAny_pyNext_tuple_end (I.ok.hd hc) st (show s.heap.IsTuple a l.toArray from p) (by simp;(first|lia|omega)) fun h' A=>⟨rfl,I.turned (t':=s.toks) (fun b o hb e=>A b o hb e) f0 f1 f3 f4 f5⟩
 self:=fun _ _ _ _ _ st h=>wpAny_pyIter_tupleiter st h
def JM{P:Program}{w:World}{K:Ac}{tg:Expr}(it:Addr)(lo:Int)(n:Nat):Turn P w K tg (g0 lo n) [it] it (fun i h=>IsRangeIter h it (lo+(i:Nat)*1) ((n:Int)-(i:Nat)) 1) where
 mem:=by simp
 obj:=fun i h st b hb=>by
  have e:b=it:=by simpa using hb
  subst e;exact⟨_,st,fun v z=>by
   have p:Data.fields _=Data.cell v:=z;cases p⟩
 keep:=fun i h h' st k=>k it (by simp) _ st
 item:=by
  intro X a hw c hc i aa s σ H E I hf st d;subst a hw c;obtain⟨f0,f1,f2,f3,f4,f5⟩:=hf it (by simp);have W:=Walks.range (prog:=X.prog) (w:=X.w) (I.ok.hd hc) it lo 1 n;refine W.item i s _ _ d st fun v h' tk g f j=>?_;obtain⟨t,rfl⟩:=g;have q:Inv X aa σ H {s with heap:=h',toks:=tk}:=I.turned (fun b o hb e=>j b o (by simpa using hb) e) f0 f1 f3 f4 f5;refine⟨_,rfl,mJ (s:={s with heap:=h',toks:=tk}) (n:="range_iterator") f rfl rfl ξ ⟨.int (lo+i),H,q,⟨t,?_⟩,⟨rfl,rfl⟩,f,fun b hb=>(hf b hb).1⟩⟩;rw[Int.mul_one]
 done:=by
  intro X a hw c hc i aa s σ H E I hf st d;subst a hw c;obtain⟨f0,f1,f2,f3,f4,f5⟩:=hf it (by simp);exact wpAny_pyNext_range_end (I.ok.hd hc) st (by have:n<=i:=d;(first|lia|omega)) fun h' l=>⟨rfl,I.turned (t':=s.toks) (fun b o hb e=>l b o hb e) f0 f1 f3 f4 f5⟩
 self:=fun _ _ _ _ _ st h=>wpAny_pyIter_rangeiter st h
section
variable{X:Cx}{tg:Expr}
def JN(K:Ac)(tl:TE):TI:=fun σ H R=>tl σ H fun x H1=>∃a,x=.ref a/\(∃xs,SqL K H1 a xs)/\R (eI K a) H1
def yU(K:Ac)(tl:TE):TI:=fun σ H R=>tl σ H fun x H1=>∃a,x=.ref a/\(∃xs,SqT K H1 a xs)/\R (jl K a) H1
def zv{l:Expr}{tl:TE}(f:PE X l tl):PI X tg l (JN X.K tl):=by
 intro aa s σ H R I h;refine aX (f aa s σ H _ I h) fun v c ⟨x,H1,I1,d,q1⟩=>?_;obtain⟨a,e,⟨xs,hq⟩,q⟩:=q1;subst e;cases d;obtain⟨g,i,p,hz⟩:=I1.list hq;refine wpAny_pyIter_list p.isList ?_;refine⟨c⁻¹,[c⁻¹],_,_,H1,rfl,I1.kept (t':=c.toks) fun b o e=>Ae _ e,JK a _,⟨_,Aq _ rfl,rfl,rfl⟩,fun b hb=>?_,q⟩;have e:b=c⁻¹:=by simpa using hb
 subst e;exact I1.fpOk (Ag _) (I1.hok.fresh (Ag _))
def jW{l:Expr}{tl:TE}(g:PE X l tl):PI X tg l (yU X.K tl):=by
 intro aa s σ H R I h;refine aX (g aa s σ H _ I h) fun v c ⟨x,H1,I1,d,q1⟩=>?_;obtain⟨a,e,⟨xs,hq⟩,q⟩:=q1;subst e;cases d;obtain⟨f,i,p,hz⟩:=I1.tuple hq;refine wpAny_pyIter_tuple (show c.heap.IsTuple a f.toArray from p) ?_;refine⟨c⁻¹,[c⁻¹],_,_,H1,rfl,I1.kept (t':=c.toks) fun b o e=>Ae _ e,JL a _,⟨_,Aq _ rfl,rfl,rfl⟩,fun b hb=>?_,q⟩;have e:b=c⁻¹:=by simpa using hb
 subst e;exact I1.fpOk (Ag _) (I1.hok.fresh (Ag _))
def FK{aa:Ψ}{σ:St}{H:Hp}{s:Shared}{R:It->Hp->Prop}{E:Ω}{lo hi:Int}{t u v:Tok}{tk:Nat}(I:Inv X aa σ H s)(h1:-(2 ^ 62)<=lo)(h2:lo<2 ^ 62)(a:-(2 ^ 62)<=hi)(c:hi<2 ^ 62)(q:R (g0 lo (hi-lo).toNat) H):wpAny (model X.prog X.w) X.A (pyIter (.ref s⁻¹)) (yG X aa σ tg R) E {s with heap:=s.heap.push {cls:=.type "range",data:=.fields #[.int lo t,.int hi u,.int 1 v]},toks:=tk}:=by
 refine wpAny_pyIter_range (IsRange.new ..) (small_one h1 h2 a c) ?_;have I1:Inv X aa σ H {s with heap:=s.heap.push {cls:=.type "range",data:=.fields #[.int lo t,.int hi u,.int 1 v]},toks:=tk}:=I.kept fun b o e=>Ae _ e;refine⟨(s.heap.push {cls:=.type "range",data:=.fields #[.int lo t,.int hi u,.int 1 v]}).objs.size,[(s.heap.push {cls:=.type "range",data:=.fields #[.int lo t,.int hi u,.int 1 v]}).objs.size],_,_,H,rfl,
  I1.kept (t':=tk) fun b o e=>Ae _ e,JM _ lo (hi-lo).toNat,?_,fun b hb=>?_,q⟩
 ·have e1:lo+((0:Nat):Int)*1=lo:=by simp
  have e2:(((hi-lo).toNat:Nat):Int)-((0:Nat):Int)=Builtin.Range.rangeSize lo hi 1:=by rw[rangeSize_one];split<;>(first|lia|omega)
  show IsRangeIter _ _ (lo+((0:Nat):Int)*1) ((((hi-lo).toNat:Nat):Int)-((0:Nat):Int)) 1;rw[e1,e2];exact Aq _ rfl
 ·have e:b=(s.heap.push {cls:=.type "range",data:=.fields #[.int lo t,.int hi u,.int 1 v]}).objs.size:=by simpa using hb
  subst e;exact I1.fpOk (Ag _) (I1.hok.fresh (Ag _))
def JO(ta:TA):TI:=fun σ H R=>ta σ H fun vs H1=>∃j:Int,vs=[.int j]/\-(2 ^ 62)<=j/\j<2 ^ 62/\R (g0 0 j.toNat) H1
def JP(ta:TA):TI:=fun σ H R=>ta σ H fun vs H1=>∃i j:Int,vs=[.int i,.int j]/\(-(2 ^ 62)<=i/\i<2 ^ 62/\-(2 ^ 62)<=j/\j<2 ^ 62)/\R (g0 i (j-i).toNat) H1
def mN{a:Expr}{ta:TA}{p pos:Pos}(f:Gl X "range")(hm:X.mg "range"=none)(ha:PA X [a] ta)(hs:starEach [a] X.env=[(false,eval a X.env)]:=by rfl):PI X tg (.Call (.Name "range" p) [a] [] pos) (JO ta):=by
 intro aa s σ H R I h;refine Call_ (hY I f hm boot_range (PyProof.Rows.callWith_type1 (aX (ha pos aa s σ H _ I h) fun us i ⟨vs,H1,g,c,q1⟩=>?_) hs rfl));obtain⟨j,e,q1,d,q⟩:=q1;subst e;cases c with
 |cons r rr=>
  cases rr;obtain⟨t,rfl⟩:=r;exact call_range_1 (FK g ω ω q1 d (by simpa using q))
def JQ{a b:Expr}{ta:TA}{p pos:Pos}(o:Gl X "range")(hm:X.mg "range"=none)(ha:PA X [a,b] ta)(hs:starEach [a,b] X.env=[(false,eval a X.env),(false,eval b X.env)]:=by rfl)(c:starEach [b] X.env=[(false,eval b X.env)]:=by rfl):PI X tg (.Call (.Name "range" p) [a,b] [] pos) (JP ta):=by
 intro aa s σ H R I h;refine Call_ (hY I o hm boot_range (PyProof.Rows.callWith_type1 (aX (ha pos aa s σ H _ I h) fun us v ⟨vs,H1,u,d,q1⟩=>?_) (by rw[hs,c]) (by rw[c];rfl)));obtain⟨i,j,e,⟨q1,f,g,l⟩,q⟩:=q1;subst e;cases d with
 |cons r rr=>
  cases rr with
  |cons r' rr=>
   cases rr;obtain⟨t,rfl⟩:=r;obtain⟨t',rfl⟩:=r';exact call_range_2 (FK u q1 f g l q)
def y9(wi:TI)(g:TG)(tb:TS):TS:=fun D σ H=>wi σ H fun J H1=>∃W:Nat->Nat->St->Hp->Prop,(∃m,W 0 m σ H1)/\∀i m σ H,W i m σ H->
 (J.stop i H/\D.nx σ H)\/(J.go i H/\∃N:St->Hp->Prop,(∀a H',N a H'->∃c,c<m/\W (i+1) c a H')/\∀x H',J.yld i H x H'->g x σ H' fun d H2=>tb {D with nx:=N,ct:=N,bk:=D.nx} d H2)
def oV(fp:List Addr)(h:Heap):Ψ:=fp.filterMap fun b=>(h.get? b).map fun o=>(b,o)
def rO{fp:List Addr}{h:Heap}{b:Addr}{o:Obj}(hb:b∈fp)(e:h.get? b=some o):(b,o)∈oV fp h:=List.mem_filterMap.mpr ⟨b,hb,by rw[e];rfl⟩
def JR{fp:List Addr}{h:Heap}{p:Addr×Obj}(hp:p∈oV fp h):p.1∈fp/\h.get? p.1=some p.2:=by
 obtain⟨b,hb,e⟩:=List.mem_filterMap.mp hp;cases q:h.get? b with
 |none=>rw[q] at e;cases e
 |some o=>
  rw[q] at e;have e':(b,o)=p:=As e;subst e';exact⟨hb,q⟩
def Inv.pinned{aa:Ψ}{σ:St}{H:Hp}{s:Shared}{fp:List Addr}(I:Inv X aa σ H s)(hf:∀b∈fp,bW X aa H b)(a:∀b∈fp,∃o,s.heap.get? b=some o/\∀v,o.data≠.cell v):Inv X (aa++oV fp s.heap) σ H s:=
 I.pins_of fun p hp=>(List.mem_append.mp hp).elim (fun z=>I.pin p (Az _ z)) fun z=>by
  obtain⟨hb,e⟩:=JR z;obtain⟨f0,f1,f2,_⟩:=hf p.1 hb;obtain⟨o,e',d⟩:=a p.1 hb;rw[e] at e';cases e';exact⟨e,f0,f1,f2,d⟩
def Inv.unpinned{aa a:Ψ}{σ:St}{H:Hp}{s:Shared}(I:Inv X (aa++a) σ H s):Inv X aa σ H s:=I.pins_of fun p hp=>I.pin p (Az _ (Aw _ hp))
def zV{iter:Expr}{body:List Stmt}{wi:TI}{g:TG}{tb:TS}{pos:Pos}(hp:PassesOwn (model X.prog X.w) X.A X.env X.xe)(hc:X.calm=true)(hi:PI X tg iter wi)(hg:PG X tg g)(hb:PSs X body tb)(hs:∀x,foldedSetIterable iter X.env x=pure x:=by intro _;rfl):PS X (.For tg iter body [] pos) (y9 wi g tb):=by
 intro aa s σ H D I h;refine wpAny_For (aX (hi aa s σ H _ I h) fun v s1 h1=>aX h1 fun oY s2 h2=>?_) hs;obtain⟨it,fp,L,J,H2,e,I2,T,bR,f2,W,⟨m0,w0⟩,turn⟩:=h2;subst e;have c:∀{H':Hp},(∀b∈fp,H' b=none)->∀b∈fp,bW X aa H' b:=fun U b hb=>⟨U b hb,(f2 b hb).2⟩;refine codeAny_forLoop_any (fun n s'=>∃i y H',Inv X aa y H' s'/\L i s'.heap/\(∀b∈fp,H' b=none)/\W i n y H') ?_ m0 ⟨0,σ,H2,I2,bR,fun b hb=>(f2 b hb).1,w0⟩;rintro n M ⟨i,z,C,S,O,P,w3⟩;rcases turn i n z C w3 with ⟨stop,qn⟩|⟨go,N,hN,step⟩
 ·refine wpAny_passesOwn hp (aX (T.done X rfl rfl rfl hc i aa M z C X.xe S (c P) O stop) fun r Y ⟨hr,I4⟩=>?_)
  subst hr;exact wpAny_execs_nil ⟨z,C,I4,qn⟩
 ·refine wpAny_passesOwn hp (aX (T.item X rfl rfl rfl hc i aa M z C X.xe S (c P) O go) fun r Y ⟨u,hr,Z⟩=>?_)
  subst hr;refine wpAny_passesOwn hp (aX Z fun _ G ⟨x,Q,I5,r5,y5,p,E⟩=>?_);have oU:=I5.pinned (c E) (T.obj _ _ p);refine wpAny_passesOwn hp (aX (hg _ G z Q x u _ oU r5 (step x Q y5)) fun _ s6 ⟨kh,H6,I6,q6⟩=>?_);refine wpAny_passesOwn hp (aX (hb _ s6 kh H6 _ I6 q6) fun f F l=>?_);have again:∀{a:St}{j:Hp},Inv X (aa++oV fp G.heap) a j F->N a j->∃m,m<n/\∃i y H',Inv X aa y H' F/\L i F.heap/\(∀b∈fp,H' b=none)/\W i m y H':=fun{a j} I7 q=>by
   obtain⟨m',hm,w7⟩:=hN a j q;refine⟨m',hm,i+1,a,j,I7.unpinned,T.keep _ _ _ p fun b hb o e=>(I7.pin (b,o) (Az _ (Az _ (rO hb e)))).1,fun b hb=>?_,w7⟩;obtain⟨o,e,d⟩:=T.obj _ _ p b hb;exact(I7.pin (b,o) (Az _ (Az _ (rO hb e)))).2.1
  cases f with
  |next=>obtain⟨a,j,I7,q⟩:=l;exact again I7 q
  |cont=>obtain⟨a,j,I7,q⟩:=l;exact again I7 q
  |brk=>obtain⟨a,j,I7,l⟩:=l;exact⟨a,j,I7.unpinned,l⟩
  |ret v=>obtain⟨x7,a,j,I7,r7,l⟩:=l;exact⟨x7,a,j,I7.unpinned,r7,l⟩
end
def zK{K:Ac}{a:Addr}{xs:List V}{g:TG}{tb:TS}{D:Ends}{σ:St}{H:Hp}(c:Nat->St->Hp->Prop)(o:c 0 σ H)(r:∀i σ H,i<=xs.length->c i σ H->SqL K H a xs)(hs:∀i x σ H,xs[i]?=some x->c i σ H->g x σ H fun f H2=>tb {D with nx:=c (i+1),ct:=c (i+1),bk:=D.nx} f H2)(hd:∀σ H,c xs.length σ H->D.nx σ H):∃W:Nat->Nat->St->Hp->Prop,(∃m,W 0 m σ H)/\∀i m σ H,W i m σ H->
   ((eI K a).stop i H/\D.nx σ H)\/((eI K a).go i H/\∃N:St->Hp->Prop,(∀h H',N h H'->∃j,j<m/\W (i+1) j h H')/\∀x H',(eI K a).yld i H x H'->g x σ H' fun f H2=>tb {D with nx:=N,ct:=N,bk:=D.nx} f H2):=by
 refine⟨fun i m σ H=>m=xs.length-i/\i<=xs.length/\c i σ H,⟨xs.length,by simp,AY _,o⟩,?_⟩;rintro i m σ H ⟨rfl,hi,p⟩;have q:=r i σ H hi p
 by_cases d:i<xs.length
 ·refine .inr ⟨⟨xs,xs[i],q,by simp[d]⟩,c (i+1),fun h H' l=>⟨xs.length-(i+1),ω,rfl,d,l⟩,fun x H' y=>?_⟩
  obtain⟨e,y⟩:=y;subst e;exact hs i x σ _ (y xs q) p
 ·have e:i=xs.length:=ω
  subst e;exact .inl ⟨⟨xs,q,Ag _⟩,hd σ H p⟩
def rT{K:Ac}{a:Addr}{xs:List V}{g:TG}{tb:TS}{D:Ends}{σ:St}{H:Hp}(c:Nat->St->Hp->Prop)(o:c 0 σ H)(r:∀i σ H,i<=xs.length->c i σ H->SqT K H a xs)(hs:∀i x σ H,xs[i]?=some x->c i σ H->g x σ H fun f H2=>tb {D with nx:=c (i+1),ct:=c (i+1),bk:=D.nx} f H2)(hd:∀σ H,c xs.length σ H->D.nx σ H):∃W:Nat->Nat->St->Hp->Prop,(∃m,W 0 m σ H)/\∀i m σ H,W i m σ H->
   ((jl K a).stop i H/\D.nx σ H)\/((jl K a).go i H/\∃N:St->Hp->Prop,(∀h H',N h H'->∃j,j<m/\W (i+1) j h H')/\∀x H',(jl K a).yld i H x H'->g x σ H' fun f H2=>tb {D with nx:=N,ct:=N,bk:=D.nx} f H2):=by
 refine⟨fun i m σ H=>m=xs.length-i/\i<=xs.length/\c i σ H,⟨xs.length,by simp,AY _,o⟩,?_⟩;rintro i m σ H ⟨rfl,hi,p⟩;have q:=r i σ H hi p
 by_cases d:i<xs.length
 ·refine .inr ⟨⟨xs,xs[i],q,by simp[d]⟩,c (i+1),fun h H' l=>⟨xs.length-(i+1),ω,rfl,d,l⟩,fun x H' y=>?_⟩
  obtain⟨e,y⟩:=y;subst e;exact hs i x σ _ (y xs q) p
 ·have e:i=xs.length:=ω
  subst e;exact .inl ⟨⟨xs,q,Ag _⟩,hd σ H p⟩
def JS{lo:Int}{n:Nat}{g:TG}{tb:TS}{D:Ends}{σ:St}{H:Hp}(c:Nat->St->Hp->Prop)(l:c 0 σ H)(hs:∀i σ H,i<n->c i σ H->g (.int (lo+i)) σ H fun d H2=>tb {D with nx:=c (i+1),ct:=c (i+1),bk:=D.nx} d H2)(hd:∀σ H,c n σ H->D.nx σ H):∃W:Nat->Nat->St->Hp->Prop,(∃m,W 0 m σ H)/\∀i m σ H,W i m σ H->
   ((g0 lo n).stop i H/\D.nx σ H)\/((g0 lo n).go i H/\∃N:St->Hp->Prop,(∀f H',N f H'->∃h,h<m/\W (i+1) h f H')/\∀x H',(g0 lo n).yld i H x H'->g x σ H' fun d H2=>tb {D with nx:=N,ct:=N,bk:=D.nx} d H2):=by
 refine⟨fun i m σ H=>m=n-i/\i<=n/\c i σ H,⟨n,by simp,AY _,l⟩,?_⟩;rintro i m σ H ⟨rfl,hi,p⟩
 by_cases a:i<n
 ·refine .inr ⟨a,c (i+1),fun f H' j=>⟨n-(i+1),ω,rfl,a,j⟩,fun x H' y=>?_⟩
  obtain⟨e,y⟩:=y;subst e y;exact hs i σ _ a p
 ·have e:i=n:=ω
  subst e;exact .inl ⟨Ag _,hd σ H p⟩
abbrev R2:=V->V->Hp->VK->Prop
def cG(X:Cx)(f:Value->Value->Sem Value)(r:R2):Prop:=
 ∀(aa:Ψ)(s:Shared)(σ:St)(H:Hp)(x y:V)(v u:Value)(Q:VK),Inv X aa σ H s->RelV x v->RelV y u->r x y H Q->
  wpAny (model X.prog X.w) X.A (f v u) (EP X aa σ Q) X.xe s
def y_(X:Cx)(f:Value->Sem Value)(r:V->Hp->VK->Prop):Prop:=
 ∀(aa:Ψ)(s:Shared)(σ:St)(H:Hp)(x:V)(v:Value)(Q:VK),Inv X aa σ H s->RelV x v->r x H Q->
  wpAny (model X.prog X.w) X.A (f v) (EP X aa σ Q) X.xe s
def fm(X:Cx)(f:Value)(r:List V->Hp->VK->Prop):Prop:=
 ∀(aa:Ψ)(s:Shared)(σ:St)(H:Hp)(xs:List V)(us:List Value)(Q:VK),Inv X aa σ H s->Vals xs us->r xs H Q->
  wpAny (model X.prog X.w) X.A (call f us) (EP X aa σ Q) X.xe s
def dv(r:R2)(ta tb:TE):TE:=fun σ H Q=>ta σ H fun x H1=>tb σ H1 fun y H2=>r x y H2 Q
def zc(r:V->Hp->VK->Prop)(ta:TE):TE:=fun σ H Q=>ta σ H fun x H1=>r x H1 Q
def rI(C:Int->Int->Prop)(g:Int->Int->V):R2:=fun x y H Q=>∃i j,x=.int i/\y=.int j/\C i j/\Q (g i j) H
def hJ(g:Int->Int->V):R2:=fun x y H Q=>∃i j,x=.int i/\y=.int j/\Q (g i j) H
def rU(g:Int->V):V->Hp->VK->Prop:=fun x H Q=>∃i,x=.int i/\Q (g i) H
section
variable{X:Cx}{a b c:Expr}{ta tb tc:TE}{pos:Pos}
def j0(ha:PE X a ta)(hb:PE X b tb){aa:Ψ}{s:Shared}{σ:St}{H:Hp}{R:V->V->Hp->Prop}(I:Inv X aa σ H s)(h:ta σ H fun x H1=>tb σ H1 fun y H2=>R x y H2){Q:Ω}{f:Value->Value->Sem Value}(hf:∀v u c x y H2,Inv X aa σ H2 c->RelV x v->RelV y u->R x y H2->wpAny (model X.prog X.w) X.A (f v u) Q X.xe c):wpAny (model X.prog X.w) X.A (eval a X.env) (fun v d=>wpAny (model X.prog X.w) X.A (eval b X.env) (fun u e=>wpAny (model X.prog X.w) X.A (f v u) Q X.xe e) X.xe d) X.xe s:=by
 refine aX (ha aa s σ H _ I h) fun v g ⟨x,H1,o,i,q1⟩=>?_;refine aX (hb aa g σ H1 _ o q1) fun u c ⟨y,H2,p,j,l⟩=>?_;exact hf v u c x y H2 p i j l
def zu{op:Operator}{r:R2}(f:cG X (binaryOp op) r)(ha:PE X a ta)(hb:PE X b tb):PE X (.BinOp a op b pos) (dv r ta tb):=by
 intro aa s σ H Q I h;exact wpAny_BinOp (j0 ha hb I h fun v u c x y H2 g d e q=>f aa c σ H2 x y v u Q g d e q)
def mP{op:UnaryOp}{r:V->Hp->VK->Prop}(e:y_ X (unaryOp op) r)(ha:PE X a ta):PE X (.UnaryOp op a pos) (zc r ta):=by
 intro aa s σ H Q I h;exact UnaryOp_ (aX (ha aa s σ H _ I h) fun v c ⟨x,H1,f,d,q1⟩=>e aa c σ H1 x v Q f d q1)
def rY{f:Value->Value->Sem Value}{C:Int->Int->Prop}{g:Int->Int->Int}(rule:∀(i j:Int)(t u:Tok)(s:Shared)(Q:Ω)(E:Ω),C i j->Q (.int (g i j) s.toks) {s with toks:=s.toks+1}->wpAny (model X.prog X.w) X.A (f (.int i t) (.int j u)) Q E s):cG X f (rI C fun i j=>.int (g i j)):=by
 intro aa s σ H x y v u Q I a c h;obtain⟨i,j,rfl,rfl,hc,q⟩:=h;obtain⟨t,rfl⟩:=a;obtain⟨t',rfl⟩:=c;exact rule i j t t' s _ _ hc ⟨.int (g i j),H,I.tok _,⟨_,rfl⟩,q⟩
def o0{f:Value->Value->Sem Value}{g:Int->Int->Int}(rule:∀(i j:Int)(t u:Tok)(s:Shared)(Q:Ω)(E:Ω),Q (.int (g i j) s.toks) {s with toks:=s.toks+1}->wpAny (model X.prog X.w) X.A (f (.int i t) (.int j u)) Q E s):cG X f (hJ fun i j=>.int (g i j)):=by
 intro aa s σ H x y v u Q I a c h;obtain⟨i,j,rfl,rfl,q⟩:=h;obtain⟨t,rfl⟩:=a;obtain⟨t',rfl⟩:=c;exact rule i j t t' s _ _ ⟨.int (g i j),H,I.tok _,⟨_,rfl⟩,q⟩
def ii{f:Value->Value->Sem Value}{g:Int->Int->Bool}(rule:∀(i j:Int)(t u:Tok)(s:Shared)(Q:Ω)(E:Ω),Q (.bool (g i j)) s->wpAny (model X.prog X.w) X.A (f (.int i t) (.int j u)) Q E s):cG X f (hJ fun i j=>.bl (g i j)):=by
 intro aa s σ H x y v u Q I a c h;obtain⟨i,j,rfl,rfl,q⟩:=h;obtain⟨t,rfl⟩:=a;obtain⟨t',rfl⟩:=c;exact rule i j t t' s _ _ ⟨.bl (g i j),H,I,rfl,q⟩
def zz(i j:Int):Prop:=0<j/\j<1073741824
def o7(i j:Int):Prop:=0<=j/\j<=1000000/\i.natAbs<2 ^ 64
def CMul(i j:Int):Prop:=(-(2 ^ 64)<i/\i<2 ^ 64)\/(-(2 ^ 64)<j/\j<2 ^ 64)
def CMul.ok{i j:Int}(h:CMul i j):IntMulOk i j:=by
 rcases h with ⟨h1,h2⟩|⟨h1,h2⟩
 ·exact .of_left (intBits_le_64 h1 h2)
 ·exact .of_right (intBits_le_64 h1 h2)
def dn:cG X (binaryOp .Add) (hJ fun i j=>.int (i+j)):=o0 fun _ _ _ _ _ _ _ q=>add_int q
def FM:cG X (binaryOp .Sub) (hJ fun i j=>.int (i-j)):=o0 fun _ _ _ _ _ _ _ q=>sub_int q
def dU:cG X (binaryOp .Mult) (rI CMul fun i j=>.int (i*j)):=rY fun _ _ _ _ _ _ _ hc q=>mul_int q hc.ok
def FN:cG X (binaryOp .FloorDiv) (rI zz fun i j=>.int (i / j)):=rY fun i j _ _ _ _ _ hc q=>by
 have h1:(0:Int)<j:=hc.1;have h2:j<1073741824:=hc.2;exact floordiv_int ω (by rw[Int.fdiv_eq_ediv_of_nonneg i ω];exact q) (.inl (PyProof.noPylong_small ω))
def jm:cG X (binaryOp .Mod) (rI (fun _ j=>0<j) fun i j=>.int (i%j)):=rY fun i j _ _ _ _ _ hc q=>by
 have h1:(0:Int)<j:=hc;exact mod_int' ω (by rw[Int.fmod_eq_emod_of_nonneg i ω];exact q)
def rZ:cG X (binaryOp .Pow) (rI o7 fun i j=>.int (i ^ j.toNat)):=rY fun _ _ _ _ _ _ _ hc q=>pow_int_small hc.1 hc.2.1 hc.2.2 q
def JT{f:Value->Sem Value}{g:Int->Int}(rule:∀(i:Int)(t:Tok)(s:Shared)(Q:Ω)(E:Ω),Q (.int (g i) s.toks) {s with toks:=s.toks+1}->wpAny (model X.prog X.w) X.A (f (.int i t)) Q E s):y_ X f (rU fun i=>.int (g i)):=by
 intro aa s σ H x v Q I a h;obtain⟨i,rfl,q⟩:=h;obtain⟨t,rfl⟩:=a;exact rule i t s _ _ ⟨.int (g i),H,I.tok _,⟨_,rfl⟩,q⟩
def mR:y_ X (unaryOp .USub) (rU fun i=>.int (-i)):=JT fun _ _ _ _ _ q=>neg_int q
end
def pa:V->V->Bool
 |.non,.non=>true|.non,.int _=>true|.int _,.non=>true|.non,.bl _=>true|.bl _,.non=>true|.non,.str _=>true|.str _,.non=>true
 |.int _,.int _=>true|.bl _,.bl _=>true|.str _,.str _=>true|.byt _,.byt _=>true
 |.int _,.str _=>true|.str _,.int _=>true|.bl _,.str _=>true|.str _,.bl _=>true
 |_,_=>false
def Bc:R2:=fun x y H Q=>pa x y=true/\Q (.bl (decide (x=y))) H
def JU:R2:=fun x y H Q=>pa x y=true/\Q (.bl (!decide (x=y))) H
def FO{i j:Int}:decide (V.int i=V.int j)=(i==j):=by
 rw[Bool.eq_iff_iff];simp
def gj{i j:Bool}:decide (V.bl i=V.bl j)=(i==j):=by
 rw[Bool.eq_iff_iff];simp
def FP{i j:Str}:decide (V.str i=V.str j)=(i==j):=by
 rw[Bool.eq_iff_iff];simp
def FQ{i j:Array UInt8}:decide (V.byt i=V.byt j)=(i.toList==j.toList):=by
 rw[Bool.eq_iff_iff];cases i;cases j;simp
section
variable{X:Cx}{a b c:Expr}{ta tb tc:TE}{pos:Pos}
def aQ{aa:Ψ}{σ:St}{H:Hp}{s:Shared}{Q:VK}{k a:Bool}(I:Inv X aa σ H s)(q:Q (.bl k) H)(e:k=a):EP X aa σ Q (.bool a) s:=by
 subst e;exact⟨.bl k,H,I,rfl,q⟩
def eW:cG X (A6 .Eq) Bc:=by
 intro aa s σ H x y v u Q I c a h;obtain⟨hs,q⟩:=h;cases x with
 |non=>
  cases c;cases y with
  |non=>cases a;exact PySem.EqNone.eq_none_none (aQ I q (by simp))
  |bl j=>cases a;exact PySem.EqNone.eq_none_bool (aQ I q (by simp))
  |int j=>obtain⟨t',rfl⟩:=a;exact PySem.EqNone.eq_none_int (aQ I q (by simp))
  |str j=>obtain⟨t',rfl⟩:=a;exact PySem.EqNone.eq_none_str (aQ I q (by simp))
  |_=>exact absurd (show false=true from hs) Ak
 |bl i=>
  cases c;cases y with
  |non=>cases a;exact PySem.EqNone.eq_bool_none (aQ I q (by simp))
  |bl j=>cases a;exact eq_bool (aQ I q gj)
  |str j=>obtain⟨t',rfl⟩:=a;exact PySem.EqMixed.eq_bool_str (aQ I q (by simp))
  |_=>exact absurd (show false=true from hs) Ak
 |int i=>
  obtain⟨t,rfl⟩:=c;cases y with
  |non=>cases a;exact PySem.EqNone.eq_int_none (aQ I q (by simp))
  |int j=>obtain⟨t',rfl⟩:=a;exact eq_int (aQ I q FO)
  |str j=>obtain⟨t',rfl⟩:=a;exact PySem.EqMixed.eq_int_str (aQ I q (by simp))
  |_=>exact absurd (show false=true from hs) Ak
 |str i=>
  obtain⟨t,rfl⟩:=c;cases y with
  |non=>cases a;exact PySem.EqNone.eq_str_none (aQ I q (by simp))
  |bl j=>cases a;exact PySem.EqMixed.eq_str_bool (aQ I q (by simp))
  |int j=>obtain⟨t',rfl⟩:=a;exact PySem.EqMixed.eq_str_int (aQ I q (by simp))
  |str j=>obtain⟨t',rfl⟩:=a;exact eq_str (aQ I q FP)
  |_=>exact absurd (show false=true from hs) Ak
 |byt i=>
  obtain⟨t,rfl⟩:=c;cases y with
  |byt j=>obtain⟨t',rfl⟩:=a;exact PySem.W.eq_bytes (aQ I q FQ)
  |_=>exact absurd (show false=true from hs) Ak
 |_=>cases y<;>exact absurd (show false=true from hs) Ak
def ij:cG X (A6 .NotEq) JU:=by
 intro aa s σ H x y v u Q I c a h;obtain⟨hs,q⟩:=h;cases x with
 |non=>
  cases c;cases y with
  |non=>cases a;exact PySem.EqNone.ne_none_none (aQ I q (by simp))
  |bl j=>cases a;exact PySem.EqNone.ne_none_bool (aQ I q (by simp))
  |int j=>obtain⟨t',rfl⟩:=a;exact PySem.EqNone.ne_none_int (aQ I q (by simp))
  |str j=>obtain⟨t',rfl⟩:=a;exact PySem.EqNone.ne_none_str (aQ I q (by simp))
  |_=>exact absurd (show false=true from hs) Ak
 |bl i=>
  cases c;cases y with
  |non=>cases a;exact PySem.EqNone.ne_bool_none (aQ I q (by simp))
  |bl j=>cases a;exact ne_bool (aQ I q (congrArg not gj))
  |str j=>obtain⟨t',rfl⟩:=a;exact PySem.EqMixed.ne_bool_str (aQ I q (by simp))
  |_=>exact absurd (show false=true from hs) Ak
 |int i=>
  obtain⟨t,rfl⟩:=c;cases y with
  |non=>cases a;exact PySem.EqNone.ne_int_none (aQ I q (by simp))
  |int j=>obtain⟨t',rfl⟩:=a;exact ne_int (aQ I q (congrArg not FO))
  |str j=>obtain⟨t',rfl⟩:=a;exact PySem.EqMixed.ne_int_str (aQ I q (by simp))
  |_=>exact absurd (show false=true from hs) Ak
 |str i=>
  obtain⟨t,rfl⟩:=c;cases y with
  |non=>cases a;exact PySem.EqNone.ne_str_none (aQ I q (by simp))
  |bl j=>cases a;exact PySem.EqMixed.ne_str_bool (aQ I q (by simp))
  |int j=>obtain⟨t',rfl⟩:=a;exact PySem.EqMixed.ne_str_int (aQ I q (by simp))
  |str j=>obtain⟨t',rfl⟩:=a;exact ne_str (aQ I q (congrArg not FP))
  |_=>exact absurd (show false=true from hs) Ak
 |byt i=>
  obtain⟨t,rfl⟩:=c;cases y with
  |byt j=>obtain⟨t',rfl⟩:=a;exact PySem.W.ne_bytes (aQ I q (congrArg not FQ))
  |_=>exact absurd (show false=true from hs) Ak
 |_=>cases y<;>exact absurd (show false=true from hs) Ak
def pb:cG X (A6 .Lt) (hJ fun i j=>.bl (decide (i<j))):=ii fun _ _ _ _ _ _ _ q=>lt_int q
def Bn:cG X (A6 .LtE) (hJ fun i j=>.bl (decide (i<=j))):=ii fun _ _ _ _ _ _ _ q=>le_int q
def jn:cG X (A6 .Gt) (hJ fun i j=>.bl (decide (j<i))):=ii fun _ _ _ _ _ _ _ q=>gt_int q
def JV:cG X (A6 .GtE) (hJ fun i j=>.bl (decide (j<=i))):=ii fun _ _ _ _ _ _ _ q=>ge_int q
def JW:cG X (A6 .IsNot) (fun x y H Q=>y=.non/\Q (.bl (!decide (x=.non))) H):=by
 intro aa s σ H x y v u Q I a c h;obtain⟨rfl,q⟩:=h;cases c;refine isnot_none_gen (aQ I q ?_);cases x<;>first
  |(cases a;rfl)
  |(obtain⟨t,rfl⟩:=a;rfl)
def aK(b:Expr){op:CmpOp}(h:op≠.In:=by decide)(h2:op≠.NotIn:=by decide):behindInMarks op b=false:=by
 have e1:(op==CmpOp.In)=false:=by cases op<;>first|rfl|exact absurd rfl h
 have e2:(op==CmpOp.NotIn)=false:=by cases op<;>first|rfl|exact absurd rfl h2
 cases b<;>simp[behindInMarks,e1,e2]
def mS{op:CmpOp}{r:R2}(f:cG X (A6 op) r)(ha:PE X a ta)(hb:PE X b tb)(hm:behindInMarks op b=false):PE X (.Compare a [op] [b] pos) (dv r ta tb):=by
 intro aa s σ H Q I h;exact wpAny_Compare1 (j0 ha hb I h fun v u c x y H2 g d e q=>f aa c σ H2 x y v u Q g d e q) hm
def mU(t:TE):TT:=fun σ H Q=>t σ H fun x H'=>∃k,x=.bl k/\Q k H'
def zn{op:CmpOp}{r:R2}(p:cG X (A6 op) r)(ha:PE X a ta)(hb:PE X b tb)(hm:behindInMarks op b=false):PT X (.Compare a [op] [b] pos) (mU (dv r ta tb)):=by
 intro aa s σ H Q I h;refine wpAny_isTrue_Compare1 (aX (ha aa s σ H _ I h) fun v d ⟨x,H1,q,f,q1⟩=>aX (hb aa d σ H1 _ q q1) fun u g ⟨y,H2,A,i,j⟩=>
  aX (p aa g σ H2 x y v u _ A f i j) fun c E ⟨z,C,D,l,k,e,o⟩=>?_) hm
 subst e;cases l;exact wpAny_truthy_bool ⟨C,D,o⟩
def JX(r d:R2)(ta tb tc:TE):TE:=fun σ H Q=>ta σ H fun x H1=>tb σ H1 fun y H2=>r x y H2 fun z a=>∃k,z=.bl k/\
 (if k=true then tc σ a fun c e=>d y c e Q else Q (.bl false) a)
def JY{op f:CmpOp}{r l:R2}(T:cG X (A6 op) r)(g:cG X (A6 f) l)(ha:PE X a ta)(hb:PE X b tb)(hc:PE X c tc)(hm:lastMarks [op,f] [b,c]=false:=by with_unfolding_all rfl):PT X (.Compare a [op,f] [b,c] pos) (mU (JX r l ta tb tc)):=by
 intro aa s σ H Q I h;refine isTrue_chain (aX (ha aa s σ H _ I h) fun v q ⟨x,H1,U,A,q1⟩=>test_link (aX (hb aa q σ H1 _ U q1) fun u C ⟨y,H2,W,i,D⟩=>
  aX (T aa C σ H2 x y v u _ W A i D) fun d E ⟨z,o,p,F,k,e,j⟩=>?_)) hm
 subst e;cases F;refine wpAny_truthy_bool ?_;cases k with
 |false=>
  obtain⟨k',e',S⟩:=j;cases e';exact ite_ff ⟨o,p,S⟩
 |true=>
  refine ite_tt (test_last (aX (hc aa E σ o _ p j) fun G J ⟨L,Y,Z,M,N⟩=>aX (g aa J σ Y y L u G _ Z i M N) fun d' s5 ⟨z2,H5,I5,O,k2,e2,P⟩=>?_));subst e2;cases O;exact wpAny_truthy_bool ⟨H5,I5,P⟩
def dz:(sizeLine:Nat)<2 ^ 63:=by rw[sizeLine_eq];decide
def vals1{x:V}{us:List Value}(r:Vals [x] us):∃u,us=[u]/\RelV x u:=by
 cases r with
 |cons r1 r2=>cases r2;exact⟨_,rfl,r1⟩
def vals2{x y:V}{us:List Value}(r:Vals [x,y] us):∃u a,us=[u,a]/\RelV x u/\RelV y a:=by
 cases r with
 |cons r1 r2=>
  cases r2 with
  |cons r3 r4=>cases r4;exact⟨_,_,rfl,r1,r3⟩
end
structure ObjM(h:Heap)(x dx C:Addr)(mA:Str->Option Value):Prop where
 obj:h.get? x=some (PySem.W.instObj C dx)
 ns:h.Ns1 dx mA
 ne:dx≠x
def JZ{h:Heap}{dx:Addr}{mA:Str->Option Value}(n:h.Ns1 dx mA):∃c,h.get? dx=some c/\∀name,PySem.W.lookIn name c=some (mA name):=by
 obtain⟨o,es,ep,d,hd,hk,_,hm⟩:=n;refine⟨o,d,fun name=>?_⟩;have e:=hm name;unfold nsFind findBy at e;rw[<-Array.find?_toList] at e;unfold PySem.W.lookIn;rw[hd];dsimp only;split
 ·rename_i y q
  rw[q] at e;exact congrArg some e
 ·rename_i q
  rw[q] at e;have a:es.toList.any (·.refKey)=false:=by
   rw[List.any_eq_false];intro y hy;obtain⟨z,t,f⟩:=hk y (Array.mem_toList_iff.mp hy);simp[DictEntry.refKey,f]
  have g:¬es.toList.any (·.refKey)=true:=by rw[a];exact Ak
  rw[if_neg g];exact congrArg some e
def ObjM.look{h:Heap}{x dx C:Addr}{mA:Str->Option Value}(I:ObjM h x dx C mA):∃a,PySem.W.InstAt h x (PySem.W.instObj C dx) C (some a)/\∀name,PySem.W.lookIn name a=some (mA name):=
 let ⟨a,ho,hl⟩:=JZ I.ns
 ⟨a,⟨I.obj,rfl,rfl,ho⟩,hl⟩
def RelO.some_of{v:V}{o:Option Value}(r:RelO (some v) o):∃u,o=some u/\RelV v u:=by
 cases o with
 |none=>exact(show False from r).elim
 |some u=>exact⟨u,rfl,r⟩
def RelO.none_of{o:Option Value}(r:RelO none o):o=none:=by
 cases o with
 |none=>rfl
 |some u=>exact(show False from r).elim
section
variable{P:Program}{w:World}{H H':Hp}{h h':Heap}{a C dx:Addr}{fs pe:List (Str×V)}
def ft(c:HOk P w H h)(e:H a=some (.ins C dx fs)):∃mA,ObjM h a dx C mA/\(∀f,RelO (fs.lookup f) (mA f))/\PySem.Within mA (fs.map (·.1))/\fs.length<=1000/\H dx=some (.own a):=by
 obtain⟨d,z,ne,ob,mA,n,r,q⟩:=(show zT P w H h a (.ins C dx fs) from c a _ e);exact⟨mA,⟨ob,n,ne⟩,r,q,z,d⟩
end
structure Cls(K:Ac)(C:Addr):Prop where
 pg:PySem.W.plainGet K C Str.empty=true
 hd:PySem.W.hasDictIn K C=true
 po:PySem.W.plainOver K C=true
 sa:PySem.W.findIn K (.ref C) "__setattr__"=some (some (.builtin "object.__setattr__"))
def Cls.get{K:Ac}{C:Addr}(c:Cls K C)(f:Str):PySem.W.plainGet K C f=true:=c.pg
structure Room(k:Nat)(A:Around):Prop where
 hd:A.handled=none
 dp:A.depth+3*k+5<recursionLimit
 un:A.units+16*k+200<cLine
def Room.mono{j k:Nat}{A:Around}(r:Room k A)(h:j<=k):Room j A:=⟨r.hd,by have:=r.dp;(first|lia|omega),by have:=r.un;(first|lia|omega)⟩
def Room.deeper{k:Nat}{A:Around}(r:Room (k+1) A)(env:Env):Room k (A.deeper env):=
 ⟨r.hd,by have:=r.dp;show A.depth+1+3*k+5<_;(first|lia|omega),by have:=r.un;show A.units+3+16*k+200<_;(first|lia|omega)⟩
def Room.in1{k:Nat}{A:Around}(r:Room (k+1) A):Room k A.in1:=
 ⟨r.hd,by have:=r.dp;show A.depth+3*k+5<_;(first|lia|omega),by have:=r.un;show A.units+1+16*k+200<_;(first|lia|omega)⟩
def Room.depth{k:Nat}{A:Around}(r:Room k A):A.depth<recursionLimit:=by have:=r.dp;(first|lia|omega)
def Room.units{k:Nat}{A:Around}(r:Room k A):A.units+64<cLine:=by have:=r.un;(first|lia|omega)
def bD:TA:=fun _ H Q=>Q [] H
def zL(ta:TE)(a:TA):TA:=fun σ H Q=>ta σ H fun x H1=>a σ H1 fun xs H2=>Q (x::xs) H2
section
variable{X:Cx}{e:Expr}{es:List Expr}{te:TE}{t:TA}{pos:Pos}
def ap:PA X [] bD:=fun _ _ _ _ H Q I h=>Calls.spliced_nil ⟨[],H,I,.nil,h⟩
def ae(ha:PE X e te)(hr:PA X es t)(hs:starEach (e::es) X.env=(false,eval e X.env)::starEach es X.env:=by rfl):PA X (e::es) (zL te t):=by
 intro pos aa s σ H Q I h;rw[hs];show wpAny _ _ (spliced ((false,eval e X.env)::backTo pos (starEach es X.env))) _ _ s;refine Calls.spliced_cons (aX (ha aa s σ H _ I h) fun u a ⟨x,H1,g,c,q1⟩=>?_);exact aX (hr pos aa a σ H1 _ g q1) fun us j ⟨xs,H2,i,d,f⟩=>⟨x::xs,H2,i,.cons c d,f⟩
def cI(t:TA):TE:=fun σ H Q=>t σ H fun xs H1=>xs.length<=sizeLine/\∀p,H1 p=none->Q (.ref p) (upd H1 p (.tup xs))
def j7(t:TA):TE:=fun σ H Q=>t σ H fun xs H1=>xs.length<=sizeLine/\∀p,H1 p=none->Q (.ref p) (upd H1 p (.lst xs))
def zx{x1}(h:PA X es t):PE X (.Tuple es x1 pos) (cI t):=by
 intro aa s σ H Q I hq;refine wpAny_Tuple_spliced (aX (h pos aa s σ H _ I hq) fun us a ⟨xs,H1,I1,r,z,q⟩=>⟨by rw[<-r.length];exact z,?_⟩);have hf:H1 a⁻¹=none:=I1.hok.fresh (Ag _);refine⟨.ref a⁻¹,upd H1 a⁻¹ (.tup xs),I1.laid (t':=a.toks) (fun b u e=>Ae _ e) (Ag _) ?_,rfl,q _ hf⟩;exact⟨z,us,r,⟨_,Aq _ rfl,rfl,_,rfl⟩⟩
def zr(h:PA X es t):PE X (.List es pos) (j7 t):=by
 intro aa s σ H Q I hq;refine wpAny_List_spliced (aX (h pos aa s σ H _ I hq) fun us a ⟨xs,H1,I1,r,z,q⟩=>⟨by rw[<-r.length];exact z,?_⟩);have hf:H1 a⁻¹=none:=I1.hok.fresh (Ag _);refine⟨.ref a⁻¹,upd H1 a⁻¹ (.lst xs),I1.laid (t':=a.toks) (fun b u e=>Ae _ e) (Ag _) ?_,rfl,q _ hf⟩;exact⟨z,us,0,r,Aq _ rfl⟩
end
abbrev Sp:=List V->Hp->VK->XK->Prop
abbrev eN:=List Env->Hp->Shared->XK->Ω
structure Env0(P:Program)(w:World)(K:Ac)(mg:Str->Option Value)(base:Heap)(A:Around)(outer:List Env)(s:Shared)(H:Hp):Prop where
 frames:A.frames=some outer
 mod:Mod K mg base
 bs:∀b o,base.get? b=some o->s.heap.get? b=some o/\H b=none
 bsz:base.objs.size<=s⁻¹
 funs:s.heap.FunFrames base outer
 frf:∀b∈frs outer,H b=none
 hok:HOk P w H s.heap
 bare:AllBare s.gens
def CE(outer:List Env)(P:Program)(w:World)(H:Hp)(s:Shared)(Q:VK)(u:Value)(s':Shared):Prop:=
 ∃v H',s'.os=s.os/\AllBare s'.gens/\Un (frs outer) [] H H' s.heap s'.heap/\HOk P w H' s'.heap/\RelV v u/\Q v H'
def CR(CX:eN)(outer:List Env)(P:Program)(w:World)(H:Hp)(s:Shared)(Q:VK)(E:XK)(r:Result)(s':Shared):Prop:=
 match r with
 |.ok (.ret u)=>CE outer P w H s Q u s'
 |.ok _=>False
 |.error e=>CX outer H s E e s'
structure FnOk(P:Program)(w:World)(K:Ac)(mg:Str->Option Value)(base:Heap)(CX:eN)(k:Nat)(f:Addr)(fd:FuncData)(ps:List Str)(sp:Sp):Prop where
 len:∀vs H Q E,sp vs H Q E->vs.length=ps.length
 run:∀(A:Around)(outer:List Env)(s:Shared)(H:Hp)(args:Args)(us:List Value)(vs:List V)(Q:VK)(E:XK),Room k A->Env0 P w K mg base A outer s H->BindsTo s fd args (ps.zip us)->Vals vs us->sp vs H Q E->
  codeAny (model P w) A (.call (.ref f) args) (CR CX outer P w H s Q E) s
def Env0.in1{P:Program}{w:World}{K:Ac}{mg:Str->Option Value}{base:Heap}{A:Around}{outer:List Env}{s:Shared}{H:Hp}(e:Env0 P w K mg base A outer s H):Env0 P w K mg base A.in1 outer s H:=⟨e.frames,e.mod,e.bs,e.bsz,e.funs,e.frf,e.hok,e.bare⟩
section
variable{X:Cx}{aa:Ψ}{σ:St}{H:Hp}{s s':Shared}
def Inv.env0(I:Inv X aa σ H s):Env0 X.prog X.w X.K X.mg X.base X.A X.stack s H:=
 ⟨I.ok.frames,I.ok.mod,I.bs,AB I.ok.bsz I.sz,I.stack,I.stkFree,I.hok,I.bare⟩
def Inv.after{Q:VK}{u:Value}(I:Inv X aa σ H s)(h:CE X.stack X.prog X.w H s Q u s'):EP X aa σ Q u s':=by
 obtain⟨v,H',os,a,un,c,r,q⟩:=h;obtain⟨e,g,d,t,f⟩:=s';obtain rfl:f=s.os:=os;exact⟨v,H',I.call (h':=e) (g':=g) (d':=d) (t':=t) (ch:=[]) un c a (fun b z=>absurd z (by simp)),r,q⟩
end
def j8(sp:Sp)(dG:List V)(E:XK)(t:TA):TE:=fun σ H Q=>t σ H fun vs H1=>sp (vs++dG) H1 Q E
def Binds(K:Ac)(fd:FuncData)(ps:List Str)(ds:List Value):Prop:=
 ∀(s:Shared)(us:List Value),K.In s.heap->(us++ds).length=ps.length->BindsTo s fd ⟨us,[]⟩ (ps.zip (us++ds))
def Binds.all{K:Ac}{fd:FuncData}{ps:List Str}(h:∀us:List Value,us.length=ps.length->bindArgs fd ⟨us,[]⟩=pure (ps.zip us)):Binds K fd ps []:=fun s us _ a=>by
 rw[AT] at a ⊢;exact .of_eq (h us a)
def c6(CX:eN)(X:Cx)(E:XK):Prop:=∀(aa:Ψ)(σ:St)(H:Hp)(s:Shared)(e:Value)(s':Shared),Inv X aa σ H s->CX X.stack H s E e s'->X.xe e s'
section
variable{X:Cx}{CX:eN}{k:Nat}{f C:Addr}{fd:FuncData}{ps:List Str}{sp:Sp}{dG:List V}{ds:List Value}{E:XK}{x m:Str}{p pos aY:Pos}{e o:Expr}{es:List Expr}{ta:TE}{t:TA}
def J0{aa:Ψ}{σ:St}{H:Hp}{s:Shared}{Q:VK}{us:List Value}{vs:List V}(F:FnOk X.prog X.w X.K X.mg X.base CX k f fd ps sp)(hr:Room k X.A)(hb:Binds X.K fd ps ds)(hd:Vals dG ds)(hx:c6 CX X E)(I:Inv X aa σ H s)(r:Vals vs us)(h:sp (vs++dG) H Q E):wpAny (model X.prog X.w) X.A (call (.ref f) us) (EP X aa σ Q) X.xe s:=by
 have a:Vals (vs++dG) (us++ds):=r.append hd;have c:(us++ds).length=ps.length:=by rw[<-a.length];exact F.len _ _ _ _ h
 refine wpAny_call (codeAny_mono (F.run X.A X.stack s H ⟨us,[]⟩ (us++ds) (vs++dG) Q E hr I.env0 (hb s us I.kIn c) a h) fun r s' hq=>?_);cases r with
 |error e=>exact hx aa σ H s e s' I hq
 |ok fl=>
  cases fl with
  |ret u=>exact I.after hq
  |next=>exact False.elim hq
  |brk=>exact False.elim hq
  |cont=>exact False.elim hq
def zo(F:FnOk X.prog X.w X.K X.mg X.base CX k f fd ps sp)(hr:Room k X.A)(c:Gl X x)(hm:X.mg x=some (.ref f))(hk:PySem.W.keepIn X.K (.ref f)=true)(hb:Binds X.K fd ps ds)(hd:Vals dG ds)(hx:c6 CX X E)(ha:PA X (e::es) t)(d:(x==("__debug__":Str))=false:=by decide)(he:starEach (e::es) X.env=(false,eval e X.env)::starEach es X.env:=by rfl)(a:(backTo pos (starEach es X.env)).any (·.1)=false:=by rfl):PE X (.Call (.Name x p) (e::es) [] pos) (j8 sp dG E t):=by
 intro aa s σ H Q I h;refine wpAny_Call_Name_kw (oO I c hm ?_ d);refine PySem.W.callWith_K (h₀:=X.base) I.ok.mod.kin hk (aX (ha pos aa s σ H _ I h) fun us g ⟨vs,H1,I1,r,q⟩=>⟨I1.kIn,?_⟩) he a;exact J0 F hr hb hd hx I1 r q
structure Mk(K:Ac)(C f:Addr):Prop where
 makes:PySem.W.makesIn K C=true
 init:PySem.W.findIn K (.ref C) "__init__"=some (some (.ref f))
 fn:PySem.W.isFn K (.ref f)=true
 kp:PySem.W.keepIn K (.ref C)=true
end
structure zl(N P:List Str)(sc:Scope):Prop where
 kind:sc.kind=.function
 co:sc.isCoroutine=false
 gen:sc.isGenerator=false
 nd:N.Nodup
 pre:N.take P.length=P
 par:∀x∈P,sc.names.lookup x=some .local\/sc.names.lookup x=some .cell
 nofree:∀y∈sc.names,y.2≠.free
def FR{kindOf:Str->Option NameKind}{x:Str}:∀{binds:List (Str×Value)}{m:Str->Option Value},(∀v,(x,v)∉binds)->bindL kindOf binds m x=m x
 |[],_,_=>rfl
 |(n,v)::r,m,h=>by
  unfold bindL;rw[FR fun w hw=>h w (At _ hw)];split
  ·have:x≠n:=by rintro rfl;exact h v Ar
   simp[this]
  ·rfl
def FS{kindOf:Str->Option NameKind}{x:Str}:∀{binds:List (Str×Value)}{m:Str->Option Value},(∀v,(x,v)∉binds)->bindC kindOf binds m x=m x
 |[],_,_=>rfl
 |(n,v)::r,m,h=>by
  unfold bindC;rw[FS fun w hw=>h w (At _ hw)];split
  ·rfl
  ·have:x≠n:=by rintro rfl;exact h v Ar
   simp[this]
def FT{kindOf:Str->Option NameKind}{x:Str}{v:Value}:∀{P:List Str}{vs:List Value}{i:Nat}{m:Str->Option Value},P.Nodup->P[i]?=some x->vs[i]?=some v->kindOf x=some .local->
  bindL kindOf (P.zip vs) m x=some v
 |[],_,_,_,_,h,_,_=>by simp at h
 |_::_,[],_,_,_,_,h,_=>by simp at h
 |p::P,w::vs,0,m,nd,h1,h2,hk=>by
  simp at h1 h2;subst h1;subst h2;show bindL kindOf ((p,w)::P.zip vs) m p=_;unfold bindL;rw[FR fun v a=>(List.nodup_cons.mp nd).1 (List.of_mem_zip a).1,if_pos hk];simp
 |p::P,w::vs,i+1,m,nd,h1,h2,hk=>by
  show bindL kindOf ((p,w)::P.zip vs) m x=_;unfold bindL;exact FT (i:=i) (List.nodup_cons.mp nd).2 (by simpa using h1) (by simpa using h2) hk
def FU{kindOf:Str->Option NameKind}{x:Str}{v:Value}:∀{P:List Str}{vs:List Value}{i:Nat}{m:Str->Option Value},P.Nodup->P[i]?=some x->vs[i]?=some v->kindOf x≠some .local->
  bindC kindOf (P.zip vs) m x=some v
 |[],_,_,_,_,h,_,_=>by simp at h
 |_::_,[],_,_,_,_,h,_=>by simp at h
 |p::P,w::vs,0,m,nd,h1,h2,hk=>by
  simp at h1 h2;subst h1;subst h2;show bindC kindOf ((p,w)::P.zip vs) m p=_;unfold bindC;rw[FS fun v a=>(List.nodup_cons.mp nd).1 (List.of_mem_zip a).1,if_neg hk];simp
 |p::P,w::vs,i+1,m,nd,h1,h2,hk=>by
  show bindC kindOf ((p,w)::P.zip vs) m x=_;unfold bindC;exact FU (i:=i) (List.nodup_cons.mp nd).2 (by simpa using h1) (by simpa using h2) hk
def start(N:List Str)(vs:List V):St:=vs.map some++A5 (N.length-vs.length) none
def a_(CX:eN)(P:Program)(w:World)(K:Ac)(mg:Str->Option Value)(base:Heap)(N:List Str)(a:Str)(scope:Scope)(f:Addr)(c:Value)(A:Around)(outer:List Env)(s:Shared)(H:Hp)(E:XK):Cx where
 prog:=P
 w:=w
 K:=K
 mg:=mg
 base:=base
 A:=A.deeper (envOfC a scope s⁻¹ f c)
 N:=N
 s₀:=s
 H₀:=H
 env:=envOfC a scope s⁻¹ f c
 outer:=outer
 stack:=envOfC a scope s⁻¹ f c::outer
 ex:=[]
 calm:=true
 fn:=fun _=>true
 pn:=[]
 xe:=fun e s'=>wpAny (model P w) (A.deeper (envOfC a scope s⁻¹ f c)) (leaving (envOfC a scope s⁻¹ f c) e) (fun _ d=>CX outer H s E e d) (fun e' d=>CX outer H s E e' d) s'
def FV{a:Scope}{n:Nat}{x:Str}(h:a.names.lookup x=some .cell):∃c,(cellsFrom n a.names []).lookup x=some c:=by
 have q:=PySem.W.cellsFrom_some a.names n [] (.inl h);exact Option.isSome_iff_exists.mp q
def FW{CX:eN}{P:Program}{w:World}{K:Ac}{mg:Str->Option Value}{base:Heap}{N ps:List Str}{j:Str}{scope:Scope}{f:Addr}{l:Value}{A:Around}{outer:List Env}{s C:Shared}{H:Hp}{E:XK}{us:List Value}{vs:List V}(S:zl N ps scope)(hd:A.handled=none)(d:Env0 P w K mg base A outer s H)(I:vs.length=ps.length)(r:Vals vs us)(x:InCallC s s⁻¹ (bindL (envOfC j scope s⁻¹ f l).kindOf (ps.zip us) fun _=>none) (cellsFrom (s⁻¹+1) scope.names []) (bindC (envOfC j scope s⁻¹ f l).kindOf (ps.zip us) fun _=>none) C):Inv (a_ CX P w K mg base N j scope f l A outer s H E) [] (start N vs) H C:=by
 have F:ps.length<=N.length:=by have:=congrArg List.length S.pre;rw[Av] at this;(first|lia|omega)
 obtain⟨h1,tk,rfl,hk⟩:=x.done;have o:∀b:Addr,b∉(a_ CX P w K mg base N j scope f l A outer s H E).ex:=fun b z=>absurd (show b∈([]:List Addr) from z) (by simp);refine⟨⟨d.mod,S.kind,rfl,rfl,Ag _,fun y z c h1 h2=>?_,fun y hy=>?_,fun y c _ h=>?_,fun _=>hd,Around.frames_deeper d.frames,.inr ⟨rfl,rfl⟩,fun b z=>absurd z (o b),d.bs,d.bsz,fun b _ _=>o b,fun b z=>absurd z (o b),d.funs,d.frf⟩,
  rfl,d.bare,Un.kept hk,⟨_,x.toInCall.ns,fun i y v h1 h2 G=>?_⟩,fun y c h=>⟨_,x.cell y c h⟩,d.hok.fresh (Ag _),fun y c h=>?_,fun p hp=>absurd (show p∈([]:Ψ) from hp) (by simp),d.hok.kept hk,?_⟩
 ·exact name_of_addr x.apart (PySem.mem_of_lookup h1) (PySem.mem_of_lookup h2)
 ·have hy:scope.names.lookup y=some .cell\/scope.names.lookup y=some .free:=hy
  rcases hy with hy|hy
  ·exact FV hy
  ·exact absurd rfl (S.nofree _ (PySem.mem_of_lookup hy))
 ·exact Nat.le_of_lt (x.above y c (PySem.mem_of_lookup h))
 ·have hi:i<vs.length:=by
   unfold start at h2
   by_cases hi:i<vs.length
   ·exact hi
   ·rw[List.getElem?_append_right (by simpa using hi)] at h2
    rw[List.getElem?_replicate] at h2;split at h2<;>cases h2
  have ha:vs[i]?=some v:=by
   unfold start at h2;rw[List.getElem?_append_left (by simpa using hi),Ao] at h2;cases e:vs[i]? with
   |none=>rw[e] at h2;cases h2
   |some a=>rw[e] at h2;cases h2;rfl
  obtain⟨u,hu,D⟩:=r.get ha;have hp:ps[i]?=some y:=by
   rw[<-S.pre,List.getElem?_take_of_lt ω];exact h1
  have g:ps.Nodup:=by rw[<-S.pre];exact S.nd.sublist (List.take_sublist _ _)
  refine⟨u,D,?_⟩;rcases S.par y (An hp) with k|k
  ·exact .inl ⟨k,FT g hp hu k⟩
  ·obtain⟨c,e⟩:=FV (n:=s⁻¹+1) k
   refine .inr ⟨.inl k,c,e,?_⟩;have q:=x.cell y c e;rw[FU g hp hu (by show scope.names.lookup y≠_;rw[k];decide)] at q;exact q
 ·exact d.hok.fresh (Nat.le_of_lt (x.above y c (PySem.mem_of_lookup h)))
 ·unfold start
  show _=N.length;rw[Af,Ab,List.length_replicate];(first|lia|omega)
def FX{CX:eN}{P:Program}{w:World}{K:Ac}{mg:Str->Option Value}{base:Heap}{k:Nat}{f:Addr}{name a:Str}{h:Arguments}{body:List Stmt}{scope:Scope}{i kV j l cdv ct U:Value}{p X:Option Addr}{F:Array (Option Value)}{N ps:List Str}{sp:Sp}(lk:K.lookup f=some ⟨U,X,.func (PySem.W.fnOf name a h body scope i kV j l p cdv ct),F⟩)(G:PySem.W.codeIn K cdv a=true)(S:zl N ps scope)(len:∀vs H Q E,sp vs H Q E->vs.length=ps.length)(Y:∀(A:Around)(outer:List Env)(s:Shared)(H:Hp)(vs:List V)(Q:VK)(E:XK),Room k (A.deeper (envOfC a scope s⁻¹ f cdv))->sp vs H Q E->
   ∃t,PSs (a_ CX P w K mg base N a scope f cdv A outer s H E) body t/\t {nx:=fun _ H'=>Q .non H',rt:=Q} (start N vs) H):
  FnOk P w K mg base CX (k+1) f (PySem.W.fnOf name a h body scope i kV j l p cdv ct) ps sp:=by
 refine⟨len,fun A outer s H args us vs Q E hr c hb r z=>?_⟩;have M:=len _ _ _ _ z;have D:K.In s.heap:=c.mod.kin.keeps fun b o e=>(c.bs b o e).1;have O:s.heap.NoLimit:=c.mod.nolimit.keeps fun b o e=>(c.bs b o e).1;have T:∀y∈ps.zip us,scope.names.lookup y.1=some .local\/(scope.names.lookup y.1=some .cell/\((cellsFrom (s⁻¹+1) scope.names []).lookup y.1).isSome=true):=fun⟨n,v⟩ hy=>by
  rcases S.par n (List.of_mem_zip hy).1 with q|q
  ·exact .inl q
  ·exact .inr ⟨q,PySem.W.cellsFrom_some _ _ _ (.inl q)⟩
 refine codeAny_call_function hr.depth (D _ _ lk) rfl S.co S.gen rfl (PySem.W.codeRec_of D G) (hb _ _ _ _ ?_);refine wpAny_newFunctionEnv_cells S.kind T fun env he C x=>?_;subst he;refine⟨O.keeps x.toInCall.keep,codeAny_func ?_⟩;obtain⟨t,ht,hq⟩:=Y A outer s H vs Q E (hr.deeper _) z;have I:Inv (a_ CX P w K mg base N a scope f cdv A outer s H E) [] (start N vs) H C:=FW S hr.hd c M r x;refine wpAny_mono (ht [] C (start N vs) H _ I hq) (fun L s' hs=>?_) fun e s' hs=>hs;have fin:∀{d:St}{H':Hp}{v:V}{u:Value},Inv (a_ CX P w K mg base N a scope f cdv A outer s H E) [] d H' s'->RelV v u->Q v H'->CE outer P w H s Q u s':=
  fun{d H' v u} J g q=>⟨v,H',J.os,J.bare,J.base,J.hok,g,q⟩
 cases L with
 |ret u=>
  obtain⟨v,d,H',J,g,q⟩:=hs;exact fin J g q
 |next=>
  obtain⟨d,H',J,q⟩:=hs;exact fin (v:=V.non) (u:=Value.none) J rfl q
 |brk=>
  obtain⟨_,_,_,q⟩:=hs;exact False.elim q
 |cont=>
  obtain⟨_,_,_,q⟩:=hs;exact False.elim q
section
variable{X:Cx}{x:Str}{p pos:Pos}{e:Expr}{es:List Expr}{t:TA}{id T:String}{r:List V->Hp->VK->Prop}
def j9(r:List V->Hp->VK->Prop)(t:TA):TE:=fun σ H Q=>t σ H fun vs H1=>r vs H1 Q
def zw(hc:fm X (.builtin id) r)(f:Gl X x)(hm:X.mg x=none)(g:AV x=some (.builtin id))(ha:PA X (e::es) t)(i:x≠"__name__":=by decide)(j:(x==("__debug__":Str))=false:=by decide)
  (he:starEach (e::es) X.env=(false,eval e X.env)::starEach es X.env:=by rfl) (a:(backTo pos (starEach es X.env)).any (·.1)=false:=by rfl):PE X (.Call (.Name x p) (e::es) [] pos) (j9 r t):=by
 intro aa s σ H Q I h;refine wpAny_Call_Name_kw (hY I f hm g ?_ i j);exact PyProof.Rows.callWith_builtin1 (aX (ha pos aa s σ H _ I h) fun us c ⟨vs,H1,l,d,q1⟩=>hc aa c σ H1 vs us Q l d q1) he a
def zG(hc:fm X (.type T) r)(f:Gl X x)(hm:X.mg x=none)(g:AV x=some (.type T))(ha:PA X (e::es) t)(i:x≠"__name__":=by decide)(j:(x==("__debug__":Str))=false:=by decide)
  (he:starEach (e::es) X.env=(false,eval e X.env)::starEach es X.env:=by rfl) (a:(backTo pos (starEach es X.env)).any (·.1)=false:=by rfl):PE X (.Call (.Name x p) (e::es) [] pos) (j9 r t):=by
 intro aa s σ H Q I h;refine wpAny_Call_Name_kw (hY I f hm g ?_ i j);exact PyProof.Rows.callWith_type1 (aX (ha pos aa s σ H _ I h) fun us c ⟨vs,H1,l,d,q1⟩=>hc aa c σ H1 vs us Q l d q1) he a
end
end L2
namespace HT
open PySem PyProof.Rows
def lexLt:List Int->List Int->Bool
 |[],[]=>false
 |[],_::_=>true
 |_::_,[]=>false
 |x::xs,y::ys=>if x=y then lexLt xs ys else decide (x<y)
def jp(x y:Int)(xs ys:List Int):lexLt (x::xs) (y::ys)=if x=y then lexLt xs ys else decide (x<y):=rfl
def J1:lexLt [] []=false:=rfl
def pc(y:Int)(ys:List Int):lexLt [] (y::ys)=true:=rfl
def FY(x:Int)(xs:List Int):lexLt (x::xs) []=false:=rfl
def J3(A:Around)(s:Shared)(a:Int)(t:Tok)(c:Int)(u:Tok):∃e,SeqAt.EqAt A s (.int a t) (.int c u) e/\(e=true↔a=c):=
 ⟨(a==c),SeqAt.EqAt.int_int a t c u,by simp⟩
def J4(A:Around)(s:Shared)(a:Int)(t:Tok)(c:Int)(u:Tok)(prog:Program)(w:World)(E:Ω)(Q:Ω)(h:Q (.bool (decide (a<c))) s):wpAny (model prog w) A (richCompare .Lt (.int a t) (.int c u)) Q E s:=
 (PyProof.Rows.lt_int h:wpAny (model prog w) A (A6 .Lt (.int a t) (.int c u)) Q E s)
section
open PySem.SeqAt
open PySem.AutoSeq1 (wpAny_loadPart')
open PySem.MeetsSeq PySem.MeetsSeq2 PySem.MeetsSeq3
def J5(l b:Addr)(o p:Array Value)(n n2:Nat)(dd J:Option Addr)(L M:Array (Option Value))(z C:List Int)(hi:IntsAre o.toList z)(G:IntsAre p.toList C):Meets (Builtin.«tuple.__lt__» ⟨[.ref l,.ref b],[]⟩)
   (fun _ R s=>s.heap.get? l=some {cls:=.type "tuple",dict:=dd,data:=.seq o n,slots:=L}/\s.heap.get? b=some {cls:=.type "tuple",dict:=J,data:=.seq p n2,slots:=M}/\
    R (.ok (.ret (.bool (lexLt z C)))) s):=
 .of_wp fun prog w A R s h=>by
  obtain⟨hp,g,d,tk,os⟩:=s;obtain⟨H,hb,h⟩:=h;have f2:=AutoSeq1.sub_tuple_tuple;have P:o.size=z.length:=by rw[<-hi.length];simp
  have z2:p.size=C.length:=by rw[<-G.length];simp
  wp_walk using wpAny_loadPart' H,wpAny_loadPart' hb,wpAny_forIn_list _ (fun rest b s'=>b.1=none/\s'=⟨hp,g,d,tk,os⟩/\∃(vs r:List Value)(i j:List Int),rest=vs.zip r/\
   IntsAre vs i/\IntsAre r j/\i.length+p.size=j.length+o.size/\R (.ok (.ret (.bool (lexLt i j)))) ⟨hp,g,d,tk,os⟩) _
  case turn=>
   rintro⟨y,x⟩ rest b s' ⟨hb',rfl,vs,r,i,j,hz,D,v,f,hR⟩;cases D with
   |nil=>rw[List.zip_nil_left] at hz;cases hz
   |cons a t hvi'=>
    cases v with
    |nil=>rw[List.zip_nil_right] at hz;cases hz
    |cons c u hwi'=>
     rw[List.zip_cons_cons] at hz;injection hz with mQ hrest
     injection mQ with hy hx
     subst hy hx;rw[jp] at hR;simp only[Am] at f;obtain⟨e,he,E⟩:=J3 A.in1 ⟨hp,g,d,tk,os⟩ a t c u;refine Aa (he prog w _ _ ?_);cases e with
     |true=>
      rw[if_pos (E.mp rfl)] at hR
      wp_walk
      exact⟨rfl,rfl,_,_,_,_,hrest,hvi',hwi',ω,hR⟩
     |false=>
      rw[if_neg (fun q=>absurd (E.mpr q) Ak)] at hR;have I:=J4 A.in1 ⟨hp,g,d,tk,os⟩ a t c u prog w
      wp_walk using I
      exact⟨_,rfl,by simpa using hR⟩
  case fin=>
   rintro⟨N,O⟩ s' ⟨hb',rfl,vs,r,i,j,hz,D,v,f,hR⟩;simp only at hb';subst hb';have F:lexLt i j=decide (o.size<p.size):=by
    cases D with
    |nil=>
     cases v with
     |nil=>
      simp only[List.length_nil] at f;rw[J1];exact(decide_eq_false ω).symm
     |cons c u hw=>
      simp only[List.length_nil,Am] at f;rw[pc];exact(decide_eq_true ω).symm
    |cons a t F=>
     cases v with
     |nil=>
      simp only[List.length_nil,Am] at f;rw[FY];exact(decide_eq_false ω).symm
     |cons c u hw=>
      rw[List.zip_cons_cons] at hz;cases hz
   rw[F] at hR
   wp_walk
   exact⟨_,rfl,by simpa[Builtin.Tuple.tupleCompareSizes] using hR⟩
  case h=>
   exact⟨rfl,rfl,o.toList,p.toList,z,C,rfl,hi,G,ω,h⟩
end
section
variable{prog:Program}{w:World}{A:Around}{E:Ω}{s:Shared}
def J6{l b:Addr}{d e:Array Value}{a c:List Int}{Q:Ω}(r:IsTup s.heap l d)(hb:IsTup s.heap b e)(hi:IntsAre d.toList a)(u:IntsAre e.toList c)(hu:A.units<cLine)(h:Q (.bool (lexLt a c)) s):wpAny (model prog w) A (A6 .Lt (.ref l) (.ref b)) Q E s:=by
 obtain⟨⟨cls,dd,data,o⟩,f,hc,n,hd⟩:=id r;obtain⟨⟨v,p,data2,q⟩,g,i,n2,j⟩:=id hb;simp only at hc hd i j;subst hc hd i j;exact richCompare_meets_room (op:=.Lt) ⟨_,f,rfl⟩ ⟨_,g,rfl⟩ PySem.F.slot_tuple_lt PySem.F.entry_tuple_lt (PySem.F.args_tuple_lt_2 _ _) (J5 l b d e n n2 dd p o q a c hi u)
  ⟨f,g,show Value.bool (lexLt a c)≠Value.notImplemented/\Q (.bool (lexLt a c)) s from⟨(fun x=>nomatch x),h⟩⟩ hu
def J7{t b:Addr}{vs a:List Value}{Q:Ω}(ht:IsTup s.heap t vs.toArray)(hb:IsTup s.heap b a.toArray)(l:vs≠[])(h1:a=[]->Q (.ref t) s)(h2:a≠[]->Q (.ref s⁻¹) {s with heap:=s.heap.push {cls:=.type "tuple",data:=.seq (vs++a).toArray}})(hsz:vs.length+a.length<=sizeLine):wpAny (model prog w) A (binaryOp .Add (.ref t) (.ref b)) Q E s:=by
 obtain⟨⟨cls,dd,data,f⟩,c,hc,n,hd⟩:=id ht;obtain⟨⟨o,g,data2,h⟩,d,i,n2,j⟩:=id hb;simp only at hc hd i j;subst hc hd i j;have e:vs.toArray++a.toArray=(vs++a).toArray:=by simp
 by_cases hw:a=[]
 ·exact concat_meets ⟨_,c,rfl⟩ ⟨_,d,rfl⟩ noFill_tuple_add seq_tuple_add PySem.F.slot_tuple_add PySem.F.entry_tuple_add (PySem.F.args_tuple_add_2 _ _)
   (tuple_addW1 t b vs.toArray a.toArray n n2 dd g f h (by simpa using l) (by simp[hw])) ⟨c,d,h1 hw⟩
 ·refine concat_meets ⟨_,c,rfl⟩ ⟨_,d,rfl⟩ noFill_tuple_add seq_tuple_add PySem.F.slot_tuple_add PySem.F.entry_tuple_add (PySem.F.args_tuple_add_2 _ _)
   (tuple_addW2 t b vs.toArray a.toArray n n2 dd g f h (by simpa using l) (by simpa using hw) (by rw[Ai,Ai];exact hsz)) ⟨c,d,?_⟩
  rw[e];exact h2 hw
def sIx(n d:Nat):Option Int->Nat
 |none=>d
 |some v=>if v<0 then(v+(n:Int)).toNat else min v.toNat n
def sd(n d:Nat):sIx n d none=d:=rfl
def pd(n d k:Nat):sIx n d (some (k:Int))=min k n:=by
 show(if(k:Int)<0 then((k:Int)+(n:Int)).toNat else min (k:Int).toNat n)=min k n;rw[if_neg ω,Int.toNat_natCast]
def J8(n d:Nat)(hd:d<=n)(o:Option Int):sIx n d o<=n:=by
 cases o with
 |none=>exact hd
 |some v=>
  show(if v<0 then(v+(n:Int)).toNat else min v.toNat n)<=n
  by_cases a:v<0
  ·rw[if_pos a];(first|lia|omega)
  ·rw[if_neg a];exact Nat.min_le_right _ _
def FZ(v:Int)(n d:Nat):(if v<0 then max (v+(n:Int)) 0 else min v (n:Int))=((sIx n d (some v):Nat):Int):=by
 show(if v<0 then max (v+(n:Int)) 0 else min v (n:Int))=(((if v<0 then(v+(n:Int)).toNat else min v.toNat n):Nat):Int)
 by_cases a:v<0
 ·simp only[if_pos a];(first|lia|omega)
 ·simp only[if_neg a];(first|lia|omega)
def J9(lo hi:Option Int)(n:Nat):Builtin.Slice.sliceAdjust lo hi 1 (n:Int)=(((sIx n 0 lo:Nat):Int),((sIx n n hi:Nat):Int)):=by
 have h1:¬((1:Int)<0):=ω
 unfold Builtin.Slice.sliceAdjust;simp only[h1,if_false];refine Prod.ext ?_ ?_
 ·cases lo with
  |none=>rfl
  |some v=>exact FZ v n 0
 ·cases hi with
  |none=>rfl
  |some v=>exact FZ v n n
def J_(i j:Nat):Builtin.Slice.slicePlaces (i:Int) (j:Int) 1=j-i:=by
 unfold Builtin.Slice.slicePlaces;have h1:(1:Int)>0:=ω
 simp only[h1,if_true,Int.ediv_one];split<;>(first|lia|omega)
def F0{v:Value}{o:Option Int}{Q:Option Int->Shared->Prop}(p:IsPart v o)(h:Q o s):wpAny (model prog w) A (Builtin.Slice.slicePartIndex v) Q E s:=by
 cases p with
 |none=>exact slicePart_none h
 |int i t=>exact slicePart_int h
def F3{f:Addr}{d e:Value}{lo hi:Option Int}{n:Nat}{Q:Int×Int×Nat->Shared->Prop}(hs:s.heap.IsSliceOf f d e .none)(g:IsPart d lo)(i:IsPart e hi)(h:Q (((sIx n 0 lo:Nat):Int),1,sIx n n hi-sIx n 0 lo) s):wpAny (model prog w) A (Builtin.Slice.sliceApplied (.ref f) (pure (n:Int))) Q E s:=by
 obtain⟨os,a,j,c⟩:=id hs;unfold Builtin.Slice.sliceApplied Builtin.Slice.sliceFields;refine Aa (Aa (AR a c (x:=d) rfl (Aa (AR a c (x:=e) rfl (Aa (AR a c (x:=.none) rfl (Ad ?_)))))));refine Aa (slicePart_none ?_);show wpAny _ _ (if((1:Int)==0)=true then _ else _) _ _ s;rw[if_neg ξ];refine Aa (F0 g (Aa (F0 i (Aa (Ad ?_)))));show wpAny _ _ (match Builtin.Slice.sliceAdjust lo hi 1 (n:Int) with|(lo,hi)=>pure (lo,(1:Int),Builtin.Slice.slicePlaces lo hi 1)) _ _ s;rw[J9 lo hi n];show wpAny _ _ (pure (((sIx n 0 lo:Nat):Int),(1:Int),Builtin.Slice.slicePlaces ((sIx n 0 lo:Nat):Int) ((sIx n n hi:Nat):Int) 1)) _ _ s;rw[J_];exact Ad h
def Ka(xs:Array Value)(i k:Nat):((AQ k).filterMap fun(m:Nat)=>xs[((i:Int)+(m:Int)*1).toNat]?).toArray=((xs.toList.drop i).take k).toArray:=by
 have e:(fun(m:Nat)=>xs[((i:Int)+(m:Int)*1).toNat]?)=fun m=>xs[i+m]?:=by
  funext m
  have:((i:Int)+(m:Int)*1).toNat=i+m:=ω
  rw[this]
 rw[e];have:=pick_run xs i k;rw[List.filterMap_map] at this;have e2:((fun x=>xs[x]?) ∘ fun x=>i+x)=fun m=>xs[i+m]?:=rfl;rw[e2] at this;rw[this]
def Kb{t e:Addr}{a:Array Value}{f g:Value}{lo hi:Option Int}{Q:Ω}(ht:IsTup s.heap t a)(hs:s.heap.IsSliceOf e f g .none)(o:IsPart f lo)(p:IsPart g hi)(hw:¬(sIx a.size 0 lo=0/\sIx a.size a.size hi=a.size))(h:Q (.ref s⁻¹) {s with heap:=s.heap.push {cls:=.type "tuple",data:=.seq ((a.toList.drop (sIx a.size 0 lo)).take (sIx a.size a.size hi-sIx a.size 0 lo)).toArray}})(hsz:a.size<=sizeLine):wpAny (model prog w) A (getItem (.ref t) (.ref e)) Q E s:=by
 have c:sizeOk (.seq ((a.toList.drop (sIx a.size 0 lo)).take (sIx a.size a.size hi-sIx a.size 0 lo)).toArray):=by
  show((a.toList.drop (sIx a.size 0 lo)).take (sIx a.size a.size hi-sIx a.size 0 lo)).toArray.size<=sizeLine;rw[Ai,Av,List.length_drop,Ax];(first|lia|omega)
 have u:sIx a.size a.size hi<=a.size:=J8 _ _ (Ag _) hi;obtain⟨os,i,j,r⟩:=id hs;have l:s.TypeIs (.ref e) "slice":=⟨os,i,j⟩;unfold getItem
 try with_reducible refine A0 ?_
 first|refine Aa (Ad ?_)|skip
 refine Aa (wpAny_sequenceKey ht.typeIs ξ ?_);refine Aa (wpAny_callSpecial?_slot (name:=Str.ofString "__getitem__") ht.typeIs PyProof.Rows.slot_tuple_getitem
  (A8 PyProof.Rows.slot_tuple_getitem ht.typeIs entry_tuple_getitem ?_ (args_tuple_getitem _ _)))
 show wpAny _ _ (Builtin.Tuple.tupleItemsOf (.ref t) >>= _) _ _ s;refine Aa (tupleItemsOf_ ht ?_);refine Aa (wpAny_typeOf l ?_);rw[if_pos ξ];refine Aa (F3 hs o p ?_);have d:¬((((sIx a.size 0 lo:Nat):Int)==0&&(1:Int)==1&&(sIx a.size a.size hi-sIx a.size 0 lo)==a.size)=true):=by
  intro q;rw[AL,AL] at q;have q1:((sIx a.size 0 lo:Nat):Int)=0:=eq_of_beq q.1.1;have v:sIx a.size a.size hi-sIx a.size 0 lo=a.size:=eq_of_beq q.2;exact hw ⟨ω,ω⟩
 show wpAny _ _ (if(((sIx a.size 0 lo:Nat):Int)==0&&(1:Int)==1&&(sIx a.size a.size hi-sIx a.size 0 lo)==a.size)=true then _ else _) _ _ s;rw[if_neg d,Ka]
 first
  |exact Aa (m:=Builtin.Tuple.tupleExact _) (AW (Ad ⟨_,rfl,Ad h⟩) c)
  |exact Aa (m:=Builtin.Tuple.tupleExact _) (AW (Aa (Ad (Ad ⟨_,rfl,Ad h⟩))) c)
  |exact Aa (Aa (m:=Builtin.Tuple.tupleExact _) (AW (Ad (Ad ⟨_,rfl,Ad h⟩)) c))
  |exact Aa (Aa (m:=Builtin.Tuple.tupleExact _) (AW (Ad ⟨_,rfl,Ad h⟩) c))
end
end HT
namespace L2
open PySem PySem.Spec PyProof.Rows
abbrev TO:=St->Hp->(Option Int->Hp->Prop)->Prop
def PO(X:Cx)(e:Option Expr)(t:TO):Prop:=
 ∀(aa:Ψ)(s:Shared)(σ:St)(H:Hp)(Q:Option Int->Hp->Prop),Inv X aa σ H s->t σ H Q->
  wpAny (model X.prog X.w) X.A (evalPart e X.env) (fun u s'=>∃o H',Inv X aa σ H' s'/\IsPart u o/\Q o H') X.xe s
def BW:TO:=fun _ H Q=>Q none H
def B0(t:TE):TO:=fun σ H Q=>t σ H fun x H1=>∃i,x=.int i/\Q (some i) H1
def intsAre_of{a:List Int}:∀{us:List Value},Vals (a.map V.int) us->IntsAre us a:=by
 induction a with
 |nil=>intro us r;rw[List.map_nil] at r;cases r;exact .nil
 |cons n a ih=>
  intro us r;rw[AF] at r;cases r with
  |cons r1 r2=>
   obtain⟨t,e⟩:=r1;subst e;exact .cons n t (ih r2)
section
variable{X:Cx}{e:Expr}{te:TE}{lo hi:Option Expr}{tl th:TO}{pos p2:Pos}
def sh:PO X none BW:=by
 intro aa s σ H Q I h;rw[evalPart_none];exact Ad ⟨none,H,I,.none,h⟩
def sj(h:PE X e te):PO X (some e) (B0 te):=by
 intro aa s σ H Q I hw;rw[evalPart_some];refine aX (h aa s σ H _ I hw) fun u d ⟨x,H1,c,a,q1⟩=>?_;obtain⟨i,rfl,q⟩:=q1;obtain⟨t,rfl⟩:=a;exact⟨some i,H1,c,.int i t,q⟩
def sk(X:Cx)(r:V->Option Int->Option Int->Hp->VK->Prop):Prop:=
 ∀(aa:Ψ)(s:Shared)(σ:St)(H:Hp)(x:V)(v a c:Value)(lo hi:Option Int)(d:Addr)(Q:VK),Inv X aa σ H s->RelV x v->s.heap.IsSliceOf d a c .none->IsPart a lo->IsPart c hi->r x lo hi H Q->
  ∃T id,typeLookup (.type T) "__getitem__"=pure (some (.builtin id))/\s.TypeIs v T/\wpAny (model X.prog X.w) X.A (getItem v (.ref d)) (EP X aa σ Q) X.xe s
def Ca(r:V->Option Int->Option Int->Hp->VK->Prop)(te:TE)(tl th:TO):TE:=fun σ H Q=>te σ H fun x H1=>tl σ H1 fun l H2=>th σ H2 fun u a=>r x l u a Q
def ss{r:V->Option Int->Option Int->Hp->VK->Prop}(hr:sk X r)(he:PE X e te)(E:PO X lo tl)(hu:PO X hi th):PE X (.Subscript e (.Slice lo hi none p2) pos) (Ca r te tl th):=by
 intro aa s σ H Q I h;refine Subscript_ (aX (he aa s σ H _ I h) fun v g ⟨x,H1,F,i,q1⟩=>?_);refine wpAny_Slice (aX (E aa g σ H1 _ F q1) fun c j ⟨l,H2,G,o,p⟩=>aX (hu aa j σ H2 _ G p) fun d a ⟨u,f,I3,y,z⟩=>?_);rw[evalPart_none];refine Ad ?_;have J:Inv X aa σ f {a with heap:=a.heap.push {cls:=.type "slice",data:=.fields #[c,d,.none]}}:=I3.kept (t':=a.toks) fun b ob q=>Ae _ q;obtain⟨T,id,C,ht,D⟩:=hr aa {a with heap:=a.heap.push {cls:=.type "slice",data:=.fields #[c,d,.none]}} σ f x v c d l u a⁻¹ Q J i (Heap.IsSliceOf.new ..) o y z;show wpAny (model X.prog X.w) X.A (subscriptTail e (.Slice lo hi none p2) v (.ref a⁻¹)) (EP X aa σ Q) X.xe {a with heap:=a.heap.push {cls:=.type "slice",data:=.fields #[c,d,.none]}};exact tail_any (ops:=[.ref a⁻¹,v]) ht C D (by with_unfolding_all rfl)
def cM(xs:List V)(lo hi:Option Int):List V:=(xs.drop (HT.sIx xs.length 0 lo)).take (HT.sIx xs.length xs.length hi-HT.sIx xs.length 0 lo)
def F4(xs:List V)(lo hi:Option Int):(cM xs lo hi).length<=xs.length:=by
 unfold cM;rw[Av,List.length_drop];(first|lia|omega)
def Ci(K:Ac):V->Option Int->Option Int->Hp->VK->Prop:=fun x lo hi H Q=>∃a xs,x=.ref a/\SqT K H a xs/\
 ¬(HT.sIx xs.length 0 lo=0/\HT.sIx xs.length xs.length hi=xs.length)/\∀p,H p=none->Q (.ref p) (upd H p (.tup (cM xs lo hi)))
def F5:sk X (Ci X.K):=by
 intro aa s σ H x v i j lo hi l Q I d hs e f h;obtain⟨a,xs,rfl,hx,hw,q⟩:=h;cases d;obtain⟨g,r,ht,hz⟩:=I.tuple hx;have c:g.toArray.size=xs.length:=by rw[Ai];exact r.length.symm
 refine⟨"tuple",_,PyProof.Rows.slot_tuple_getitem.lookup,ht.typeIs,?_⟩;refine HT.Kb ht hs e f (by rw[c];exact hw) ?_ (by rw[c];exact hz);rw[c];refine⟨.ref s⁻¹,_,I.laid (t':=s.toks) (o:=.tup (cM xs lo hi)) (fun b ob q=>Ae _ q) (Ag _) ?_,rfl,q _ (I.hok.fresh (Ag _))⟩;exact⟨AB (F4 xs lo hi) hz,_,(r.drop (HT.sIx xs.length 0 lo)).take (HT.sIx xs.length xs.length hi-HT.sIx xs.length 0 lo),IsTup.new _ _⟩
def Vals.nil_iff{xs:List V}{us:List Value}(r:Vals xs us):us=[]↔xs=[]:=by
 cases r with
 |nil=>simp
 |cons _ _=>simp
end
def io(n:Nat)(i:Int):Option Nat:=if 0<=i then(if i<n then some i.toNat else none) else if -(n:Int)<=i then some (i+n).toNat else none
def eX{a:Type}(xs:List a)(i:Int):Option a:=(io xs.length i).bind fun j=>xs[j]?
def F9{n:Nat}{i:Int}{j:Nat}(h:io n i=some j):seqIndex? i n=some j/\j<n/\-(n:Int)<=i/\i<n:=by
 unfold io at h
 by_cases a:0<=i
 ·rw[if_pos a] at h
  by_cases h1:i<n
  ·rw[if_pos h1] at h
   have e:i.toNat=j:=As h;exact⟨by rw[seqIndex_of a h1,e],ω,ω,h1⟩
  ·rw[if_neg h1] at h;cases h
 ·rw[if_neg a] at h
  by_cases h1:-(n:Int)<=i
  ·rw[if_pos h1] at h
   have e:(i+n).toNat=j:=As h;exact⟨by rw[seqIndex_neg ω h1,e],ω,h1,ω⟩
  ·rw[if_neg h1] at h;cases h
def F_{a:Type}{xs:List a}{i:Int}{v:a}(h:eX xs i=some v):∃j,seqIndex? i xs.length=some j/\xs[j]?=some v/\j<xs.length/\-(xs.length:Int)<=i/\i<xs.length:=by
 unfold eX at h;cases e:io xs.length i with
 |none=>rw[e] at h;cases h
 |some j=>
  rw[e] at h;obtain⟨h1,h2,c,d⟩:=F9 e;exact⟨j,h1,h,h2,c,d⟩
def zD{a:Type}{xs:List a}{j:Nat}{v:a}(h:xs[j]?=some v):eX xs (j:Int)=some v:=by
 have c:j<xs.length:=(List.getElem?_eq_some_iff.mp h).1;have e:io xs.length (j:Int)=some j:=by
  unfold io;rw[if_pos ω,if_pos ω];simp
 unfold eX;rw[e];exact h
def F'{a:Type}(xs:List a)(v:a):eX (xs++[v]) (-1)=some v:=by
 have c:(xs++[v]).length=xs.length+1:=by simp
 have e:io (xs++[v]).length (-1)=some xs.length:=by
  unfold io;rw[c,if_neg ξ,if_pos ω]
  congr 1
  (first|lia|omega)
 unfold eX;rw[e];show(xs++[v])[xs.length]?=some v;simp
def Kc(b:Expr):Prop:=∀o i,subscripted b false o i=operate [o,i] (getItem o i)
def Cj(X:Cx)(r:R2):Prop:=
 ∀(aN slice:Expr)(aa:Ψ)(s:Shared)(σ:St)(H:Hp)(x y:V)(v u:Value)(Q:VK),Inv X aa σ H s->RelV x v->RelV y u->r x y H Q->
  subscripted slice false v u=operate [v,u] (getItem v u)->wpAny (model X.prog X.w) X.A (subscriptTail aN slice v u) (EP X aa σ Q) X.xe s
def ph(X:Cx)(id:String)(r:V->List V->Hp->VK->Prop):Prop:=
 ∀(aa:Ψ)(s:Shared)(σ:St)(H:Hp)(x:V)(xs:List V)(v:Value)(us:List Value)(Q:VK),Inv X aa σ H s->RelV x v->Vals xs us->r x xs H Q->
  wpAny (model X.prog X.w) X.A (call (.builtin id) (v::us)) (EP X aa σ Q) X.xe s
section
variable{X:Cx}{a b:Expr}{ta tb:TE}{pos:Pos}
def cK{r:R2}(hr:Cj X r)(ha:PE X a ta)(hb:PE X b tb)(hs:Kc b):PE X (.Subscript a b pos) (dv r ta tb):=by
 intro aa s σ H Q I h;exact Subscript_ (j0 ha hb I h fun v u c x y H2 f d e q=>hr a b aa c σ H2 x y v u Q f d e q (hs _ _))
def pi(K:Ac):R2:=fun x y H Q=>∃p xs i v,x=.ref p/\y=.int i/\SqL K H p xs/\eX xs i=some v/\Q v H
def j'(K:Ac):R2:=fun x y H Q=>∃p xs i v,x=.ref p/\y=.int i/\SqT K H p xs/\eX xs i=some v/\Q v H
def zZ:Cj X (pi X.K):=by
 intro aN slice aa s σ H x y v u Q I f g h hs;obtain⟨p,xs,i,z,rfl,rfl,hq,he,q⟩:=h;cases f;obtain⟨t,rfl⟩:=g;obtain⟨l,r,a,hz⟩:=I.list hq;obtain⟨j,h1,h2,E,o,A⟩:=F_ he;obtain⟨w,d,C⟩:=r.get h2;have D:=r.length;have F:=dz;have fin:EP X aa σ Q w s:=⟨z,H,I,C,q⟩
 by_cases e:0<=i
 ·have c:i.toNat=j:=by
   rw[seqIndex_of e A] at h1;exact As h1
  exact item_listR a.isList e ω (by rw[c];simpa using d) fin hs
 ·have c:(i+(l.toArray.size:Int)).toNat=j:=by
   rw[seqIndex_neg ω o] at h1;rw[Ai,<-D];exact As h1
  exact subscriptTail_builtinR (x:=w) a.isList.typeIs slot_list_getitem.lookup
   (wpAny_getItem_list_neg (Q:=fun r s'=>r=w/\EP X aa σ Q r s') a.isList ω (by rw[Ai]<;>(first|lia|omega)) ω (by rw[c];simpa using d) ⟨rfl,fin⟩) hs
def eK:Cj X (j' X.K):=by
 intro aN slice aa s σ H x y v u Q I c d h hs;obtain⟨p,xs,i,z,rfl,rfl,hq,he,q⟩:=h;cases c;obtain⟨t,rfl⟩:=d;obtain⟨l,r,a,hz⟩:=I.tuple hq;obtain⟨j,h1,h2,o,A,C⟩:=F_ he;obtain⟨w,e,f⟩:=r.get h2;have g:=r.length;have D:=dz;have fin:EP X aa σ Q w s:=⟨z,H,I,f,q⟩;exact subscriptTail_builtinR (x:=w) a.typeIs slot_tuple_getitem.lookup
  (getItem_tuple (j:=j) (Q:=fun r s'=>r=w/\EP X aa σ Q r s') a ω ω (by rw[Ai,<-g];exact h1) (by simpa using e) ⟨rfl,fin⟩) hs
def Kd(a:List Value)(n j:Nat)(u:Value):AO (·.setIfInBounds j u) {cls:=.type "list",data:=.seq a.toArray n}={cls:=.type "list",data:=.seq (a.set j u).toArray n}:=by
 simp[AO]
def Inv.lst{aa:Ψ}{σ:St}{H:Hp}{s:Shared}{p:Addr}{xs:List V}(I:Inv X aa σ H s)(h:H p=some (.lst xs)):∃(a:List Value)(n:Nat),Vals xs a/\s.heap.get? p=some {cls:=.type "list",data:=.seq a.toArray n}/\xs.length<=sizeLine:=by
 obtain⟨z,a,n,r,e⟩:=I.hok p _ h;exact⟨a,n,r,e,z⟩
def Inv.lstUpd{aa:Ψ}{σ:St}{H:Hp}{s:Shared}{p:Addr}{xs ys:List V}{c its':List Value}{n a:Nat}{f:Obj->Obj}(I:Inv X aa σ H s)(h:H p=some (.lst xs))(d:s.heap.get? p=some {cls:=.type "list",data:=.seq c.toArray n})(hf:f {cls:=.type "list",data:=.seq c.toArray n}={cls:=.type "list",data:=.seq its'.toArray a})(r:Vals ys its')(hz:ys.length<=sizeLine)(t:Nat):Inv X aa σ (upd H p (.lst ys)) {s with heap:=s.heap.update p f,toks:=t}:=by
 have e:(s.heap.update p f).get? p=some {cls:=.type "list",data:=.seq its'.toArray a}:=by
  rw[Heap.get?_update_self f d (by rw[hf]<;>rfl),hf]
 refine I.write (x:=p) (e:=p) (by rw[h];trivial) (.inl rfl) (fun b u hb q=>(Heap.get?_update_other _ _ (Ne.symm hb)).trans q) ⟨_,e⟩ ?_;exact⟨hz,its',a,r,e⟩
def Ke:V->V->V->Hp->(Hp->Prop)->Prop:=fun o i v H Q=>∃p xs k j,o=.ref p/\i=.int k/\H p=some (.lst xs)/\io xs.length k=some j/\Q (upd H p (.lst (xs.set j v)))
def set_list:oS X Ke:=by
 intro aa s σ H o i v C D u Q I x y z h;obtain⟨p,xs,k,j,rfl,rfl,hp,A,q⟩:=h;cases x;obtain⟨t,rfl⟩:=y;obtain⟨d,n,r,a,hz⟩:=I.lst hp;obtain⟨h1,h2,e,f⟩:=F9 A;have c:=r.length;have E:=dz;have l:Inv X aa σ (upd H p (.lst (xs.set j v))) {s with heap:=s.heap.update p (AO (·.setIfInBounds j u))}:=
  I.lstUpd hp a (Kd d n j u) (r.set z j) (by rw[List.length_set];exact hz) s.toks
 by_cases g:0<=k
 ·have hk:k.toNat=j:=by
   rw[seqIndex_of g f] at h1;exact As h1
  exact PySem.W.ki_setAt a g ω (by rw[Ai,<-c];exact f) (by rw[hk];exact⟨_,l,q⟩)
 ·have hk:(k+(d.toArray.size:Int)).toNat=j:=by
   rw[seqIndex_neg ω e] at h1;rw[Ai,<-c];exact As h1
  exact PySem.W.ki_setBack a ω (by rw[Ai,<-c];exact e) ω (by rw[hk];exact⟨_,l,q⟩)
def Kf(lo hi:Option Int)(n:Nat):(sliceBounds lo hi none n).1=((HT.sIx n 0 lo:Nat):Int)/\(sliceBounds lo hi none n).2.1=((HT.sIx n n hi:Nat):Int)/\(sliceBounds lo hi none n).2.2=1:=by
 refine⟨?_,?_,rfl⟩
 ·cases lo with
  |none=>simp[sliceBounds,HT.sIx]
  |some i=>
   simp only[sliceBounds,HT.sIx,Option.getD_none,show(1:Int)>0 from ξ,if_true]
   by_cases h:i<0
   ·simp only[h,if_true]<;>(first|lia|omega)
   ·simp only[h,if_false]<;>(first|lia|omega)
 ·cases hi with
  |none=>simp[sliceBounds,HT.sIx]
  |some i=>
   simp only[sliceBounds,HT.sIx,Option.getD_none,show(1:Int)>0 from ξ,if_true]
   by_cases h:i<0
   ·simp only[h,if_true]<;>(first|lia|omega)
   ·simp only[h,if_false]<;>(first|lia|omega)
def Kg(a:List Value)(lo hi:Option Int):slicePick a.toArray lo hi none=((a.drop (HT.sIx a.length 0 lo)).take (HT.sIx a.length a.length hi-HT.sIx a.length 0 lo)).toArray:=by
 obtain⟨h1,h2,c⟩:=Kf lo hi a.toArray.size;unfold slicePick;rw[h1,h2,c];simp only[sliceRange_one,pick_run,Ai]<;>rfl
def Cw(K:Ac):V->Option Int->Option Int->Hp->VK->Prop:=fun x lo hi H Q=>∃a xs,x=.ref a/\SqL K H a xs/\∀p,H p=none->Q (.ref p) (upd H p (.lst (cM xs lo hi)))
def Kh:sk X (Cw X.K):=by
 intro aa s σ H x v g i lo hi j Q I d hs e f h;obtain⟨a,xs,rfl,hx,q⟩:=h;cases d;obtain⟨l,r,ht,hz⟩:=I.list hx;have c:=r.length;refine⟨"list",_,slot_list_getitem.lookup,ht.isList.typeIs,?_⟩;refine wpAny_getItem_list_slice ht.isList hs e f .none (by simp) ?_ (by rw[Ai]<;>(first|lia|omega));rw[Kg,<-c];refine⟨.ref s⁻¹,_,I.laid (t':=s.toks) (o:=.lst (cM xs lo hi)) (fun b ob q=>Ae _ q) (Ag _) ?_,rfl,q _ (I.hok.fresh (Ag _))⟩;exact⟨AB (F4 xs lo hi) hz,_,0,(r.drop (HT.sIx xs.length 0 lo)).take (HT.sIx xs.length xs.length hi-HT.sIx xs.length 0 lo),Aq _ rfl⟩
def gk:V->Bool
 |.non=>true
 |.bl _=>true
 |.int _=>true
 |.str _=>true
 |_=>false
def fv:V->V->Bool
 |.non,.non=>true
 |.bl a,.bl b=>a==b
 |.bl a,.int b=>(if a then 1 else 0)==b
 |.int a,.bl b=>a==(if b then 1 else 0)
 |.int a,.int b=>a==b
 |.str a,.str b=>a==b
 |_,_=>false
def Ki{A:Around}{s:Shared}{y x:V}{u v:Value}(d:RelV y u)(c:RelV x v)(e:gk y=true)(fx:gk x=true):SeqAt.EqAt A s u v (fv y x):=by
 cases y with
 |non=>
  cases d;cases x with
  |non=>cases c;exact SeqAt.EqAt.same _
  |bl b=>cases c;exact SeqAt.EqAt.none_bool b
  |int b=>obtain⟨t,rfl⟩:=c;exact SeqAt.EqAt.none_int b t
  |str b=>obtain⟨t,rfl⟩:=c;exact SeqAt.EqAt.none_str b t
  |_=>exact absurd (show false=true from fx) Ak
 |bl a=>
  cases d;cases x with
  |non=>cases c;exact SeqAt.EqAt.bool_none a
  |bl b=>cases c;exact SeqAt.EqAt.bool_bool a b
  |int b=>obtain⟨t,rfl⟩:=c;exact SeqAt.EqAt.bool_int a b t
  |str b=>obtain⟨t,rfl⟩:=c;exact SeqAt.EqAt.bool_str a b t
  |_=>exact absurd (show false=true from fx) Ak
 |int a=>
  obtain⟨t',rfl⟩:=d;cases x with
  |non=>cases c;exact SeqAt.EqAt.int_none a t'
  |bl b=>cases c;exact SeqAt.EqAt.int_bool a t' b
  |int b=>obtain⟨t,rfl⟩:=c;exact SeqAt.EqAt.int_int a t' b t
  |str b=>obtain⟨t,rfl⟩:=c;exact SeqAt.EqAt.int_str a t' b t
  |_=>exact absurd (show false=true from fx) Ak
 |str a=>
  obtain⟨t',rfl⟩:=d;cases x with
  |non=>cases c;exact SeqAt.EqAt.str_none a t'
  |bl b=>cases c;exact SeqAt.EqAt.str_bool a t' b
  |int b=>obtain⟨t,rfl⟩:=c;exact SeqAt.EqAt.str_int a t' b t
  |str b=>obtain⟨t,rfl⟩:=c;exact SeqAt.EqAt.str_str a t' b t
  |_=>exact absurd (show false=true from fx) Ak
 |_=>exact absurd (show false=true from e) Ak
def ip(x:V)(u:Value):Bool:=match u with
 |.none=>fv .non x
 |.bool b=>fv (.bl b) x
 |.int i _=>fv (.int i) x
 |.str z _=>fv (.str z) x
 |_=>false
def Cy{x y:V}{u:Value}(r:RelV y u)(f:gk y=true):ip x u=fv y x:=by
 cases y with
 |non=>cases r;rfl
 |bl b=>cases r;rfl
 |int i=>obtain⟨t,rfl⟩:=r;rfl
 |str z=>obtain⟨t,rfl⟩:=r;rfl
 |_=>exact absurd (show false=true from f) Ak
def CA{A:Around}{s:Shared}{x:V}{v:Value}(a:RelV x v)(fx:gk x=true):∀{xs:List V}{us:List Value},Vals xs us->xs.all gk=true->∀u∈us,SeqAt.EqAt A s u v (ip x u)
 |_,_,.nil,_=>fun u hu=>by cases hu
 |y::xs,u::us,.cons r t,f=>fun c hu=>by
  rw[List.all_cons,AL] at f;rcases List.mem_cons.mp hu with rfl|hu
  ·rw[Cy r f.1];exact Ki r a f.1 fx
  ·exact CA a fx t f.2 c hu
def zp:fm X (.builtin "len") (fun xs H Q=>∃p ys,xs=[.ref p]/\(SqL X.K H p ys\/SqT X.K H p ys)/\Q (.int ys.length) H):=by
 intro aa s σ H xs us Q I r h;obtain⟨p,ys,rfl,hq,q⟩:=h;obtain⟨u,rfl,e⟩:=vals1 r;cases e;have g:=dz;rcases hq with hq|hq
 ·obtain⟨f,c,d,hz⟩:=I.list hq
  have a:=c.length;exact Calls.call_len_list d.isList (by simp only[Ai]<;>(first|lia|omega)) ⟨.int ys.length,H,I.tok _,⟨s.toks+1,by rw[Ai,a]⟩,q⟩
 ·obtain⟨f,c,d,hz⟩:=I.tuple hq
  have a:=c.length;exact len_tuple d (by simp only[Ai]<;>(first|lia|omega)) ⟨.int ys.length,H,I.tok _,⟨s.toks+1,by rw[Ai,a]⟩,q⟩
def zR:fm X (.type "list") (fun xs H Q=>∃p ys,xs=[.ref p]/\(SqL X.K H p ys\/SqT X.K H p ys)/\∀l,H l=none->Q (.ref l) (upd H l (.lst ys))):=by
 intro aa s σ H xs us Q I r h;obtain⟨p,ys,rfl,hq,q⟩:=h;obtain⟨u,rfl,v⟩:=vals1 r;cases v;have fin:∀(a:List Value),Vals ys a->ys.length<=sizeLine->∀(h':Heap)(d:Nat),(∀b o',s.heap.get? b=some o'->h'.get? b=some o')->
   h'.get? s⁻¹=some {cls:=.type "list",dict:=none,data:=.seq a.toArray d,slots:=#[]}->EP X aa σ Q (.ref s⁻¹) {s with heap:=h'}:=fun a c hz h' d f e=>
  ⟨.ref s⁻¹,_,I.laid (t':=s.toks) f (Ag _) (show zT X.prog X.w _ h' _ (.lst ys) from⟨hz,a,d,c,e⟩),rfl,q _ (I.hok.fresh (Ag _))⟩
 rcases hq with hq|hq
 ·obtain⟨a,c,i,hz⟩:=I.list hq
  have g:=c.length;obtain⟨o,j,hc,n,hd⟩:=i.isList;exact call_list_seq p (.inl rfl) j hc hd (fun h' d f e=>fin a c hz h' d f e) (by simp only[Ai]<;>(first|lia|omega))
 ·obtain⟨a,c,i,hz⟩:=I.tuple hq
  have g:=c.length;obtain⟨o,j,hc,n,hd⟩:=i;exact call_list_seq p (.inr rfl) j hc hd (fun h' d f e=>fin a c hz h' d f e) (by simp only[Ai]<;>(first|lia|omega))
def Gc:fm X (.type "tuple") (fun xs H Q=>∃p ys,xs=[.ref p]/\((SqL X.K H p ys/\∀l,H l=none->Q (.ref l) (upd H l (.tup ys)))\/(SqT X.K H p ys/\Q (.ref p) H))):=by
 intro aa s σ H xs us Q I r h;obtain⟨p,ys,rfl,h⟩:=h;obtain⟨u,rfl,i⟩:=vals1 r;cases i;rcases h with ⟨hq,q⟩|⟨hq,q⟩
 ·obtain⟨a,c,d,hz⟩:=I.list hq
  have f:=c.length;refine call_tuple_list d.isList (fun h' g=>?_) (by simp only[Ai]<;>(first|lia|omega));have I1:Inv X aa σ H {s with heap:=h'}:=I.kept (t':=s.toks) g;have j:Inv X aa σ (upd H h'.objs.size (.tup ys)) {s with heap:=h'.push {cls:=.type "tuple",data:=.seq a.toArray}}:=
   I1.laid (t':=s.toks) (fun b o e=>Ae _ e) (Ag _) (show zT X.prog X.w _ _ _ (.tup ys) from⟨hz,a,c,IsTup.new _ _⟩)
  exact⟨.ref h'.objs.size,_,j,rfl,q _ (I1.hok.fresh (Ag _))⟩
 ·obtain⟨a,c,d,hz⟩:=I.tuple hq
  exact call_tuple_same d ⟨.ref p,H,I,rfl,q⟩
def CD(K:Ac)(T:String)(x:V)(H:Hp):Prop:=match x with
 |.str _=>T="str"
 |.int _=>T="int"
 |.ref p=>(T="list"/\∃xs,SqL K H p xs)\/(T="tuple"/\∃o,K.lookup p=some o/\o.cls=.type "tuple"/\o.dict=none) \/
   (T="dict"/\((∃kvs,H p=some (.dK kvs))\/∃kvs,H p=some (.dT kvs)))\/(T="set"/\∃S n,H p=some (.set S n))
 |_=>False
def Gd{aa:Ψ}{σ:St}{H:Hp}{s:Shared}{T:String}{x:V}{v:Value}(I:Inv X aa σ H s)(r:RelV x v)(ty:CD X.K T x H):s.TypeIs v T/\∀a,v=.ref a->∃ob,s.heap.get? a=some ob/\ob.dict=none:=by
 cases x with
 |str z=>
  obtain⟨t,rfl⟩:=r;cases(show T="str" from ty);exact⟨typeIs_str s z t,fun _ e=>nomatch e⟩
 |int i=>
  obtain⟨t,rfl⟩:=r;cases(show T="int" from ty);exact⟨typeIs_int s i t,fun _ e=>nomatch e⟩
 |ref p=>
  cases r;rcases ty with ⟨rfl,xs,hq⟩|⟨rfl,o,hk,hc,hd⟩|⟨rfl,hk⟩|⟨rfl,S,n,hk⟩
  ·obtain⟨f,_,d,_⟩:=I.list hq
   refine⟨d.isList.typeIs,fun a e=>?_⟩;cases e;obtain⟨o,n,e,c,hd,_⟩:=d;exact⟨o,e,hd⟩
  ·refine⟨⟨o,I.kIn p o hk,hc⟩,fun a e=>?_⟩
   cases e;exact⟨o,I.kIn _ o hk,hd⟩
  ·have z:∃o,s.heap.get? p=some o/\o.ExactDict:=by
    rcases hk with ⟨kvs,hk⟩|⟨kvs,hk⟩
    ·obtain⟨_,_,_,_,o,_,_,e,ex,_⟩:=I.hok p _ hk
     exact⟨o,e,ex⟩
    ·obtain⟨_,_,_,_,o,_,_,e,ex,_⟩:=I.hok p _ hk
     exact⟨o,e,ex⟩
   obtain⟨o,e,ex⟩:=z;refine⟨⟨o,e,ex.1⟩,fun a e2=>?_⟩;cases e2;exact⟨o,e,ex.2.1⟩
  ·obtain⟨o,_,_,_,e,ex,_⟩:=I.hok p _ hk
   refine⟨⟨o,e,ex.1⟩,fun a e2=>?_⟩;cases e2;exact⟨o,e,ex.2.1⟩
 |_=>exact False.elim ty
def CT(K:Ac)(T:String)(r:V->List V->Hp->VK->Prop)(to:TE):TE:=fun σ H Q=>to σ H fun x H1=>CD K T x H1/\r x [] H1 Q
def Kj(K:Ac)(T:String)(r:V->List V->Hp->VK->Prop)(to:TE)(t:TA):TE:=fun σ H Q=>to σ H fun x H1=>CD K T x H1/\t σ H1 fun xs H2=>r x xs H2 Q
variable{o e:Expr}{es:List Expr}{to:TE}{t:TA}{name:Str}{aY ax:Pos}{T id:String}{r:V->List V->Hp->VK->Prop}
def Kk(e:PlainAttrs T)(slot:Slot T name id)(f:typeOf (.builtin id)=pure (.type "method_descriptor"))(hm:ph X id r)(g:PE X o to)(i:attributeBase o name X.env (eval o X.env)=eval o X.env:=by rfl)(j:(aY.endLine==ax.line)=true:=by rfl):PE X (.Call (.Attribute o name aY) [] [] ax) (CT X.K T r to):=by
 intro aa s σ H Q I h;refine wpAny_Call_method0_late i j (aX (g aa s σ H _ I h) fun v d ⟨x,H1,c,a,ty,q1⟩=>?_);obtain⟨h1,h2⟩:=Gd c a ty;exact⟨T,id,e,slot,f,h1,h2,Calls.callWith_builtin rfl (PySem.evalArgs_none (hm aa d σ H1 x [] v [] Q c a .nil q1))⟩
def eY(p:PlainAttrs T)(slot:Slot T name id)(q:typeOf (.builtin id)=pure (.type "method_descriptor"))(hm:ph X id r)(u:PE X o to)(ha:PA X (e::es) t)(y:attributeBase o name X.env (eval o X.env)=eval o X.env:=by rfl)
  (z:((backTo ax (starEach (e::es) X.env)).all (fun x=>!x.1)&&(backToKw ax (keywordEach [] X.env)).all (fun x=>x.1.isSome)
   && decide ((e::es).length+([]:List Keyword).length+(if([]:List Keyword).isEmpty then 0 else 1)<30))=true:=by rfl)
  (A:(aY.endLine==ax.line)=true:=by rfl) (hs:starEach (e::es) X.env=(false,eval e X.env)::starEach es X.env:=by rfl) (C:(backTo ax (starEach es X.env)).any (·.1)=false:=by rfl) :
  PE X (.Call (.Attribute o name aY) (e::es) [] ax) (Kj X.K T r to t):=by
 intro aa s σ H Q I h;refine wpAny_Call_method_late y z A rfl (aX (u aa s σ H _ I h) fun v g ⟨x,H1,f,c,ty,q1⟩=>?_);obtain⟨h1,h2⟩:=Gd f c ty;refine⟨T,id,p,slot,q,h1,h2,?_⟩;have d:=ha ax aa g σ H1 _ f q1;rw[hs] at d ⊢;refine Calls.callWith_builtin (by show(false|| (backTo ax (starEach es X.env)).any (·.1))=false;rw[C]<;>rfl) (Calls.evalArgs_plain ?_);exact aX d fun us i ⟨vs,H2,D,j,l⟩=>hm aa i σ H2 x vs v us Q D c j l
end
def ka(X:Cx)(id:String)(r:V->List V->Hp->VK->Prop):Prop:=
 ∀(aa:Ψ)(s:Shared)(σ:St)(H:Hp)(x:V)(xs:List V)(v:Value)(us:List Value)(Q:VK),Inv X aa σ H s->RelV x v->Vals xs us->r x xs H Q->
  wpAny (model X.prog X.w) X.A (call (.builtin id) (v::us)) (EP X aa σ Q) X.xe s
def Vals.one{x:V}{us:List Value}(h:Vals [x] us):∃u,us=[u]/\RelV x u:=by
 cases h with|cons r t=>cases t;exact⟨_,rfl,r⟩
def Vals.two{x y:V}{us:List Value}(h:Vals [x,y] us):∃u v,us=[u,v]/\RelV x u/\RelV y v:=by
 cases h with|cons r t=>obtain⟨v,rfl,q⟩:=Vals.one t;exact⟨_,_,rfl,r,q⟩
def Vals.zero:∀{us:List Value},Vals [] us->us=[]
 |_,.nil=>rfl
def Vals.dropLast{xs:List V}{us:List Value}(h:Vals xs us):Vals xs.dropLast us.dropLast:=by
 induction h with
 |nil=>exact .nil
 |cons r t ih=>
  cases t with
  |nil=>exact .nil
  |cons q t'=>exact .cons r ih
def Vals.eraseIdx:∀{xs:List V}{us:List Value}(i:Nat),Vals xs us->Vals (xs.eraseIdx i) (us.eraseIdx i)
 |_,_,_,.nil=>.nil
 |_,_,0,.cons _ t=>t
 |_,_,i+1,.cons r t=>.cons r (Vals.eraseIdx i t)
def Vals.reverse{xs:List V}{us:List Value}(h:Vals xs us):Vals xs.reverse us.reverse:=by
 induction h with
 |nil=>exact .nil
 |cons r t ih=>rw[List.reverse_cons,List.reverse_cons];exact Vals.append ih (.cons r .nil)
def Vals.rep{xs:List V}{us:List Value}(h:Vals xs us):∀k:Nat,Vals (A5 k xs).flatten (A5 k us).flatten
 |0=>.nil
 |k+1=>by
  rw[List.replicate_succ,List.replicate_succ,List.flatten_cons,List.flatten_cons];exact Vals.append h (Vals.rep h k)
def Kl{c:Type}(l:List c):l.eraseIdx (l.length-1)=l.dropLast:=by
 induction l with
 |nil=>rfl
 |cons a r ih=>
  cases r with
  |nil=>rfl
  |cons b r=>
   have e:(a::b::r).length-1=((b::r).length-1)+1:=by
    have h1:(a::b::r).length=r.length+2:=rfl;have h2:(b::r).length=r.length+1:=rfl;(first|lia|omega)
   rw[e,List.eraseIdx_cons_succ,ih]
   all_goals rfl
def foldl_rep(a:List Value):∀(k:Nat)(acc:List Value),
  List.foldl (fun c d=>c++d) acc.toArray (A5 k a.toArray)=(acc++(A5 k a).flatten).toArray
 |0,acc=>by simp
 |k+1,acc=>by
  have e:acc.toArray++a.toArray=(acc++a).toArray:=by simp
  have e2:(acc++a)++(A5 k a).flatten=acc++(A5 (k+1) a).flatten:=by
   rw[List.replicate_succ,List.flatten_cons,AG]
  rw[<-e2,<-foldl_rep a k (acc++a),<-e,List.replicate_succ,List.foldl_cons]
section
variable{X:Cx}{aa:Ψ}{σ:St}{H:Hp}{s:Shared}{l b:Addr}{xs ys zs:List V}
def Inv.lset{a its':List Value}{n:Nat}{f:Array Value->Array Value}{t':Nat}(I:Inv X aa σ H s)(c:H l=some (.lst xs))(e:s.heap.get? l=some {cls:=.type "list",data:=.seq a.toArray n})(hf:f a.toArray=its'.toArray)(d:Vals ys its')(hz:ys.length<=sizeLine):Inv X aa σ (upd H l (.lst ys)) {s with heap:=s.heap.update l (AO f),toks:=t'}:=by
 have q:=PySem.IsL.update e f;rw[hf] at q;refine I.write (x:=l) (e:=l) (by rw[c];exact trivial) (.inl rfl) (fun g u hb hu=>(Heap.get?_update_other s.heap (AO f) (Ne.symm hb)).trans hu) ⟨_,q⟩ ?_;exact⟨hz,its',_,d,q⟩
def Inv.lnew{a:List Value}{t':Nat}(I:Inv X aa σ H s)(c:Vals ys a)(hz:ys.length<=sizeLine):Inv X aa σ (upd H s⁻¹ (.lst ys)) {s with heap:=s.heap.push {cls:=.type "list",data:=.seq a.toArray},toks:=t'}:=
 I.laid (fun _ _ q=>Ae _ q) (Ag _) ⟨hz,a,0,c,Aq _ rfl⟩
def Inv.fresh(I:Inv X aa σ H s):H s⁻¹=none:=I.hok.fresh (Ag _)
def Inv.lstM(I:Inv X aa σ H s)(c:H l=some (.lst xs)):xs.length<=sizeLine/\∃(a:List Value)(n:Nat),Vals xs a/\xs.length=a.length/\s.heap.get? l=some {cls:=.type "list",data:=.seq a.toArray n}:=by
 obtain⟨z,a,n,r,e⟩:=I.hok l _ c;exact⟨z,a,n,r,r.length,e⟩
def Gf{n:Nat}(h:n<=sizeLine):Builtin.List.listTooLong n=false:=by
 unfold Builtin.List.listTooLong;exact decide_eq_false ω
end
section
variable{X:Cx}
def zlC:V->List V->Hp->VK->Prop:=fun x vs H Q=>∃l xs y,x=.ref l/\vs=[y]/\H l=some (.lst xs)/\xs.length<sizeLine/\Q .non (upd H l (.lst (xs++[y])))
def kd:ka X "list.append" zlC:=by
 intro aa s σ H x vs v us Q I d f h;obtain⟨l,xs,y,rfl,rfl,a,hz,q⟩:=h;cases d;obtain⟨u,rfl,g⟩:=f.one;obtain⟨z,c,n,r,i,e⟩:=I.lstM a;refine call_meets F.slot_list_append ⟨_,e,rfl⟩ F.entry_list_append (F.args_list_append_2 _ _) (PySem.list_append l c.toArray n u (by rw[Ai];(first|lia|omega))) ⟨e,?_⟩;refine⟨.non,_,I.lset (its':=c++[u]) a e (by simp) (r.append (.cons g .nil)) ?_,rfl,q⟩;rw[Af,AK];(first|lia|omega)
def zlL:V->List V->Hp->VK->Prop:=fun x vs H Q=>∃l b xs zs,x=.ref l/\vs=[.ref b]/\H l=some (.lst xs)/\H b=some (.lst zs)/\xs.length+zs.length<=sizeLine/\Q .non (upd H l (.lst (xs++zs)))
def Gg:ka X "list.extend" zlL:=by
 intro aa s σ H x vs v us Q I g i h;obtain⟨l,b,xs,zs,rfl,rfl,f,j,hz,q⟩:=h;cases g;obtain⟨u,rfl,o⟩:=i.one;cases o;obtain⟨z,c,n,r,A,e⟩:=I.lstM f;obtain⟨z2,d,n2,p,y,e2⟩:=I.lstM j;have hsz:c.toArray.size+d.toArray.size<=sizeLine:=by rw[Ai,Ai];(first|lia|omega)
 have a:¬(!c.toArray.isEmpty&&Builtin.List.listTooLong (c.toArray.size+d.toArray.size))=true:=by
  rw[Gf hsz,Bool.and_false];exact Ak
 refine call_meets F.slot_list_extend ⟨_,e,rfl⟩ F.entry_list_extend (F.args_list_extend_2 _ _)
  (AutoSeq1.list_extend_list_list_0 l c.toArray n b d.toArray n2 a (by rw[Ai];(first|lia|omega)) ω) ⟨e,e2,?_⟩
 refine⟨.non,_,I.lset (its':=c++d) f e (by simp) (r.append p) ?_,rfl,q⟩;rw[Af];(first|lia|omega)
def rPop:V->List V->Hp->VK->Prop:=fun x vs H Q=>∃l xs y,x=.ref l/\vs=[]/\H l=some (.lst xs)/\xs[xs.length-1]?=some y/\Q y (upd H l (.lst xs.dropLast))
def Km:ka X "list.pop" rPop:=by
 intro aa s σ H x vs v us Q I d f h;obtain⟨l,xs,y,rfl,rfl,c,hy,q⟩:=h;cases d;have o:=f.zero;subst o;obtain⟨z,a,n,r,g,e⟩:=I.lstM c;obtain⟨u,hu,i⟩:=r.get hy;have j:a.toArray[a.toArray.size-1]?=some u:=by
  show a.toArray[a.length-1]?=some u;rw[<-AH,<-g];exact hu
 refine call_meets F.slot_list_pop ⟨_,e,rfl⟩ F.entry_list_pop (F.args_list_pop_1 _) (MeetsSeq.list_pop_last l a.toArray n u j (by rw[Ai];(first|lia|omega))) ⟨e,?_⟩;refine⟨y,_,I.lset (its':=a.dropLast) c e ?_ r.dropLast ?_,i,q⟩
 ·show a.toArray.eraseIdxIfInBounds (a.toArray.size-1)=a.dropLast.toArray
  rw[Ai,List.eraseIdxIfInBounds_toArray,Kl]
 ·rw[List.length_dropLast]
  (first|lia|omega)
def C3:R2:=fun x y H Q=>∃l b xs zs,x=.ref l/\y=.ref b/\H l=some (.lst xs)/\H b=some (.lst zs)/\xs.length+zs.length<=sizeLine/\∀p,H p=none->Q (.ref p) (upd H p (.lst (xs++zs)))
def iu:cG X (binaryOp .Add) C3:=by
 intro aa s σ H x y v u Q I d f h;obtain⟨l,b,xs,zs,rfl,rfl,g,i,hz,q⟩:=h;cases d;cases f;obtain⟨z,a,n,r,A,e⟩:=I.lstM g;obtain⟨z2,c,n2,j,o,e2⟩:=I.lstM i;refine PySem.P.add_list e e2 ?_ (by rw[Ai,Ai];(first|lia|omega));have p:a.toArray++c.toArray=(a++c).toArray:=by simp
 rw[p];exact⟨.ref _,_,I.lnew (t':=s.toks) (r.append j) (by rw[Af];(first|lia|omega)),rfl,q _ I.fresh⟩
def De:R2:=fun x y H Q=>∃l k xs,x=.ref l/\y=.int k/\H l=some (.lst xs)/\-(2 ^ 63)<=k/\k<2 ^ 63/\xs.length*k.toNat<=sizeLine/\
 ∀p,H p=none->Q (.ref p) (upd H p (.lst (A5 k.toNat xs).flatten))
def len_rep{a:Type}(xs:List a)(k:Nat):(A5 k xs).flatten.length=k*xs.length:=by
 induction k with
 |zero=>simp
 |succ k ih=>rw[List.replicate_succ,List.flatten_cons,Af,ih,Nat.succ_mul,Nat.add_comm]
def Kn:cG X (binaryOp .Mult) De:=by
 intro aa s σ H x y v u Q I A C h;obtain⟨l,k,xs,rfl,rfl,D,h1,h2,hz,q⟩:=h;cases A;obtain⟨t,rfl⟩:=C;obtain⟨z,c,n,r,E,e⟩:=I.lstM D;have f:c.toArray.size*k.toNat<=sizeLine:=by rw[Ai,<-E];exact hz
 have g:¬c.toArray.size*k.toNat>(2 ^ 63-1) / 8:=by
  have:(sizeLine:Nat)<=(2 ^ 63-1) / 8:=ξ
  (first|lia|omega)
 have i:¬(!Builtin.List.listFitsIndex k)=true:=by
  rw[fitsIndex_both h1 h2];exact Ak
 have d:¬Builtin.List.listTooLong (c.toArray.size*k.toNat)=true:=by
  rw[Gf f];exact Ak
 have j:List.foldl (fun o p=>o++p) #[] (A5 (if c.toArray.isEmpty=true then 0 else k.toNat) c.toArray)=(A5 k.toNat c).flatten.toArray:=by
  have f0:∀m:Nat,List.foldl (fun o p=>o++p) #[] (A5 m c.toArray)=(A5 m c).flatten.toArray:=fun m=>by
   have:=foldl_rep c m [];rw[List.nil_append] at this;exact this
  rw[f0];cases c with
  |nil=>simp
  |cons a r'=>rw[if_neg (by simp)]
 refine wpAny_binaryOp_repeat_ref (T:="list") (U:="int") ξ ⟨_,e,rfl⟩ (fun s'=>typeIs_int s' k t) noFill_list_mul F.fills_int_mul F.slot_int_rmul repeat_list F.slot_int_index.lookup
  (call_meets F.slot_int_rmul (typeIs_int s k t) F.entry_int_rmul (F.args_int_rmul_2 _ _) (int___rmul___int_list k t l c.toArray n)
   ⟨e,rfl,⟨_,e,rfl⟩,call_meets F.slot_list_mul ⟨_,e,rfl⟩ F.entry_list_mul (F.args_list_mul_2 _ _) (AutoListH.list___mul___list_int_3 l c.toArray n k t i g d) ⟨e,?_⟩⟩)
 rw[j];exact⟨.ref _,_,I.lnew (t':=s.toks) (r.rep k.toNat) (by rw[len_rep,Nat.mul_comm];exact hz),rfl,q _ I.fresh⟩
end
section
variable{prog:Program}{w:World}{A:Around}{E:Ω}{s:Shared}
set_option maxRecDepth 100000 in
end
section
variable{κ:Type}[DecidableEq κ]
def valV(kvs:List (κ×V))(k:κ):Option V:=(kvs.find? fun kv=>decide (kv.1=k)).map (·.2)
def putK(kvs:List (κ×V))(k:κ)(v:V):List (κ×V):=
 if(kvs.any fun kv=>decide (kv.1=k))=true then kvs.map (fun kv=>if kv.1=k then(kv.1,v) else kv) else kvs++[(k,v)]
def Qh(kvs:List (κ×V))(k:κ):List (κ×V):=kvs.filter fun kv=>decide (kv.1≠k)
def mW{p:κ×V}{r:List (κ×V)}{k:κ}(e:p.1=k):valV (p::r) k=some p.2:=by simp[valV,List.find?_cons,e]
def jt{p:κ×V}{r:List (κ×V)}{k:κ}(e:¬p.1=k):valV (p::r) k=valV r k:=by simp[valV,List.find?_cons,e]
def su(k:κ):∀kvs:List (κ×V),(kvs.any fun kv=>decide (kv.1=k))=(valV kvs k).isSome
 |[]=>rfl
 |p::r=>by
  rw[List.any_cons]
  by_cases e:p.1=k
  ·simp only[mW e,decide_eq_true e,Bool.true_or,Option.isSome_some]
  ·rw[jt e,decide_eq_false e,Bool.false_or];exact su k r
def sB(kvs:List (κ×V))(k:κ)(v:V):(putK kvs k v).length<=kvs.length+1:=by
 unfold putK;split
 ·rw[Ab];(first|lia|omega)
 ·rw[Af,Am,List.length_nil];(first|lia|omega)
def Gh{kvs:List (κ×V)}{k:κ}(v:V)(h:valV kvs k=none):putK kvs k v=kvs++[(k,v)]:=by
 unfold putK;rw[su,h];exact if_neg ξ
def RelO.isSome_eq{o:Option V}{u:Option Value}(r:RelO o u):o.isSome=u.isSome:=by
 cases o with
 |none=>cases u with
  |none=>rfl
  |some _=>exact(show False from r).elim
 |some _=>cases u with
  |none=>exact(show False from r).elim
  |some _=>rfl
def RelO.getD{o:Option V}{u:Option Value}{d:V}{d':Value}(r:RelO o u)(a:RelV d d'):RelV (o.getD d) (u.getD d'):=by
 cases o with
 |none=>cases u with
  |none=>exact a
  |some _=>exact(show False from r).elim
 |some _=>cases u with
  |none=>exact(show False from r).elim
  |some _=>exact r
def KV.val{kvs:List (κ×V)}{vs:List (κ×Value)}(r:KV kvs vs)(k:κ):RelO (valV kvs k) (valueAt vs k):=by
 unfold KV at r
 induction r with
 |nil=>exact True.intro
 |@cons p q ps a h t c=>
  obtain⟨h1,h2⟩:=h
  by_cases e:p.1=k
  ·have e':q.1=k:=h1.symm.trans e
   have b:valueAt (q::a) k=some q.2:=by simp[valueAt,List.find?_cons,e']
   rw[mW e,b];exact h2
  ·have e':¬q.1=k:=fun z=>e (h1.trans z)
   have b:valueAt (q::a) k=valueAt a k:=by simp[valueAt,List.find?_cons,e']
   rw[jt e,b];exact c
def KV.any{kvs:List (κ×V)}{vs:List (κ×Value)}(r:KV kvs vs)(k:κ):(kvs.any fun kv=>decide (kv.1=k))=vs.any fun kv=>decide (kv.1=k):=by
 unfold KV at r
 induction r with
 |nil=>rfl
 |cons h t ih=>rw[List.any_cons,List.any_cons,ih,h.1]
def KV.repl{kvs:List (κ×V)}{vs:List (κ×Value)}(r:KV kvs vs)(k:κ){y:V}{u:Value}(a:RelV y u):KV (kvs.map fun kv=>if kv.1=k then(kv.1,y) else kv) (vs.map fun kv=>if kv.1=k then(kv.1,u) else kv):=by
 unfold KV at r ⊢
 induction r with
 |nil=>exact .nil
 |@cons p q ps qs h t ih=>
  rw[AF,AF];refine .cons ?_ ih;obtain⟨h1,h2⟩:=h
  by_cases e:p.1=k
  ·rw[if_pos e,if_pos (h1.symm.trans e)];exact⟨h1,a⟩
  ·rw[if_neg e,if_neg (fun z=>e (h1.trans z))];exact⟨h1,h2⟩
def KV.put{kvs:List (κ×V)}{vs:List (κ×Value)}(r:KV kvs vs)(k:κ){y:V}{u:Value}(a:RelV y u):KV (putK kvs k y) (stored vs k u):=by
 unfold putK stored;rw[r.any k]
 by_cases e:(vs.any fun kv=>decide (kv.1=k))=true
 ·rw[if_pos e,if_pos e];exact r.repl k a
 ·rw[if_neg e,if_neg e];exact Paired.snoc r ⟨rfl,a⟩
def KV.length{kvs:List (κ×V)}{vs:List (κ×Value)}(r:KV kvs vs):kvs.length=vs.length:=A1 r
end
def mY{P:Program}{w:World}{k:Key}{u:Value}(r:RelV (kV k) u):(zy P w).is k u=true:=by
 cases k with
 |inl i=>obtain⟨t,e⟩:=(show ∃t,u=Value.int i t from r);subst e;exact xS P w i t
 |inr x=>obtain⟨t,e⟩:=(show ∃t,u=Value.str x t from r);subst e;exact Jp P w x t
def Gk{P:Program}{w:World}:∀{ks:List Key}{us:List Value},Vals (ks.map kV) us->ItemsAre (zy P w) ks us
 |[],_,r=>by rw[List.map_nil] at r;cases r;exact .nil
 |k::ks,_,r=>by
  rw[AF] at r;cases r with
  |cons h t=>exact .cons (mY h) (Gk t)
abbrev KT(H:Hp):List (List Key×V)->List (List Key×Addr×Value)->Prop:=Paired fun p q=>p.1=q.1/\H q.2.1=some (.tup (p.1.map kV))/\RelV p.2 q.2.2
def KT.val{H:Hp}{kvs:List (List Key×V)}{xs:List (List Key×Addr×Value)}(r:KT H kvs xs)(k:List Key):RelO (valV kvs k) ((atKey xs k).map (·.2)):=by
 induction r with
 |nil=>exact True.intro
 |@cons p q ps a h t c=>
  obtain⟨h1,_,h2⟩:=h
  by_cases e:p.1=k
  ·have e':q.1=k:=h1.symm.trans e
   have b:atKey (q::a) k=some q.2:=by simp[atKey,List.find?_cons,e']
   rw[mW e,b];exact h2
  ·have e':¬q.1=k:=fun z=>e (h1.trans z)
   have b:atKey (q::a) k=atKey a k:=by simp[atKey,List.find?_cons,e']
   rw[jt e,b];exact c
def KT.repl{H:Hp}{kvs:List (List Key×V)}{xs:List (List Key×Addr×Value)}(r:KT H kvs xs)(k:List Key){y:V}{u:Value}(c:RelV y u):KT H (kvs.map fun kv=>if kv.1=k then(kv.1,y) else kv) (xs.map (putAt k u)):=by
 induction r with
 |nil=>exact .nil
 |@cons p q ps qs h t ih=>
  rw[AF,AF];refine .cons ?_ ih;obtain⟨h1,h2,a⟩:=h;unfold putAt
  by_cases e:p.1=k
  ·rw[if_pos e,if_pos (h1.symm.trans e)];exact⟨h1,h2,c⟩
  ·rw[if_neg e,if_neg (fun z=>e (h1.trans z))];exact⟨h1,h2,a⟩
def KT.put{H:Hp}{kvs:List (List Key×V)}{xs:List (List Key×Addr×Value)}(r:KT H kvs xs)(k:List Key){b:Addr}{y:V}{u:Value}(hb:H b=some (.tup (k.map kV)))(a:RelV y u):KT H (putK kvs k y) (storedH xs k b u):=by
 have e:(kvs.any fun kv=>decide (kv.1=k))=(atKey xs k).isSome:=by
  rw[su,(r.val k).isSome_eq,Option.isSome_map]
 unfold putK storedH;rw[e]
 by_cases q:(atKey xs k).isSome=true
 ·rw[if_pos q,if_pos q];exact r.repl k a
 ·rw[if_neg q,if_neg q];exact Paired.snoc r ⟨rfl,hb,a⟩
def KT.keeps{H H':Hp}{kvs:List (List Key×V)}{xs:List (List Key×Addr×Value)}(r:KT H kvs xs)(ht:∀b ys,H b=some (.tup ys)->H' b=some (.tup ys)):KT H' kvs xs:=
 Paired.mapP r fun _ _ z=>⟨z.1,ht _ _ z.2.1,z.2.2⟩
section
variable{P:Program}{w:World}{H:Hp}{h:Heap}{a:Addr}
def Gn{u:HO}(ok:HOk P w H h)(e:Rd H a u):zT P w H h a u:=e.ok ok
def kf{kvs:List (Key×V)}(ok:HOk P w H h)(e:Rd H a (.dK kvs)):kvs.length<=sizeLine/\(a==sysModules)=false/\∃vs,KV kvs vs/\h.DictOf (zy P w) a vs:=
 show zT P w H h a (.dK kvs) from Gn ok e
def Ko{kvs:List (Key×V)}(ok:HOk P w H h)(e:H a=some (.dK kvs)):kvs.length<=sizeLine/\(a==sysModules)=false/\∃vs,KV kvs vs/\h.DictOf (zy P w) a vs:=kf ok (.inl e)
def iv{ks:List Key}(ok:HOk P w H h)(e:H a=some (.tup (ks.map kV))):(tupleKind (zy P w)).is h ks a:=by
 obtain⟨_,c,r,o,h1,h2,n,d⟩:=(show zT P w H h a (.tup (ks.map kV)) from ok a _ e);exact⟨o,c.toArray,n,h1,h2,d,by simpa using Gk r⟩
def km{kvs:List (List Key×V)}(ok:HOk P w H h)(e:Rd H a (.dT kvs)):kvs.length<=sizeLine/\(a==sysModules)=false/\
  ∃xs,KT H kvs xs/\h.DictOfH (tupleKind (zy P w)) a xs:=by
 obtain⟨z,y,xs,r,o,es,ep,h1,h2,c,d,f⟩:=(show zT P w H h a (.dT kvs) from Gn ok e);refine⟨z,y,xs,r,o,es,ep,h1,h2,c,d,fun x hx=>?_,f⟩;have all:∀{l:List (List Key×V)}{m:List (List Key×Addr×Value)},KT H l m->∀x∈m,(tupleKind (zy P w)).is h x.1 x.2.1:=by
  intro l m q
  induction q with
  |nil=>intro x hx;exact nomatch hx
  |@cons p q ps qs hq t ih=>
   intro x hx;rcases List.mem_cons.mp hx with e|hx
   ·subst e
    exact iv ok (by rw[<-hq.1];exact hq.2.1)
   ·exact ih x hx
 exact all r x hx
def Dg{kvs:List (List Key×V)}(ok:HOk P w H h)(e:H a=some (.dT kvs)):kvs.length<=sizeLine/\(a==sysModules)=false/\
  ∃xs,KT H kvs xs/\h.DictOfH (tupleKind (zy P w)) a xs:=km ok (.inl e)
end
def DGet(H:Hp)(a:Addr)(y:V)(r:Option V):Prop:=
 (∃kvs k,Rd H a (.dK kvs)/\y=kV k/\r=valV kvs k)\/∃kvs k b,Rd H a (.dT kvs)/\y=.ref b/\H b=some (.tup (k.map kV))/\r=valV kvs k
def DPut(H:Hp)(a:Addr)(y v:V)(H':Hp):Prop:=
 (∃kvs k,H a=some (.dK kvs)/\y=kV k/\kvs.length<sizeLine/\H'=upd H a (.dK (putK kvs k v))) \/
 ∃kvs k b,H a=some (.dT kvs)/\y=.ref b/\H b=some (.tup (k.map kV))/\kvs.length<sizeLine/\H'=upd H a (.dT (putK kvs k v))
def DGet.k{H:Hp}{a:Addr}{kvs:List (Key×V)}{k:Key}(e:H a=some (.dK kvs)):DGet H a (kV k) (valV kvs k):=.inl ⟨kvs,k,.inl e,rfl,rfl⟩
def DGet.t{H:Hp}{a b:Addr}{kvs:List (List Key×V)}{k:List Key}(e:H a=some (.dT kvs))(c:H b=some (.tup (k.map kV))):DGet H a (.ref b) (valV kvs k):=.inr ⟨kvs,k,b,.inl e,rfl,c,rfl⟩
def DPut.k{H:Hp}{a:Addr}{kvs:List (Key×V)}{k:Key}{v:V}(e:H a=some (.dK kvs))(c:kvs.length<sizeLine):DPut H a (kV k) v (upd H a (.dK (putK kvs k v))):=.inl ⟨kvs,k,e,rfl,c,rfl⟩
def DPut.t{H:Hp}{a b:Addr}{kvs:List (List Key×V)}{k:List Key}{v:V}(e:H a=some (.dT kvs))(c:H b=some (.tup (k.map kV)))(d:kvs.length<sizeLine):DPut H a (.ref b) v (upd H a (.dT (putK kvs k v))):=.inr ⟨kvs,k,b,e,rfl,c,d,rfl⟩
section
variable{X:Cx}{aa:Ψ}{σ:St}{H:Hp}{s:Shared}{a:Addr}{y v:V}{u r:Value}{o:Option V}{A:Around}{E:Ω}
def Inv.big(I:Inv X aa σ H s):sysModules<s⁻¹:=by
 have h:mainGlobals<s⁻¹:=(I.mod.glob.keeps I.bk).lt;exact Nat.lt_trans ξ h
def Kp{Q:Ω}(hu:A.units+1<cLine)(I:Inv X aa σ H s)(g:DGet H a y (some v))(j:RelV y u)(h:∀d s',Inv X aa σ H s'->RelV v d->Q d s'):wpAny (model X.prog X.w) A (getItem (.ref a) u) Q E s:=by
 rcases g with ⟨kvs,k,e,f,l⟩|⟨kvs,k,b,e,f,q,l⟩
 ·subst f
  obtain⟨z,hd,vs,c,dd⟩:=kf I.hok e;obtain⟨d,hw,i⟩:=RelO.some_of (v:=v) (o:=valueAt vs k) (by rw[l];exact c.val k);exact wpAny_getItem_of (mY j) dd.mapOf hw (h d _ (I.tok _) i)
 ·subst f
  cases(show u=Value.ref b from j);obtain⟨z,hd,xs,c,dd⟩:=km I.hok e;obtain⟨d,hw,i⟩:=RelO.some_of (v:=v) (o:=(atKey xs k).map (·.2)) (by rw[l];exact c.val k);obtain⟨p,hp,r⟩:=Option.map_eq_some_iff.mp hw;refine wpAny_getItem_heap (tupleKind_room_in1 hu) (iv I.hok q) dd hp ?_;rw[r];exact h d _ (I.tok _) i
def Dq{Q:Ω}(hu:A.units+1<cLine)(I:Inv X aa σ H s)(g:DGet H a y o)(f:RelV y u)(h:∀s',Inv X aa σ H s'->Q (.bool o.isSome) s'):wpAny (model X.prog X.w) A (A6 .In u (.ref a)) Q E s:=by
 rcases g with ⟨kvs,k,e,d,l⟩|⟨kvs,k,b,e,d,i,l⟩
 ·subst d
  obtain⟨z,hd,vs,c,dd⟩:=kf I.hok e;refine wpAny_in_of (mY f) hd dd.mapOf ?_;rw[<-(c.val k).isSome_eq,<-l];exact h _ (I.tok _)
 ·subst d
  cases(show u=Value.ref b from f);obtain⟨z,hd,xs,c,dd⟩:=km I.hok e;refine wpAny_in_heap (tupleKind_room_in1 hu) (iv I.hok i) hd dd ?_;have q:=(c.val k).isSome_eq;rw[Option.isSome_map] at q;rw[<-q,<-l];exact h _ (I.tok _)
def Kq{Q:Ω}(hu:A.units+1<cLine)(I:Inv X aa σ H s)(g:DGet H a y o)(f:RelV y u)(h:∀s',Inv X aa σ H s'->Q (.bool (!o.isSome)) s'):wpAny (model X.prog X.w) A (A6 .NotIn u (.ref a)) Q E s:=by
 rcases g with ⟨kvs,k,e,d,l⟩|⟨kvs,k,b,e,d,i,l⟩
 ·subst d
  obtain⟨z,hd,vs,c,dd⟩:=kf I.hok e;refine wpAny_notIn_of (mY f) hd dd.mapOf ?_;rw[<-(c.val k).isSome_eq,<-l];exact h _ (I.tok _)
 ·subst d
  cases(show u=Value.ref b from f);obtain⟨z,hd,xs,c,dd⟩:=km I.hok e;refine wpAny_notIn_heap (tupleKind_room_in1 hu) (iv I.hok i) hd dd ?_;have q:=(c.val k).isSome_eq;rw[Option.isSome_map] at q;rw[<-q,<-l];exact h _ (I.tok _)
def mZ{h':Heap}{t':Nat}{ob:HO}(I:Inv X aa σ H s)(c:oK (H a))(hs:AS a s.heap h')(he:∃q,h'.get? a=some q)(new:zT X.prog X.w (upd H a ob) h' a ob):Inv X aa σ (upd H a ob) {s with heap:=h',toks:=t'}:=
 I.write (x:=a) (e:=a) c (.inl rfl) (fun b q hb z=>(hs.2 b hb).trans z) he new
def dk_new{P:Program}{w:World}{H':Hp}{h':Heap}{kvs:List (Key×V)}{vs:List (Key×Value)}(z:kvs.length<=sizeLine)(hd:(a==sysModules)=false)(c:KV kvs vs)(dd:h'.DictOf (zy P w) a vs):zT P w H' h' a (.dK kvs):=⟨z,hd,vs,c,dd⟩
def Kr{H':Hp}{Q:Unit->Shared->Prop}(hu:A.units+1<cLine)(I:Inv X aa σ H s)(g:DPut H a y v H')(D:RelV y u)(p:RelV v r)(h:∀s',Inv X aa σ H' s'->Q () s'):wpAny (model X.prog X.w) A (setItem (.ref a) u r) Q E s:=by
 rcases g with ⟨kvs,k,e,j,l,o⟩|⟨kvs,k,b,e,j,x,l,o⟩
 ·subst j o
  obtain⟨z,hd,vs,d,dd⟩:=Ko I.hok e;have hz:vs.length<=sizeLine:=by rw[<-d.length];exact z
  have i:(putK kvs k v).length<=sizeLine:=by have:=sB kvs k v;(first|lia|omega)
  refine wpAny_setItem_pairs (hsz:=hz) (mY D) dd fun h' f hs=>h _ ?_;have he:∃q,h'.get? a=some q:=let ⟨q,_,_,hq,_⟩:=f;⟨q,hq⟩;exact mZ I (by rw[e];exact True.intro) hs he (dk_new i hd (d.put k p) f)
 ·subst j o
  cases(show u=Value.ref b from D);obtain⟨z,hd,xs,d,dd⟩:=Dg I.hok e;have hz:xs.length<=sizeLine:=by rw[<-A1 d];exact z
  have i:(putK kvs k v).length<=sizeLine:=by have:=sB kvs k v;(first|lia|omega)
  refine wpAny_setItem_heap (hsz:=hz) (tupleKind_room_in1 hu) (iv I.hok x) dd fun h' f hs=>h _ ?_;obtain⟨q,es,ep,hq,h2,F,G,_,J⟩:=f;refine mZ I (by rw[e];exact True.intro) hs ⟨q,hq⟩ ⟨i,hd,_,(d.put k x p).keeps fun c ys C=>?_,q,es,ep,hq,h2,F,G,J⟩;rw[au (dg C e (fun z=>nomatch z))];exact C
end
def pj(i:Expr):Prop:=∀a c,subscripted i false a c=operate [a,c] (getItem a c)
def Ks{prog:Program}{w:World}{A:Around}{E:Ω}{s:Shared}{env:Env}{aN slice:Expr}{pos:Pos}{T id:String}{Q:Ω}(l:typeLookup (.type T) "__getitem__"=pure (some (.builtin id)))(hs:pj slice)(h:wpAny (model prog w) A (eval aN env) (fun o d=>wpAny (model prog w) A (eval slice env) (fun i a=>a.TypeIs o T/\wpAny (model prog w) A (getItem o i) Q E a) E d) E s):wpAny (model prog w) A (eval (.Subscript aN slice pos) env) Q E s:=by
 refine Subscript_ (wpAny_mono h (fun o d g=>wpAny_mono g (fun i a c=>?_) fun _ _ x=>x) fun _ _ x=>x);obtain⟨f,c⟩:=c;unfold subscriptTail;refine Aa ?_;rw[getitemInPython_of_ne f.not_modules];refine Aa (wpAny_specialOf f l ?_);have fin:wpAny (model prog w) A (subscripted slice false o i) (fun r e=>wpAny (model prog w) A (letTemporaryGo aN o r >>= fun _=>pure r) Q E e) E a:=by
  rw[hs o i];exact wpAny_operating (wpAny_mono c (fun r e j=>Aa (wpAny_letTemporaryGo (Ad j))) fun _ _ x=>x)
 first
  |exact Ad (Aa fin)
  |exact Aa (Ad (Aa fin))
  |exact Aa fin
def Kt{X:Cx}{aa:Ψ}{σ:St}{H:Hp}{s:Shared}{a:Addr}{y:V}{o:Option V}(I:Inv X aa σ H s)(g:DGet H a y o):s.TypeIs (.ref a) "dict":=by
 rcases g with ⟨kvs,k,e,_,_⟩|⟨kvs,k,b,e,_,_,_⟩
 ·obtain⟨_,_,vs,_,dd⟩:=kf I.hok e
  exact dd.typeIs
 ·obtain⟨_,_,xs,_,dd⟩:=km I.hok e
  exact dd.typeIs
def pk(td ty:TE):TE:=fun σ H Q=>td σ H fun x H1=>ty σ H1 fun y H2=>∃a v,x=.ref a/\DGet H2 a y (some v)/\Q v H2
def fy(ty td:TE):TE:=fun σ H Q=>ty σ H fun y H1=>td σ H1 fun x H2=>∃a o,x=.ref a/\DGet H2 a y o/\Q (.bl o.isSome) H2
def sE(ty td:TE):TE:=fun σ H Q=>ty σ H fun y H1=>td σ H1 fun x H2=>∃a o,x=.ref a/\DGet H2 a y o/\Q (.bl (!o.isSome)) H2
def Ku(td ty tv:TE):TS:=fun D σ H=>tv σ H fun v H1=>td σ H1 fun x H2=>ty σ H2 fun y d=>∃a c,x=.ref a/\DPut d a y v c/\D.nx σ c
section
variable{X:Cx}{o i e aN:Expr}{pos dA cr:Pos}{td ty tv:TE}
def ju(hu:X.A.units+1<cLine)(p:PE X o td)(hi:PE X i ty)(hs:pj i):PE X (.Subscript o i pos) (pk td ty):=by
 intro aa s σ H Q I h;refine Ks PySem.F.slot_dict_getitem.lookup hs (aX (p aa s σ H _ I h) fun u d ⟨x,H1,q,e,q1⟩=>aX (hi aa d σ H1 _ q q1) fun z C ⟨y,H2,c,f,a,v,ex,g,j⟩=>?_);subst ex;obtain rfl:u=Value.ref a:=e;exact⟨Kt c g,Kp hu c g f fun D E r l=>⟨v,H2,r,l,j⟩⟩
def sH(hu:X.A.units+1<cLine)(hi:PE X i ty)(l:PE X o td):PC X .In i o (fy ty td):=by
 intro aa s σ H Q I h;refine aX (hi aa s σ H _ I h) fun v c ⟨y,H1,p,d,q1⟩=>aX (l aa c σ H1 _ p q1) fun u z ⟨x,H2,q,e,a,f,ex,g,j⟩=>?_;subst ex;obtain rfl:u=Value.ref a:=e;exact Dq hu q g d fun C r=>⟨.bl f.isSome,H2,r,rfl,j⟩
def DA(hu:X.A.units+1<cLine)(hi:PE X i ty)(l:PE X o td):PC X .NotIn i o (sE ty td):=by
 intro aa s σ H Q I h;refine aX (hi aa s σ H _ I h) fun v c ⟨y,H1,p,d,q1⟩=>aX (l aa c σ H1 _ p q1) fun u z ⟨x,H2,q,e,a,f,ex,g,j⟩=>?_;subst ex;obtain rfl:u=Value.ref a:=e;exact Kq hu q g d fun C r=>⟨.bl (!f.isSome),H2,r,rfl,j⟩
def fA(hu:X.A.units+1<cLine)(q:PE X o td)(hi:PE X i ty)(z:PE X aN tv)(hs:swapsWith aN (some (.Subscript o i dA)) pos.line X.env=pure false):PS X (.Assign [.Subscript o i dA] aN pos) (Ku td ty tv):=by
 intro aa s σ H D I h;refine wpAny_Assign_Subscript (aX (z aa s σ H _ I h) fun r c ⟨v,H1,C,d,q1⟩=>aX (q aa c σ H1 _ C q1) fun u e ⟨x,H2,E,f,j⟩=>aX (hi aa e σ H2 _ E j) fun L M ⟨y,O,F,l,a,G,ex,g,p⟩=>?_) hs;subst ex;obtain rfl:u=Value.ref a:=f;exact Kr hu F g l d fun N J=>⟨σ,G,J,p⟩
end
def Gu{P:Program}{w:World}{H:Hp}(h:Heap)(hb:sysModules<h.objs.size):zT P w H (h.push {cls:=.type "dict",data:=.dict #[]}) h.objs.size (.dT []):=
 ⟨AY _,beq_eq_false_iff_ne.mpr (Ne.symm (AA hb)),[],.nil,_,#[],0,Aq _ rfl,⟨rfl,rfl,rfl⟩,rfl,rfl,List.nodup_nil⟩
def Kv:TE:=fun _ H Q=>∀p,H p=none->Q (.ref p) (upd H p (.dT []))
section
variable{X:Cx}{pos:Pos}
def zX:PE X (.Dict [] [] pos) Kv:=fun aa s σ H Q I h=>
 wpAny_Dict_empty ⟨.ref s⁻¹,_,I.laid (a:=s⁻¹) (o:=.dT []) (t':=s.toks) (fun _ _ q=>Ae _ q) (Ag _) (Gu s.heap I.big),rfl,h _ (I.hok.fresh (Ag _))⟩
end
def DG:List (TE×TE)->St->Hp->(List (V×V)->Hp->Prop)->Prop
 |[],_,H,Q=>Q [] H
 |(tk,tv)::r,σ,H,Q=>tk σ H fun x H1=>tv σ H1 fun y H2=>DG r σ H2 fun ps a=>Q ((x,y)::ps) a
abbrev VV:List (V×V)->List (Value×Value)->Prop:=Paired fun p q=>RelV p.1 q.1/\RelV p.2 q.2
def DI(X:Cx)(pos:Pos)(a:List (Option Expr))(c:List Expr)(d:List (TE×TE)):Prop:=
 ∀(aa:Ψ)(s:Shared)(σ:St)(H:Hp)(Q:List (V×V)->Hp->Prop),Inv X aa σ H s->DG d σ H Q->
  wpAny (model X.prog X.w) X.A (evalPairs (pairTrees a c X.env pos)) (fun vs s'=>∃ps H',Inv X aa σ H' s'/\VV ps vs/\Q ps H') X.xe s
def Kw{X:Cx}{pos:Pos}:DI X pos [] [] []:=fun aa s σ H Q I h=>pairTrees_nil_walk ⟨[],H,I,.nil,h⟩
def Kx{X:Cx}{pos:Pos}{k v:Expr}{ks:List (Option Expr)}{vs:List Expr}{tk tv:TE}{c:List (TE×TE)}(hk:PE X k tk)(l:PE X v tv)(hr:DI X pos ks vs c):DI X pos (some k::ks) (v::vs) ((tk,tv)::c):=fun aa s σ H Q I h=>
 pairTrees_cons_walk (aX (hk aa s σ H _ I h) fun u d ⟨x,H1,o,e,q1⟩=>aX (l aa d σ H1 _ o q1) fun z f ⟨y,H2,p,g,i⟩=>
  aX (hr aa f σ H2 _ p i) fun A C ⟨ps,q,r,a,j⟩=>⟨(x,y)::ps,q,r,.cons ⟨e,g⟩ a,j⟩)
structure M1(X:Cx)(o:Expr)(m:Str)(aY:Pos)(e:Expr)(ax:Pos):Prop where
 base:attributeBase o m X.env (eval o X.env)=eval o X.env
 few:((backTo ax (starEach [e] X.env)).all (fun x=>!x.1)&&(backToKw ax (keywordEach [] X.env)).all (fun x=>x.1.isSome)
  && decide (([e]:List Expr).length+([]:List Keyword).length+(if([]:List Keyword).isEmpty then 0 else 1)<30))=true
 line:(aY.endLine==ax.line)=true
 trees:backTo ax (starEach [e] X.env)=[(false,eval e X.env)]
structure M2(X:Cx)(o:Expr)(m:Str)(aY:Pos)(e f:Expr)(ax:Pos):Prop where
 base:attributeBase o m X.env (eval o X.env)=eval o X.env
 few:((backTo ax (starEach [e,f] X.env)).all (fun x=>!x.1)&&(backToKw ax (keywordEach [] X.env)).all (fun x=>x.1.isSome)
  && decide (([e,f]:List Expr).length+([]:List Keyword).length+(if([]:List Keyword).isEmpty then 0 else 1)<30))=true
 line:(aY.endLine==ax.line)=true
 trees:backTo ax (starEach [e,f] X.env)=[(false,eval e X.env),(false,eval f X.env)]
def IsD(H:Hp)(a:Addr):Prop:=(∃kvs,Rd H a (.dK kvs))\/∃kvs,Rd H a (.dT kvs)
def Ky{X:Cx}{aa:Ψ}{σ:St}{H:Hp}{s:Shared}{a:Addr}(I:Inv X aa σ H s)(d:IsD H a):s.TypeIs (.ref a) "dict"/\(∀b,Value.ref a=.ref b->∃ob,s.heap.get? b=some ob/\ob.dict=none)/\(a==sysModules)=false:=by
 rcases d with ⟨kvs,e⟩|⟨kvs,e⟩
 ·obtain⟨_,hd,vs,_,dd⟩:=kf I.hok e
  refine⟨dd.typeIs,fun b q=>?_,hd⟩;cases q;obtain⟨ob,_,_,h1,h2,_⟩:=dd;exact⟨ob,h1,h2.2.1⟩
 ·obtain⟨_,hd,xs,_,dd⟩:=km I.hok e
  refine⟨dd.typeIs,fun b q=>?_,hd⟩;cases q;obtain⟨ob,_,_,h1,h2,_⟩:=dd;exact⟨ob,h1,h2.2.1⟩
section
variable{X:Cx}{aa:Ψ}{σ:St}{H:Hp}{s:Shared}{a:Addr}{y d:V}{u r:Value}{o:Option V}{A:Around}{E:Ω}
def Kz{Q:Ω}(hu:A.units+1<cLine)(I:Inv X aa σ H s)(g:DGet H a y o)(j:RelV y u)(p:RelV d r)(h:∀i s',Inv X aa σ H s'->RelV (o.getD d) i->Q i s'):wpAny (model X.prog X.w) A (call (.builtin "dict.get") [.ref a,u,r]) Q E s:=by
 rcases g with ⟨kvs,k,e,f,l⟩|⟨kvs,k,b,e,f,q,l⟩
 ·subst f
  obtain⟨z,hd,vs,c,dd⟩:=kf I.hok e;refine call_meetsIn PySem.F.slot_dict_get dd.typeIs PySem.F.entry_dict_get (PySem.F.args_dict_get_3 _ _ _) (meets_dict_get_default (zy X.prog X.w) a (mY j) hd r) ⟨_,dd.mapOf,h _ _ (I.tok _) ?_⟩;rw[l];exact(c.val k).getD p
 ·subst f
  cases(show u=Value.ref b from j);obtain⟨z,hd,xs,c,dd⟩:=km I.hok e;refine call_meetsIn PySem.F.slot_dict_get dd.typeIs PySem.F.entry_dict_get (PySem.F.args_dict_get_3 _ _ _) (meetsH_dict_get_default (tupleKind (zy X.prog X.w)) a b hd r) ⟨tupleKind_room_in1 hu,k,xs,iv I.hok q,dd,h _ _ (I.tok _) ?_⟩;rw[l];exact(c.val k).getD p
end
def Gv(td ty tx:TE):TE:=fun σ H Q=>td σ H fun x H1=>∃a,x=.ref a/\IsD H1 a/\ty σ H1 fun y H2=>tx σ H2 fun z c=>∃o,DGet c a y o/\Q (o.getD z) c
section
variable{X:Cx}{o e f:Expr}{aY ax:Pos}{td ty tx:TE}
def Gw(hu:X.A.units+1<cLine)(G:PE X o td)(he:PE X e ty)(hf:PE X f tx)(m:M2 X o "get" aY e f ax):PE X (.Call (.Attribute o "get" aY) [e,f] [] ax) (Gv td ty tx):=by
 intro aa s σ H Q I h;refine wpAny_Call_method m.base m.few m.line PySem.F.plainAttrs_dict PySem.F.slot_dict_get PySem.F.type_dict_get (aX (G aa s σ H _ I h) fun u i ⟨x,H1,c,j,a,ex,d,q1⟩=>?_);subst ex;obtain rfl:u=Value.ref a:=j;obtain⟨D,E,_⟩:=Ky c d;refine⟨D,E,?_⟩;rw[m.trees];refine Calls.callWith_builtin rfl (Calls.evalArgs_plain (Calls.spliced_cons (aX (he aa i σ H1 _ c q1) fun O l ⟨y,H2,J,p,q⟩=>
  Calls.spliced_cons (aX (hf aa l σ H2 _ J q) fun P S ⟨z,L,M,r,T,g,v⟩=>Calls.spliced_nil ?_))))
 exact Kz hu M g p r fun U W N C=>⟨_,L,N,C,v⟩
end
end L2
namespace Att
open PySem PySem.W PySem.Calls PyProof.Rows
def KA{P:Params}{h:Heap}:∀(c:List Int)(vs:List Value),WellAll P h vs (c.map WData.int)->IntsAre vs c:=by
 intro c
 induction c with
 |nil=>
  intro vs w;rw[List.map_nil] at w;cases w;exact .nil
 |cons n c ih=>
  intro vs w;rw[AF] at w;cases w with
  |cons a b=>
   cases a;exact .cons _ _ (ih _ b)
def KB{l:OpenLaw}{n:Nat}(s:l.most=some n){P:Params}{h:Heap}{args:List WData}{vals:List Value}(j:l.row.toRowW.claim.pre args=true)(u:WellAll P h vals args):∃a vs c,vals=[Value.ref a]/\args=[WData.list (c.map WData.int)]/\h.get? a=some {cls:=.type "list",data:=.seq vs.toArray}/\IntsAre vs c/\c.length<=n:=by
 have i:WShape.hasAll [] args [.list .int]=true:=(pre_splitW j).1;have hc:l.pre.holds [] {args:=args}=true:=(pre_splitW j).2;obtain⟨d,r,rfl,h1,h2⟩:=hasAllW_cons i;obtain rfl:=hasAllW_nil h2;obtain⟨xs,rfl,o⟩:=hasW_list h1;obtain⟨c,rfl⟩:=items_int o;have e:c.length<=n:=by
  unfold OpenLaw.pre at hc;have f:(WTm.not (.lt (.lit (.int (n:Int))) (.len (.arg 0)))).holds [] {args:=[.list (c.map .int)]}=true:=by
   have f:=(holds_andW hc).1;rw[s] at f;exact f
  have g:=condW_of f (w_not (w_lt w_lit (w_len_list (w_arg rfl))));rw[Ab] at g;refine Nat.le_of_not_lt fun q=>?_;have p:(n:Int)<((c.length:Nat):Int):=ω
  first
   |(rw[decide_eq_true p] at g;exact absurd g ξ)
   |(simp at g;(first|lia|omega))
 cases u with
 |cons w1 w2=>
  cases w2;cases w1 with
  |list ho hall=>exact⟨_,_,c,rfl,rfl,ho,KA c _ hall,e⟩
def KC(l:OpenLaw)(args:List WData):l.row.toRowW.claim.post args (.bool true) args=true:=
 postW_of (r:=l.row.toRowW) (X:=(true==true))
  (show WShape.has [] (.bool true) .bool=true by first|rfl|decide|simp[WShape.has,WShape.arms,WShape.armsAll])
  (show(WTm.eq .res (.lit (.bool true))).value [] {args:=args,res:=some (.bool true),after:=args}=some (.bool (true==true)) from w_eq_bool (w_res rfl) w_lit) rfl
def KF{l:OpenLaw}{n:Nat}{q:Program}{u:List Str}{v:(Str->Option Value)->Heap->Prop}{x:World->Heap->Prop}{d:DefRec}(M:l.most=some n)(N:d.params.defaults=[])(call:∀(w:World)(s₀ c:Shared)(mg i:Str->Option Value)(fa:Addr)(o:Obj)(j g p:Value)(a:Addr)(vs:List Value)(h:List Int),
   Ground q u [] v w s₀ mg i c.heap->x w c.heap->
   c.heap.get? fa=some o->o.data=.func (docDef d.name d.params d.body d.scope j g p)->c.heap.CodeRec g d.name->mg d.name=some (.ref fa)->
   c.heap.get? a=some {cls:=.type "list",data:=.seq vs.toArray}->IntsAre vs h->h.length<=n->c.gens=#[]->
   codeAny (model l.prog w) callerA (.call (.ref fa) ⟨[.ref a],[]⟩) (fun r s'=>r=.ok (.ret (.bool true))/\OldK c.heap s'.heap/\s'.os=c.os/\AllBare s'.gens) c):
  WalkO q u v x l.row.toRowW d [] (fun f vs=>PySem.call f vs):=by
 intro w s₀ c mg i G Y fa o j g p y kV z hd A s C D args vals as E O Q F P;obtain rfl:y=.none:=Dflts.none s N;obtain rfl:kV=.none:=Dflts.noKw s;obtain⟨a,vs,h,rfl,rfl,H,I,e⟩:=KB M E F;refine enter_call (codeAny_mono (call w s₀ c mg i fa o j g p a vs h G Y z (fd_plain hd) A C H I e D) fun r s' hq=>?_);obtain⟨rfl,h2,J,L⟩:=hq;exact⟨.inl ⟨.bool true,.bool true,[],rfl,fun _=>rfl,.bool true,KC l _,fun _=>⟨List.Pairwise.nil,fun _ hm=>(nomatch hm)⟩⟩,h2,J,L⟩
section
variable{prog:Program}{w:World}{A:Around}{E:Ω}{s:Shared}{K:Frag}
def ledger(h:Heap)(L d:Addr):Ψ:=(AQ h.objs.size).filterMap fun a=>if a=L\/a=d then none else(h.get? a).map fun o=>(a,o)
end
end Att
namespace L2
open PySem PySem.Spec PyProof.Rows
def Gx:∀{vs:List Value}{a:List Int},IntsAre vs a->Vals (a.map V.int) vs
 |_,_,.nil=>.nil
 |_,_,.cons n t h=>.cons ⟨t,rfl⟩ (Gx h)
def kq(H:Hp):Prop:=∀b,H b=none\/∃o xs,H b=some (.frz o (.lst xs))
def KG{P:Program}{w:World}{K:Ac}{mg p:Str->Option Value}{CX:eN}{k:Nat}{fa a:Addr}{fd:FuncData}{x:Str}{sp:Sp}{c:Shared}{vs:List Value}{l:List Int}(L:K.In c.heap)(I:c.heap.Ns mainGlobals mg)(hb:c.heap.Ns builtinsNs p)(Y:∀x:Str,x≠"__name__"->p x=AV x)(Z:c.heap.NoLimit)(hg:c.gens=#[])(ha:c.heap.get? a=some {cls:=.type "list",data:=.seq vs.toArray})(hi:IntsAre vs l)(J:l.length<=sizeLine)(hr:Room k callerA)(F:∀base:Heap,K.In base->base.Ns mainGlobals mg->FnOk P w K mg base CX k fa fd [x] sp)(lI:∀(s:Shared)(u:Value),BindsTo s fd ⟨[u],[]⟩ [(x,u)])(cQ:∀H:Hp,kq H->SqL K H a (l.map V.int)->sp [.ref a] H (fun v _=>v=.bl true) fun _ _ _=>False)(om:∀H e s',CX [] H c (fun _ _ _=>False) e s'->False):codeAny (model P w) callerA (.call (.ref fa) ⟨[.ref a],[]⟩) (fun r s'=>r=.ok (.ret (.bool true))/\OldK c.heap s'.heap/\s'.os=c.os/\AllBare s'.gens) c:=by
 have C:=Gx hi;have S:=hi.length;have D:∀H:Hp,kq H->SqL K H a (l.map V.int)->HOk P w H c.heap->(∀b,H b≠none->b=a)->(H a≠none->K.lookup a=none)->
   codeAny (model P w) callerA (.call (.ref fa) ⟨[.ref a],[]⟩) (fun r s'=>r=.ok (.ret (.bool true))/\OldK c.heap s'.heap/\s'.os=c.os/\AllBare s'.gens) c:=by
  intro H y M g A N;have E:∀{b:Addr}{o:Obj},c.heap.get? b=some o->H b=none->(du c.heap H).get? b=some o:=fun e n=>Jr e n;have T:∀{b:Addr}{o:Obj}{es:Array DictEntry}{ep:Nat},c.heap.get? b=some o->o.data=.dict es ep->H b=none:=fun{b o es ep} e d=>by
   cases q:H b with
   |none=>rfl
   |some u=>
    have e':b=a:=A b (by rw[q];simp);subst e';rw[ha] at e;cases e;have d':Data.seq vs.toArray _=Data.dict es ep:=d;cases d'
  have f:∀{b:Addr}{m:Str->Option Value},c.heap.Ns b m->(du c.heap H).Ns b m:=fun{b m} ⟨o,es,ep,e,d,r⟩=>⟨o,es,ep,E e (T e d),d,r⟩;have G:K.In (du c.heap H):=fun b o e=>E (L b o e) (by
   cases q:H b with
   |none=>rfl
   |some u=>
    have e':b=a:=A b (by rw[q];simp);subst e';rw[N (by rw[q];simp)] at e;cases e)
  have U:Mod K mg (du c.heap H):=⟨G,f I,⟨p,f hb,Y⟩,let ⟨mc,h1,h2⟩:=Z;⟨mc,f h1,h2⟩⟩;have W:Env0 P w K mg (du c.heap H) callerA [] c H:=⟨rfl,U,fun b o e=>Js e,Nat.le_of_eq (Jq _ _),trivial,fun b hb=>absurd (show b∈([]:List Addr) from hb) (by simp),g,.of_eq hg⟩;refine codeAny_mono ((F _ G (f I)).run callerA [] c H ⟨[.ref a],[]⟩ [.ref a] [.ref a] _ _ hr W (lI c (.ref a)) (.cons rfl .nil) (cQ H y M)) fun r s' h=>?_;cases r with
  |error e=>exact(om H e s' h).elim
  |ok fl=>
   cases fl with
   |next=>exact False.elim h
   |brk=>exact False.elim h
   |cont=>exact False.elim h
   |ret u=>
    obtain⟨v,H',os,i,un,O,Q,q⟩:=h;have X:v=.bl true:=q;subst X;obtain rfl:u=Value.bool true:=Q;refine⟨rfl,OldK.of_keep fun b o e=>?_,os,i⟩;cases q:H b with
    |none=>exact un.keep b o e q (by intro z;exact absurd (show b∈([]:List Addr) from z) (by simp)) (by simp)
    |some u=>
     rcases y b with z|⟨ob,xs,z⟩
     ·rw[q] at z;cases z
     ·have z2:=un.frzs b ob _ z
      obtain⟨e1,_⟩:=g b _ z;obtain⟨e2,_⟩:=O b _ z2;rw[e] at e1;cases e1;exact e2
 cases hk:K.lookup a with
 |some o=>
  have e:=L a o hk;rw[ha] at e;cases e;refine D (fun _=>none) (fun _=>.inl rfl) (.inr ⟨_,vs.toArray,_,hk,rfl,rfl,rfl,by rw[Ai,S];exact J,by simpa using C⟩) (fun b u z=>by have j:(none:Option HO)=some u:=z;cases j) (fun b z=>absurd rfl z) fun z=>absurd rfl z
 |none=>
  refine D (fun b=>if b=a then some (.frz {cls:=.type "list",data:=.seq vs.toArray} (.lst (l.map V.int))) else none) (fun b=>?_) (.inl (.inr ⟨{cls:=.type "list",data:=.seq vs.toArray},if_pos rfl⟩)) (fun b u z=>?_) (fun b z=>?_) fun _=>hk
  ·by_cases hb:b=a
   ·exact .inr ⟨_,_,if_pos hb⟩
   ·exact .inl (if_neg hb)
  ·by_cases hb:b=a
   ·have j:=(if_pos hb).symm.trans z
    cases j;subst hb;exact⟨ha,by rw[Ab];exact J,vs,_,C,ha⟩
   ·have j:=(if_neg hb).symm.trans z
    cases j
  ·by_cases hb:b=a
   ·exact hb
   ·exact absurd (if_neg hb) z
abbrev Gy{K:Ac}{h:Heap}(_:K.In h):Ac:=K
def Gz{l:PySem.W.OpenLaw}{n k:Nat}{q:Program}{J:List Str}{S:(Str->Option Value)->Heap->Prop}{p:World->Heap->Prop}{d:DefRec}{K:Params->Ac}{CX:World->eN}{sp:World->Sp}{x:Str}(L:l.most=some n)(M:n<=sizeLine)(N:d.params.defaults=[])(hr:Room k callerA)(O:∀(w:World)(h:Heap),p w h->(K w.params).In h)(F:∀(w:World)(mg:Str->Option Value)(fa:Addr)(h:Heap),(K w.params).In h->h.Ns mainGlobals mg->mg d.name=some (.ref fa)->
   ∃fd:FuncData,(∀(s:Shared)(u:Value),BindsTo s fd ⟨[u],[]⟩ [(x,u)])/\
    ∀base:Heap,(K w.params).In base->base.Ns mainGlobals mg->FnOk l.prog w (K w.params) mg base (CX w) k fa fd [x] (sp w))
  (P:∀(w:World)(H:Hp)(a:Addr)(i:List Int),i.length<=n->kq H->SqL (K w.params) H a (i.map V.int)->sp w [.ref a] H (fun v _=>v=.bl true) fun _ _ _=>False)
  (Q:∀(w:World)(H:Hp)(s:Shared)(e:Value)(s':Shared),CX w [] H s (fun _ _ _=>False) e s'->False) :
  PySem.W.WalkO q J S p l.row.toRowW d [] (fun f vs=>PySem.call f vs):=by
 refine Att.KF L N fun w s₀ r mg U fa o X Z bz a vs i G Y ho hd bY y z A c C=>?_;have j:=O w _ Y;obtain⟨fd,hb,I⟩:=F w mg fa _ j G.T.g y;exact KG j G.T.g G.T.b G.T.builtins G.T.nolimit C z A (AB c M) hr I hb (fun H D E=>P w H a i c D E) fun H e s'=>Q w H r e s'
end L2
/- THE LAST THEOREM (shape;LID,My.* are yours):
  My.Adr: a structure of nr addresses that your layer names (classes,functions);My.Txt K t: a structure (Prop) of nr equations over K;
  My.txt_mk:{K} {implicit addresses ..} (e1:nsIn K mainGlobals "law"=some (some (.ref f))) (e2:K.lookup f=some ⟨oc,od,.func (fnOf "law" "law" bC body scope dV kV bz pm an cdv ct),sl⟩) (e3:codeIn K cdv "law"=true) ..:∃t,My.Txt K t
set_option maxRecDepth 100000 in
set_option maxHeartbeats 0 in
theorem PySem.Challenge.cw_LID_holds:PySem.Challenge.rw_LID.Holds := by
 w_on;o_law;k_head;(case hw=>w_witness2)
 k_fill
 refine L2.Gz (l:=PySem.Challenge.rw_LID) (n:=63) (k:=40) (x:="script") (CX:=fun w=>..) (sp:=fun _=>My.sp_law) rfl ξ rfl ⟨rfl,ξ,ξ⟩ (fun w h Y=>PySem.W.kIn_of Y) ?F ?S ?C
 case F=>
  intro w mg fa h f G g;have T:∃t,My.Txt (L2.Gy f) t:=by
   dsimp only[L2.Gy]                          -- K must cD as «<heap const> w.params» for k_is
   refine' My.txt_mk ?e1 ?e2 ?e3 ..
   (case e1 => PySem.W.k_is)                    -- in e aA: a name -> ah address -> ah object -> ah parts
   (case e2=>PySem.W.k_is)
   ..
  obtain⟨t,T⟩:=T;have i:=g.symm.trans (PySem.W.mg_of f G T.law);cases i                                       -- fa is e law's own address
  exact⟨_,fun s u => .of_eq rfl,fun base c d => My.law_fn T c d⟩     -- if «.of_eq rfl» comes too early: refine' ⟨_,?b,fun base c d => My.law_fn T c d⟩;exact fun s u => .of_eq rfl
 case S=>exact fun w H a j o p q=>..
 case C=>exact ..
(e tactic k_is has r namespace: write k_is) -/
namespace L2
open PySem PySem.Spec PyProof.Rows
def zbA(s:Stmt):Arguments:=match s with
 |.FunctionDef _ a _ _ _ _ _ _ _ _=>a
 |_=>{posonlyargs:=[],args:=[],vararg:=none,kwonlyargs:=[],kw_defaults:=[],kwarg:=none,defaults:=[]}
def zA(s:Stmt):List Stmt:=match s with
 |.FunctionDef _ _ b _ _ _ _ _ _ _=>b
 |_=>[]
def ze(s:Stmt):Scope:=match s with
 |.FunctionDef _ _ _ _ _ _ sc _ _ _=>sc
 |_=>{kind:=.function,names:=[],isGenerator:=false,isCoroutine:=false}
abbrev aR:eN:=fun _ _ _ _ _ _=>False
abbrev E0:XK:=fun _ _ _=>False
def aF{X:Cx}:c6 aR X E0:=fun _ _ _ _ _ _ _ h=>h.elim
structure Fun(K:Ac)(x aj:Str)(st:Stmt)(f:Addr)(fd:FuncData):Prop where
 ex:∃(oc:Value)(od:Option Addr)(kV bz pm:Value)(an:Option Addr)(cdv ct:Value)(dq:Array (Option Value)),
  fd=PySem.W.fnOf x aj (zbA st) (zA st) (ze st) .none kV bz pm an cdv ct/\K.lookup f=some ⟨oc,od,.func fd,dq⟩/\PySem.W.codeIn K cdv aj=true
 kp:PySem.W.keepIn K (.ref f)=true
section
variable{P:Program}{w:World}{K:Ac}{mg:Str->Option Value}{base:Heap}
def Fun.ok{x a:Str}{st:Stmt}{f:Addr}{fd:FuncData}{N ps:List Str}{k:Nat}{sp:Sp}(F:Fun K x a st f fd)(S:zl N ps (ze st))(len:∀vs H Q E,sp vs H Q E->vs.length=ps.length)(e:∀(cdv:Value)(A:Around)(outer:List Env)(s:Shared)(H:Hp)(vs:List V)(Q:VK)(E:XK),Room k (A.deeper (envOfC a (ze st) s⁻¹ f cdv))->sp vs H Q E->
   ∃t,PSs (a_ aR P w K mg base N a (ze st) f cdv A outer s H E).nox (zA st) t/\t {nx:=fun _ H'=>Q .non H',rt:=Q} (start N vs) H):FnOk P w K mg base aR (k+1) f fd ps sp:=by
 obtain⟨g,i,kV,j,l,o,cdv,ct,p,rfl,lk,d⟩:=F.ex;refine FX lk d S len fun A outer s H vs Q E hr c=>?_;obtain⟨t,h,q⟩:=e cdv A outer s H vs Q E hr c;exact⟨t,h.nox,q⟩
def Fun.binds{x e:Str}{st:Stmt}{f:Addr}{fd:FuncData}{ps:List Str}(F:Fun K x e st f fd)(h:∀(kV a c:Value)(d:Option Addr)(cdv ct:Value)(us:List Value),us.length=ps.length->bindArgs (PySem.W.fnOf x e (zbA st) (zA st) (ze st) .none kV a c d cdv ct) ⟨us,[]⟩=pure (ps.zip us)):Binds K fd ps []:=by
 obtain⟨g,i,kV,a,c,d,cdv,ct,j,rfl,lk,l⟩:=F.ex;exact .all (h kV a c d cdv ct)
def KH{x a:Str}{st:Stmt}{f:Addr}{i:Value}{j g:Option Addr}{h:Array (Option Value)}{kV d e cdv ct:Value}(l:K.lookup f=some ⟨i,j,.func (PySem.W.fnOf x a (zbA st) (zA st) (ze st) .none kV d e g cdv ct),h⟩)(c:PySem.W.codeIn K cdv a=true)(k:PySem.W.keepIn K (.ref f)=true):Fun K x a st f (PySem.W.fnOf x a (zbA st) (zA st) (ze st) .none kV d e g cdv ct):=⟨⟨i,j,kV,d,e,g,cdv,ct,h,rfl,l,c⟩,k⟩
end
def fZ{A:Around}{k:Nat}(hr:Room k A):A.units+1<cLine:=Nat.lt_of_le_of_lt (Nat.add_le_add_left (by decide:1<=64) _) hr.units
section
variable{X:Cx}
def pv(i:Nat){x:Str}{pos:Pos}(a:X.N[i]?=some x:=by rfl)(c:oM X.env.scope x:=by first|exact Or.inl rfl|exact Or.inr (Or.inl rfl)|exact Or.inr (Or.inr rfl))(hd:(x==("__debug__":Str))=false:=by decide)
  (d:(x==("__classdict__":Str))=false:=by decide):PE X (.Name x pos) (aM i):=Jv a c hd d
end
def a9{A B:Prop}(h:B):if false=true then A else B:=by
 rw[if_neg Ak];exact h
def bu{A B:Prop}(h:A):if true=true then A else B:=by
 rw[if_pos rfl];exact h
def bI{c A B:Prop}[Decidable c](h1:c->A)(h2:¬c->B):if c then A else B:=by
 by_cases h:c
 ·rw[if_pos h]
  exact h1 h
 ·rw[if_neg h]
  exact h2 h
def Same(H H':Hp):Prop:=∀b o,H b=some o->H' b=some o
def Same.refl(H:Hp):Same H H:=fun _ _ h=>h
def Same.trans{H H1 H2:Hp}(a:Same H H1)(b:Same H1 H2):Same H H2:=fun c o h=>b c o (a c o h)
def Same.free{H H':Hp}(e:Same H H'){l:Addr}(h:H' l=Option.none):H l=Option.none:=by
 cases q:H l with
 |none=>rfl
 |some o=>
  rw[e l o q] at h;cases h
def Same.seq{K:Ac}{H H':Hp}{a:Addr}{xs:List V}(e:Same H H')(h:SqL K H a xs):SqL K H' a xs:=by
 rcases h with (h|⟨o,h⟩)|h
 ·exact .inl (.inl (e _ _ h))
 ·exact .inl (.inr ⟨o,e _ _ h⟩)
 ·exact .inr h
end L2
end
section
namespace Tim
open PySem PyProof.Rows
def R(ρ:Keyed->Int)(xs:Array Keyed)(i:Nat):Int:=match xs[i]? with
 |some p=>ρ p
 |none=>0
def hO{ρ:Keyed->Int}{xs ys:Array Keyed}{i j:Nat}(h:xs[i]?=ys[j]?):R ρ xs i=R ρ ys j:=by unfold R;rw[h]
def aV{ρ:Keyed->Int}{xs:Array Keyed}{i:Nat}{p:Keyed}(h:xs[i]?=some p):R ρ xs i=ρ p:=by unfold R;rw[h]
def ck(ρ:Keyed->Int)(xs:Array Keyed)(lo hi:Nat):Prop:=∀i j,lo<=i->i<=j->j<hi->R ρ xs i<=R ρ xs j
def nf(ρ:Keyed->Int)(xs:Array Keyed)(lo hi:Nat):Prop:=∀i j,lo<=i->i<=j->j<hi->R ρ xs j<=R ρ xs i
def DJ{ρ:Keyed->Int}{xs:Array Keyed}{i j:Nat}(a:j<=xs.size)(k:Nat):R ρ (mirror xs i j ((j-i) / 2)) k=if i<=k/\k<j then R ρ xs (i+j-1-k) else R ρ xs k:=by
 have e:=getElem?_mirror_all (i:=i) a k
 by_cases h1:i<=k/\k<j
 ·rw[if_pos h1] at e ⊢;exact hO e
 ·rw[if_neg h1] at e ⊢;exact hO e
def pl{ρ:Keyed->Int}{xs:Array Keyed}{i j:Nat}(c:j<=xs.size)(a:∀k,i<=k->k<j->R ρ xs k=R ρ xs (j-1))(k:Nat):R ρ (mirror xs i j ((j-i) / 2)) k=R ρ xs k:=by
 rw[DJ c];split
 ·rw[a _ ω ω,a k ω ω]
 ·rfl
def GA{ρ:Keyed->Int}{xs:Array Keyed}{src d:Nat}(hs:src<xs.size)(hd:d<=src)(k:Nat):R ρ (bubble xs src d) k=if k=src-d then R ρ xs src else if src-d<k/\k<=src then R ρ xs (k-1) else R ρ xs k:=by
 have e:=getElem?_bubble hs d hd k
 by_cases h1:k=src-d
 ·rw[if_pos h1] at e ⊢;exact hO e
 ·rw[if_neg h1] at e ⊢
  by_cases h2:src-d<k/\k<=src
  ·rw[if_pos h2] at e ⊢;exact hO e
  ·rw[if_neg h2] at e ⊢;exact hO e
structure eZ(prog:Program)(w:World)(A:Around)(s:Shared)(κ:SortKind)(a₀:Array Keyed)(ρ:Keyed->Int):Prop where
 lt:∀x y,x∈a₀.toList->y∈a₀.toList->∀(Q:Bool->Shared->Prop)(E:Ω),Q (decide (ρ x<ρ y)) s->wpAny (model prog w) A (keyLt' κ x.1 y.1) Q E s
structure B(κ:SortKind)(a₀:Array Keyed)(st:SortSt):Prop where
 perm:(arrOf st).Perm a₀
 kind:kindOf st=κ
 failed:failedOf st=none
def B.size{κ:SortKind}{a₀:Array Keyed}{st:SortSt}(h:B κ a₀ st):(arrOf st).size=a₀.size:=h.perm.size_eq
def B.setArr{κ:SortKind}{a₀:Array Keyed}{st:SortSt}(h:B κ a₀ st){xs:Array Keyed}(hp:xs.Perm (arrOf st)):B κ a₀ (setArr st xs):=⟨hp.trans h.perm,h.kind,h.failed⟩
def B.mem{κ:SortKind}{a₀:Array Keyed}{st:SortSt}(h:B κ a₀ st){p:Keyed}(hp:p∈(arrOf st).toList):p∈a₀.toList:=(Array.perm_iff_toList_perm.mp h.perm).mem_iff.mp hp
def DL{xs:Array Keyed}{i:Nat}(hi:i<xs.size):∃p,xs[i]?=some p/\p∈xs.toList:=⟨xs[i],getElem?_pos _ i hi,by simp⟩
structure Pre(lo:Nat)(st ag:SortSt):Prop where
 arr:∀k,k<lo->(arrOf ag)[k]?=(arrOf st)[k]?
 pend:AJ ag=AJ st
def Pre.refl{lo:Nat}{st:SortSt}:Pre lo st st:=⟨fun _ _=>rfl,rfl⟩
def Pre.trans{lo:Nat}{a b c:SortSt}(x:Pre lo a b)(y:Pre lo b c):Pre lo a c:=⟨fun k h=>(y.arr k h).trans (x.arr k h),y.pend.trans x.pend⟩
def Pre.mir{lo i j:Nat}{st:SortSt}(a:j<=(arrOf st).size)(hi:lo<=i):Pre lo st (setArr st (mirror (arrOf st) i j ((j-i) / 2))):=
 ⟨fun k h=>by show(mirror _ _ _ _)[k]?=_;rw[getElem?_mirror_all a,if_neg ω],rfl⟩
def Pre.bub{lo src d:Nat}{st:SortSt}(hs:src<(arrOf st).size)(hd:d<=src)(a:lo<=src-d):Pre lo st (setArr st (bubble (arrOf st) src d)):=
 ⟨fun k h=>by show(bubble _ _ _)[k]?=_;rw[getElem?_bubble hs d hd,if_neg ω,if_neg ω],rfl⟩
section
variable{prog:Program}{w:World}{A:Around}{E:Ω}{s:Shared}{κ:SortKind}{a₀:Array Keyed}{ρ:Keyed->Int}
def pu(C:eZ prog w A s κ a₀ ρ){st:SortSt}(a:B κ a₀ st){x y:Keyed}(hx:x∈a₀.toList)(hy:y∈a₀.toList){Q:Option Bool->SortSt->Prop}(h:Q (some (decide (ρ x<ρ y))) st):wpS (model prog w) A E s (lt' x y) Q st:=by
 rw[lt'_eq];refine wpS_bind (wpS_get ?_);rw[a.kind];refine wpS_bind (wpS_lift (wpAny_attempt (C.lt x y hx hy _ _ ⟨rfl,?_⟩)));exact wpS_pure h
def zj{st:SortSt}{xs:Array Keyed}{i:Nat}{p:Keyed}(h:xs[i]?=some p){Q:Keyed->SortSt->Prop}(hq:Q p st):wpS (model prog w) A E s (elem' xs i) Q st:=by
 rw[elem'_eq,h];exact wpS_pure hq
def pA(C:eZ prog w A s κ a₀ ρ){st:SortSt}(a:B κ a₀ st){i j:Nat}(hi:i<a₀.size)(e:j<a₀.size){Q:Option Bool->SortSt->Prop}(h:Q (some (decide (R ρ (arrOf st) i<R ρ (arrOf st) j))) st):wpS (model prog w) A E s (ltAt' i j) Q st:=by
 obtain⟨p,e1,c⟩:=DL (xs:=arrOf st) (i:=i) (by rw[a.size];exact hi);obtain⟨q,e2,d⟩:=DL (xs:=arrOf st) (i:=j) (by rw[a.size];exact e);rw[ltAt'_eq];refine wpS_bind (wpS_get ?_);show wpS _ _ _ _ (do let x <-elem' (arrOf st) i;let y <-elem' (arrOf st) j;lt' x y) Q st;refine wpS_bind (zj e1 (wpS_bind (zj e2 (pu C a (a.mem c) (a.mem d) ?_))));rw[aV e1,aV e2] at h;exact h
def asc(lo a c:Nat):StateT SortSt Sem AscSt:=
 forIn [a:c] ((none,a):AscSt) fun _ __s=>do
  let __x <-ltAt' (lo+__s.snd) (lo+__s.snd-1)
  match __x with
  |some smaller=>if smaller=true then pure (ForInStep.done (none,__s.snd)) else pure (ForInStep.yield (none,__s.snd+1))
  |_=>pure (ForInStep.done (some none,__s.snd))
def pB(lo n a:Nat):StateT SortSt Sem (Option Nat):=do
 reverseSlice' lo (lo+n)
 let __s <-asc lo n a
 match __s.fst with
 |some r=>pure r
 |none=>pure (some __s.snd)
def sK(lo n a:Nat):StateT SortSt Sem DescSt:=
 forIn [n:a] ((none,n,0):DescSt) fun _ __s=>do
  let __x <-ltAt' (lo+__s.snd.fst) (lo+__s.snd.fst-1)
  match __x with
  |some smaller=>
   if smaller=true then
    if __s.snd.snd>0 then do
     reverseSlice' (lo+__s.snd.fst-(__s.snd.snd+1)) (lo+__s.snd.fst)
     pure (ForInStep.yield (none,__s.snd.fst+1,0))
    else pure (ForInStep.yield (none,__s.snd.fst+1,0))
   else do
    let __x <-ltAt' (lo+__s.snd.fst-1) (lo+__s.snd.fst)
    match __x with
    |some larger=>
     if larger=true then pure (ForInStep.done (none,__s.snd.fst,__s.snd.snd))
     else pure (ForInStep.yield (none,__s.snd.fst+1,__s.snd.snd+1))
    |_=>pure (ForInStep.done (some none,__s.snd.fst,__s.snd.snd))
  |_=>pure (ForInStep.done (some none,__s.snd.fst,__s.snd.snd))
def pG(lo n a:Nat):StateT SortSt Sem (Option Nat):=do
 liftM (rule "list.sort.descending-run")
 let __s <-sK lo (n+1) a
 match __s.fst with
 |some r=>pure r
 |none=>
  if __s.snd.snd>0 then do
   reverseSlice' (lo+__s.snd.fst-(__s.snd.snd+1)) (lo+__s.snd.fst)
   pB lo __s.snd.fst a
  else pB lo __s.snd.fst a
def bO{c d:Type}{m:StateT SortSt Sem c}{f g:c->StateT SortSt Sem d}(h:∀a,f a=g a):(m >>= f)=(m >>= g):=by
 have e:f=g:=funext h;rw[e]
def KI(lo e:Nat):countRun' lo e=(do
  let __s <-asc lo 1 e
  match __s.fst with
  |some r=>pure r
  |none=>
   if(__s.snd==e)=true then pure (some __s.snd)
   else if __s.snd>1 then do
    let __x <-ltAt' lo (lo+__s.snd-1)
    match __x with
    |some rose=>if rose=true then pure (some __s.snd) else do
      reverseSlice' lo (lo+__s.snd)
      pG lo __s.snd e
    |_=>pure none
   else pG lo __s.snd e):=by
 rw[countRun'_eq];unfold pG pB sK asc;refine bO fun h=>?_;obtain⟨r,n⟩:=h;cases r with
 |some r=>rfl
 |none=>
  dsimp only;split
  ·rfl
  ·split
   ·refine bO fun x=>?_
    cases x with
    |none=>rfl
    |some rose=>
     dsimp only;split
     ·rfl
     ·refine bO fun _r=>bO fun _u=>bO fun f=>?_
      obtain⟨d,n2,i⟩:=f;cases d with
      |some d=>rfl
      |none=>
       dsimp only;split
       ·refine bO fun _v=>bO fun _w=>bO fun a=>?_
        obtain⟨c,g⟩:=a;cases c<;>rfl
       ·refine bO fun _w=>bO fun a=>?_
        obtain⟨c,g⟩:=a;cases c<;>rfl
   ·refine bO fun _u=>bO fun f=>?_
    obtain⟨d,n2,i⟩:=f;cases d with
    |some d=>rfl
    |none=>
     dsimp only;split
     ·refine bO fun _v=>bO fun _w=>bO fun a=>?_
      obtain⟨c,g⟩:=a;cases c<;>rfl
     ·refine bO fun _w=>bO fun a=>?_
      obtain⟨c,g⟩:=a;cases c<;>rfl
def GB(C:eZ prog w A s κ a₀ ρ){st:SortSt}{lo a e:Nat}{Q:AscSt->SortSt->Prop}(F:lo+e<=a₀.size)(ha:1<=a)(v:a<=e)(y:B κ a₀ st)(hs:ck ρ (arrOf st) lo (lo+a))(h:∀n,a<=n->n<=e->ck ρ (arrOf st) lo (lo+n)->(n=e\/R ρ (arrOf st) (lo+n)<R ρ (arrOf st) (lo+n-1))->Q (none,n) st):wpS (model prog w) A E s (asc lo a e) Q st:=by
 unfold asc;refine wpS_forRange (I:=fun x c g=>g=st/\c=(none,x)/\ck ρ (arrOf st) lo (lo+x)) ?step ?fin ⟨rfl,rfl,hs⟩
 case fin=>
  rintro c g ⟨rfl,rfl,f⟩;rw[show max a e=e from ω] at f ⊢;exact h e v (Ag _) f (.inl rfl)
 case step=>
  rintro x c g u D ⟨rfl,rfl,f⟩;dsimp only;refine wpS_bind (pA C y ω ω ?_)
  by_cases d:R ρ (arrOf g) (lo+x)<R ρ (arrOf g) (lo+x-1)
  ·simp only[d,decide_true,if_true]
   exact wpS_pure (h x u ω f (.inr d))
  ·simp only[d,decide_false,Al,if_false]
   refine wpS_pure ⟨rfl,rfl,fun i j r l z=>?_⟩
   by_cases p:j<lo+x
   ·exact f i j r l p
   ·have o:j=lo+x:=ω
    subst o
    by_cases q:i=lo+x
    ·subst q;exact Int.le_refl _
    ·exact AZ (f i (lo+x-1) r ω ω) (Int.not_lt.mp d)
def sM{st:SortSt}{i j:Nat}{Q:Unit->SortSt->Prop}(h:Q () (setArr st (mirror (arrOf st) i j ((j-i) / 2)))):wpS (model prog w) A E s (reverseSlice' i j) Q st:=by
 rw[reverseSlice'_eq];exact wpS_modify h
abbrev Got(κ:SortKind)(a₀:Array Keyed)(ρ:Keyed->Int)(lo am:Nat)(st:SortSt)(Q:Option Nat->SortSt->Prop):Prop:=
 ∀m ag,B κ a₀ ag->Pre lo st ag->1<=m->m<=am->ck ρ (arrOf ag) lo (lo+m)->Q (some m) ag
def GC(C:eZ prog w A s κ a₀ ρ){st f:SortSt}{lo n a:Nat}{Q:Option Nat->SortSt->Prop}(p:lo+a<=a₀.size)(h1:1<=n)(d:n<=a)(g:B κ a₀ st)(q:Pre lo f st)(hs:nf ρ (arrOf st) lo (lo+n))(h:Got κ a₀ ρ lo a f Q):wpS (model prog w) A E s (pB lo n a) Q st:=by
 unfold pB;have hsz:lo+n<=(arrOf st).size:=by rw[g.size];(first|lia|omega)
 refine wpS_bind (sM ?_);have e:B κ a₀ (setArr st (mirror (arrOf st) lo (lo+n) ((lo+n-lo) / 2))):=g.setArr (mirror_perm _ _ _ _);refine wpS_bind (GB C p h1 d e ?_ fun m r l c _=>wpS_pure (h m _ e (q.trans (.mir hsz (Ag _))) ω l c));intro i j u o v;show R ρ (mirror (arrOf st) lo (lo+n) ((lo+n-lo) / 2)) i<=R ρ (mirror (arrOf st) lo (lo+n) ((lo+n-lo) / 2)) j;rw[DJ hsz,DJ hsz,if_pos ω,if_pos ω];exact hs _ _ ω ω ω
def KJ(C:eZ prog w A s κ a₀ ρ){st G:SortSt}{lo n v:Nat}{Q:DescSt->SortSt->Prop}(S:lo+v<=a₀.size)(h1:1<=n)(H:n<=v)(N:B κ a₀ st)(O:Pre lo G st)(hs:nf ρ (arrOf st) lo (lo+n))(h:∀m f a,B κ a₀ a->Pre lo G a->n<=m->m<=v->nf ρ (arrOf a) lo (lo+m)->f+1<=m->(∀i,lo+m-(f+1)<=i->i<lo+m->R ρ (arrOf a) i=R ρ (arrOf a) (lo+m-1))->Q (none,m,f) a):wpS (model prog w) A E s (sK lo n v) Q st:=by
 unfold sK;refine wpS_forRange (I:=fun x c a=>∃f,c=(none,x,f)/\B κ a₀ a/\Pre lo G a/\nf ρ (arrOf a) lo (lo+x)/\f+1<=x/\
   (∀i,lo+x-(f+1)<=i->i<lo+x->R ρ (arrOf a) i=R ρ (arrOf a) (lo+x-1))) ?step ?fin ⟨0,rfl,N,O,hs,ω,fun i h1 h2=>by congr 1;(first|lia|omega)⟩
 case fin=>
  rintro c a ⟨f,rfl,l,D,o,hq,he⟩;rw[show max n v=v from ω] at o hq he ⊢;exact h v f a l D H (Ag _) o hq he
 case step=>
  rintro x c a M P ⟨f,rfl,l,D,o,hq,he⟩;dsimp only;have hsz:lo+x<=(arrOf a).size:=by rw[l.size];(first|lia|omega)
  refine wpS_bind (pA C l ω ω ?_)
  by_cases e:R ρ (arrOf a) (lo+x)<R ρ (arrOf a) (lo+x-1)
  ·simp only[e,decide_true,if_true]
   have g:∀xs:Array Keyed,(∀k,R ρ xs k=R ρ (arrOf a) k)->nf ρ xs lo (lo+(x+1)):=by
    intro xs hk i j F r L;rw[hk,hk]
    by_cases y:j<lo+x
    ·exact o i j F r y
    ·have u:j=lo+x:=ω
     subst u
     by_cases z:i=lo+x
     ·subst z;exact Int.le_refl _
     ·exact AZ (Int.le_of_lt e) (o i (lo+x-1) F ω ω)
   by_cases q:f>0
   ·rw[if_pos q]
    refine wpS_bind (sM (wpS_pure ⟨0,rfl,l.setArr (mirror_perm _ _ _ _),D.trans (.mir hsz ω),g _ (pl hsz he),ω,fun i h1 h2=>by congr 1;(first|lia|omega)⟩))
   ·rw[if_neg q]
    exact wpS_pure ⟨0,rfl,l,D,g _ (fun _=>rfl),ω,fun i h1 h2=>by congr 1;(first|lia|omega)⟩
  ·simp only[e,decide_false,Al,if_false]
   refine wpS_bind (pA C l ω ω ?_)
   by_cases d:R ρ (arrOf a) (lo+x-1)<R ρ (arrOf a) (lo+x)
   ·simp only[d,decide_true,if_true]
    exact wpS_pure (h x f a l D M ω o hq he)
   ·simp only[d,decide_false,Al,if_false]
    have p:R ρ (arrOf a) (lo+x)=R ρ (arrOf a) (lo+x-1):=ω
    refine wpS_pure ⟨f+1,rfl,l,D,fun i j F r L=>?_,ω,fun i h1 h2=>?_⟩
    ·by_cases y:j<lo+x
     ·exact o i j F r y
     ·have u:j=lo+x:=ω
      subst u
      by_cases z:i=lo+x
      ·subst z;exact Int.le_refl _
      ·rw[p];exact o i (lo+x-1) F ω ω
    ·rw[show lo+(x+1)-1=lo+x from ω]
     by_cases J:i=lo+x
     ·subst J;rfl
     ·rw[p];exact he i ω ω
def GD(C:eZ prog w A s κ a₀ ρ){st r:SortSt}{lo n c:Nat}{Q:Option Nat->SortSt->Prop}(g:lo+c<=a₀.size)(l:n+1<=c)(y:B κ a₀ st)(z:Pre lo r st)(hs:nf ρ (arrOf st) lo (lo+(n+1)))(h:Got κ a₀ ρ lo c r Q):wpS (model prog w) A E s (pG lo n c) Q st:=by
 unfold pG;refine wpS_bind (wpS_lift (wpAny_rule ⟨rfl,?_⟩));refine wpS_bind (KJ C g ω l y z hs fun m u d e o D p q hq he=>?_);dsimp only;have hsz:lo+m<=(arrOf d).size:=by rw[e.size];(first|lia|omega)
 by_cases a:u>0
 ·rw[if_pos a]
  refine wpS_bind (sM (GC C g ω p (e.setArr (mirror_perm _ _ _ _)) (o.trans (.mir hsz ω)) ?_ h));intro i j v f x;show R ρ (mirror (arrOf d) _ _ _) j<=R ρ (mirror (arrOf d) _ _ _) i;rw[pl hsz he,pl hsz he];exact q i j v f x
 ·rw[if_neg a]
  exact GC C g ω p e o q h
def KL(C:eZ prog w A s κ a₀ ρ){st:SortSt}{lo u:Nat}{Q:Option Nat->SortSt->Prop}(z:lo+u<=a₀.size)(h1:1<=u)(e:B κ a₀ st)(h:Got κ a₀ ρ lo u st Q):wpS (model prog w) A E s (countRun' lo u) Q st:=by
 rw[KI];refine wpS_bind (GB C z (Ag 1) h1 e (fun i j l o F=>by have:i=j:=ω;subst this;exact Int.le_refl _) fun n p G d H=>?_);dsimp only
 by_cases f:n=u
 ·rw[if_pos (by simpa using f)]
  exact wpS_pure (h n st e .refl p G d)
 ·rw[if_neg (by simpa using f)]
  have q:R ρ (arrOf st) (lo+n)<R ρ (arrOf st) (lo+n-1):=H.resolve_left f
  by_cases v:n>1
  ·rw[if_pos v]
   refine wpS_bind (pA C e ω ω ?_)
   by_cases c:R ρ (arrOf st) lo<R ρ (arrOf st) (lo+n-1)
   ·simp only[c,decide_true,if_true]
    exact wpS_pure (h n st e .refl p G d)
   ·simp only[c,decide_false,Al,if_false]
    have hsz:lo+n<=(arrOf st).size:=by rw[e.size];(first|lia|omega)
    have a:∀k,lo<=k->k<lo+n->R ρ (arrOf st) k=R ρ (arrOf st) (lo+n-1):=by
     intro k l hk;have J:=d lo k ω l hk;have L:=d k (lo+n-1) l ω ω;(first|lia|omega)
    refine wpS_bind (sM (GD C z ω (e.setArr (mirror_perm _ _ _ _)) (.mir hsz (Ag _)) ?_ h));intro i j l o F;show R ρ (mirror (arrOf st) _ _ _) j<=R ρ (mirror (arrOf st) _ _ _) i;rw[pl hsz a,pl hsz a]
    by_cases D:j<lo+n
    ·rw[a i ω ω,a j ω D];exact Int.le_refl _
    ·have x:j=lo+n:=ω
     subst x
     by_cases g:i=lo+n
     ·subst g;exact Int.le_refl _
     ·rw[a i ω ω];exact Int.le_of_lt q
  ·rw[if_neg v]
   have r:n=1:=ω
   subst r;refine GD C z ω e .refl ?_ h;intro i j l o F
   by_cases g:i=j
   ·subst g;exact Int.le_refl _
   ·have I:i=lo:=ω
    have y:j=lo+1:=ω
    subst I;subst y;exact Int.le_of_lt q
def KM(C:eZ prog w A s κ a₀ ρ){st:SortSt}{lo n ok:Nat}{Q:Bool->SortSt->Prop}(O:lo+n<=a₀.size)(J:ok<=n)(L:B κ a₀ st)(hs:ck ρ (arrOf st) lo (lo+ok))(h:∀a,B κ a₀ a->Pre lo st a->ck ρ (arrOf a) lo (lo+n)->Q true a):wpS (model prog w) A E s (binarySort' lo n ok) Q st:=by
 rw[binarySort'_eq];refine wpS_bind (wpS_mono (wpS_forRange (I:=fun k c a=>c=(none,())/\B κ a₀ a/\Pre lo st a/\ck ρ (arrOf a) lo (lo+min k n))
  (Q:=fun c a=>c=(none,())/\B κ a₀ a/\Pre lo st a/\ck ρ (arrOf a) lo (lo+n)) ?step ?fin ?init) ?post)
 case post=>
  rintro c a ⟨rfl,g,u,f⟩;exact wpS_pure (h a g u f)
 case init=>
  refine⟨rfl,L,.refl,fun i j D q F=>?_⟩
  by_cases h1:ok=0
  ·have:i=j:=ω
   subst this;exact Int.le_refl _
  ·exact hs i j D q ω
 case fin=>
  rintro c a ⟨hc,g,u,f⟩;refine⟨hc,g,u,?_⟩
  rwa [show min (max (max ok 1) n) n=n from ω] at f
 case step=>
  rintro k c a P M ⟨rfl,g,u,f⟩;rw[show min k n=k from ω] at f;have hk:lo+k<a₀.size:=ω
  refine wpS_bind (wpS_mono (wpS_forRange (I:=fun x c e=>e=a/\∃l r,c=(none,l,r)/\l<=r/\r<=k/\r-l<=k-x/\
    (∀i,i<l->R ρ (arrOf a) (lo+i)<=R ρ (arrOf a) (lo+k))/\(∀i,r<=i->i<k->R ρ (arrOf a) (lo+k)<R ρ (arrOf a) (lo+i)))
   (Q:=fun c e=>e=a/\∃l r,c=(none,l,r)/\l<=k/\
    (∀i,i<l->R ρ (arrOf a) (lo+i)<=R ρ (arrOf a) (lo+k))/\(∀i,l<=i->i<k->R ρ (arrOf a) (lo+k)<R ρ (arrOf a) (lo+i))) ?istep ?ifin ?iinit) ?ipost)
  case iinit=>exact⟨rfl,0,k,rfl,ω,ω,ω,fun i hi=>ω,fun i h1 h2=>ω⟩
  case ifin=>
   rintro c e ⟨rfl,l,r,rfl,G,y,hm,o,p⟩;have:l=r:=ω
   subst this;exact⟨rfl,l,l,rfl,y,o,p⟩
  case istep=>
   rintro x c e _ N ⟨rfl,l,r,rfl,G,y,hm,o,p⟩;dsimp only
   by_cases v:l ≥ r
   ·rw[if_pos v]
    have:l=r:=ω
    subst this;exact wpS_pure ⟨rfl,l,l,rfl,y,o,p⟩
   ·rw[if_neg v]
    refine wpS_bind (pA C g hk ω ?_)
    by_cases d:R ρ (arrOf e) (lo+k)<R ρ (arrOf e) (lo+(l+r) / 2)
    ·simp only[d,decide_true,if_true]
     refine wpS_pure ⟨rfl,l,(l+r) / 2,rfl,ω,ω,ω,o,fun i h1 h2=>?_⟩;exact Int.lt_of_lt_of_le d (f _ _ ω ω ω)
    ·simp only[d,decide_false,Al,if_false]
     refine wpS_pure ⟨rfl,(l+r) / 2+1,r,rfl,ω,ω,ω,fun i h1=>?_,p⟩;exact AZ (f (lo+i) (lo+(l+r) / 2) ω ω ω) (Int.not_lt.mp d)
  case ipost=>
   rintro c e ⟨rfl,l,r,rfl,S,o,p⟩;show wpS _ _ _ _ (do moveDown' (lo+k) (lo+l);pure (ForInStep.yield (none,()))) _ _;rw[moveDown'_eq];have z:lo+k<(arrOf e).size:=by rw[g.size];exact hk
   refine wpS_bind (wpS_modify (wpS_pure ⟨rfl,g.setArr (bubble_perm _ _ _),u.trans (.bub z ω ω),?_⟩));rw[show min (k+1) n=k+1 from ω];intro i j D q F;show R ρ (bubble (arrOf e) (lo+k) (lo+k-(lo+l))) i<=R ρ (bubble (arrOf e) (lo+k) (lo+k-(lo+l))) j;rw[GA z ω,GA z ω,show lo+k-(lo+k-(lo+l))=lo+l from ω];have q1:∀i,lo<=i->i<lo+l->R ρ (arrOf e) i<=R ρ (arrOf e) (lo+k):=fun i h1 h2=>by
    have:=o (i-lo) ω;rwa [show lo+(i-lo)=i from ω] at this
   have H:∀i,lo+l<=i->i<lo+k->R ρ (arrOf e) (lo+k)<R ρ (arrOf e) i:=fun i h1 h2=>by
    have:=p (i-lo) ω ω;rwa [show lo+(i-lo)=i from ω] at this
   repeat' split
   all_goals first
    |(exfalso;(first|lia|omega))
    |exact Int.le_refl _
    |exact q1 _ ω ω
    |exact Int.le_of_lt (H _ ω ω)
    |exact f _ _ ω ω ω
def iw:Bool->Keyed->Array Keyed->Nat->Nat->Nat->StateT SortSt Sem (Option Nat):=sortPriv% PySem.Builtin.gallop
def bv(left:Bool)(k r:Int):Bool:=if left=true then decide (r<k) else !decide (k<r)
def KO{left:Bool}{k r a:Int}(h:a<=r)(hb:bv left k r=true):bv left k a=true:=by
 unfold bv at *;cases left with
 |true=>simp at *;(first|lia|omega)
 |false=>simp at *;(first|lia|omega)
def sN(C:eZ prog w A s κ a₀ ρ){st:SortSt}(a:B κ a₀ st){left:Bool}{key:Keyed}{arr:Array Keyed}{i:Nat}(hk:key∈a₀.toList)(ha:∃p,arr[i]?=some p/\p∈a₀.toList){Q:Option Bool->SortSt->Prop}(h:Q (some (bv left (ρ key) (R ρ arr i))) st):wpS (model prog w) A E s (do
   let x <-elem' arr i
   if left=true then lt' x key
   else do
    let b <-lt' key x
    pure (Option.map (fun x=>!x) b)) Q st:=by
 obtain⟨p,e,hp⟩:=ha;rw[aV e] at h;refine wpS_bind (zj e ?_);cases left with
 |true=>
  rw[if_pos rfl];exact pu C a hp hk h
 |false=>
  rw[if_neg Ak];exact wpS_bind (pu C a hk hp (wpS_pure h))
def zO(C:eZ prog w A s κ a₀ ρ){st:SortSt}(J:B κ a₀ st){left:Bool}{key:Keyed}{arr:Array Keyed}{base n hint:Nat}{Q:Option Nat->SortSt->Prop}(hk:key∈a₀.toList)(ha:∀i,i<n->∃p,arr[base+i]?=some p/\p∈a₀.toList)(hs:∀i j,i<=j->j<n->R ρ arr (base+i)<=R ρ arr (base+j))(Z:hint<n)(h:∀k,k<=n->(∀i,i<k->bv left (ρ key) (R ρ arr (base+i))=true)->(∀i,k<=i->i<n->bv left (ρ key) (R ρ arr (base+i))=false)->Q (some k) st):wpS (model prog w) A E s (iw left key arr base n hint) Q st:=by
 have H:∀i j,i<=j->j<n->bv left (ρ key) (R ρ arr (base+j))=true->bv left (ρ key) (R ρ arr (base+i))=true:=fun i j h1 h2=>KO (hs i j h1 h2);have M:∀i j,i<=j->j<n->bv left (ρ key) (R ρ arr (base+i))=false->bv left (ρ key) (R ρ arr (base+j))=false:=fun i j h1 h2 e=>by
  cases q:bv left (ρ key) (R ρ arr (base+j)) with
  |false=>rfl
  |true=>rw[H i j h1 h2 q] at e;cases e
 have last:∀(d:SortSt)(f:Nat->Option (Option Nat)×Nat×Nat->StateT SortSt Sem (ForInStep (Option (Option Nat)×Nat×Nat)))(lo hi:Nat),d=st->lo<=hi->hi<=n->(∀i,i<lo->bv left (ρ key) (R ρ arr (base+i))=true)->(∀i,hi<=i->i<n->bv left (ρ key) (R ρ arr (base+i))=false)->
   (∀x lo hi(F:ForInStep (Option (Option Nat)×Nat×Nat)->SortSt->Prop),(lo ≥ hi->F (.done (none,lo,hi)) st)->(lo<hi->hi<=n->F (.yield (if bv left (ρ key) (R ρ arr (base+(lo+(hi-lo) / 2)))=true then(none,lo+(hi-lo) / 2+1,hi) else(none,lo,lo+(hi-lo) / 2))) st)->hi<=n->wpS (model prog w) A E s (f x (none,lo,hi)) F st)->
   wpS (model prog w) A E s (forIn [0:n] (none,lo,hi) f) (fun c d=>d=st/\c.1=none/\Q (some c.2.2) st) d:=by
  intro d f lo hi N h1 h2 O P hf;subst N;refine wpS_forRange (I:=fun x c G=>G=d/\∃l r,c=(none,l,r)/\l<=r/\r<=n/\r-l<=n-x/\(∀i,i<l->bv left (ρ key) (R ρ arr (base+i))=true)/\(∀i,r<=i->i<n->bv left (ρ key) (R ρ arr (base+i))=false)) ?step ?fin ⟨rfl,lo,hi,rfl,h1,h2,ω,O,P⟩
  case fin=>
   rintro c G ⟨rfl,l,r,rfl,u,D,v,g,z⟩;have:l=r:=ω
   subst this;exact⟨rfl,rfl,h l D g z⟩
  case step=>
   rintro x c G _ hx ⟨rfl,l,r,rfl,u,D,v,g,z⟩;refine hf x l r _ (fun a=>?_) (fun S hr=>?_) D
   ·have:l=r:=ω
    subst this;exact⟨rfl,rfl,h l D g z⟩
   ·cases q:bv left (ρ key) (R ρ arr (base+(l+(r-l) / 2))) with
    |true=>exact⟨rfl,_,_,by rw[if_pos rfl],ω,ω,ω,fun i hi=>H i _ ω ω q,z⟩
    |false=>exact⟨rfl,_,_,by rw[if_neg Ak],ω,ω,ω,g,fun i h1 h2=>M _ i h1 h2 q⟩
 have body:∀(x lo hi:Nat)(F:ForInStep (Option (Option Nat)×Nat×Nat)->SortSt->Prop),(lo ≥ hi->F (.done (none,lo,hi)) st)->(lo<hi->hi<=n->F (.yield (if bv left (ρ key) (R ρ arr (base+(lo+(hi-lo) / 2)))=true then(none,lo+(hi-lo) / 2+1,hi) else(none,lo,lo+(hi-lo) / 2))) st)->hi<=n->
   wpS (model prog w) A E s (if lo ≥ hi then pure (ForInStep.done (none,lo,hi)) else(do
    let x <-elem' arr (base+(lo+(hi-lo) / 2))
    if left=true then lt' x key
    else do
     let b <-lt' key x
     pure (Option.map (fun x=>!x) b)) >>= fun y=>match y with
    |some more=>if more=true then pure (ForInStep.yield (none,lo+(hi-lo) / 2+1,hi)) else pure (ForInStep.yield (none,lo,lo+(hi-lo) / 2))
    |x=>pure (ForInStep.done (some none,lo,hi))) F st:=by
  intro x lo hi F q1 T U
  by_cases a:lo ≥ hi
  ·rw[if_pos a]
   exact wpS_pure (q1 a)
  ·rw[if_neg a]
   have q:=T ω U;refine wpS_bind (sN C J hk (ha _ ω) ?_);cases e:bv left (ρ key) (R ρ arr (base+(lo+(hi-lo) / 2))) with
   |true=>
    rw[e,if_pos rfl] at q;simp only[if_true];exact wpS_pure q
   |false=>
    rw[e,if_neg Ak] at q;simp only[Al,if_false];exact wpS_pure q
 refine wpS_bind ?_;refine sN C J hk (ha hint Z) ?_;cases right:bv left (ρ key) (R ρ arr (base+hint)) with
 |true=>
  dsimp only;rw[if_pos rfl];refine wpS_bind (wpS_mono (wpS_forRange (I:=fun x c d=>d=st/\∃l o,c=(none,l,o)/\l<o/\x+1<=o/\hint+l<n/\bv left (ρ key) (R ρ arr (base+(hint+l)))=true)
   (Q:=fun c d=>d=st/\∃l o,c=(none,l,o)/\l<o/\hint+l<n/\bv left (ρ key) (R ρ arr (base+(hint+l)))=true/\(n-hint<=o\/(hint+o<n/\bv left (ρ key) (R ρ arr (base+(hint+o)))=false))) ?step ?fin ⟨rfl,0,1,rfl,ω,ω,ω,right⟩) ?post)
  case fin=>
   rintro c d ⟨rfl,l,o,rfl,u,D,v,g⟩;exact⟨rfl,l,o,rfl,u,v,g,.inl ω⟩
  case step=>
   rintro x c d _ hx ⟨rfl,l,o,rfl,u,D,v,g⟩;dsimp only
   by_cases a:o ≥ n-hint
   ·rw[if_pos a]
    exact wpS_pure ⟨rfl,l,o,rfl,u,v,g,.inl a⟩
   ·rw[if_neg a]
    refine wpS_bind (sN C J hk (ha _ ω) ?_);cases e:bv left (ρ key) (R ρ arr (base+(hint+o))) with
    |true=>
     simp only[Bool.not_true,Al,if_false];exact wpS_pure ⟨rfl,o,2*o+1,rfl,ω,ω,ω,e⟩
    |false=>
     simp only[Bool.not_false,if_true];exact wpS_pure ⟨rfl,l,o,rfl,u,v,g,.inr ⟨ω,e⟩⟩
  case post=>
   rintro c d ⟨rfl,l,o,rfl,u,v,g,z⟩;dsimp only;refine wpS_bind (wpS_mono (last _ _ _ _ rfl ω ω (fun i hi=>H i _ ω ω g) (fun i h1 h2=>?_) body) ?fin2)
   case fin2=>rintro⟨W,X,Y⟩ G ⟨rfl,e,q⟩;dsimp only at e q ⊢;subst e;exact wpS_pure q
   rcases z with z|⟨z,L⟩
   ·(first|lia|omega)
   ·exact M _ i ω h2 L
 |false=>
  dsimp only;rw[if_neg Ak];refine wpS_bind (wpS_mono (wpS_forRange (I:=fun x c d=>d=st/\∃l o,c=(none,l,o)/\l<o/\x+1<=o/\l<=hint/\bv left (ρ key) (R ρ arr (base+(hint-l)))=false)
   (Q:=fun c d=>d=st/\∃l o,c=(none,l,o)/\l<o/\l<=hint/\bv left (ρ key) (R ρ arr (base+(hint-l)))=false/\(hint+1<=o\/(o<=hint/\bv left (ρ key) (R ρ arr (base+(hint-o)))=true))) ?step ?fin ⟨rfl,0,1,rfl,ω,ω,ω,right⟩) ?post)
  case fin=>
   rintro c d ⟨rfl,l,o,rfl,u,D,v,g⟩;exact⟨rfl,l,o,rfl,u,v,g,.inl ω⟩
  case step=>
   rintro x c d _ hx ⟨rfl,l,o,rfl,u,D,v,g⟩;dsimp only
   by_cases a:o ≥ hint+1
   ·rw[if_pos a]
    exact wpS_pure ⟨rfl,l,o,rfl,u,v,g,.inl a⟩
   ·rw[if_neg a]
    refine wpS_bind (sN C J hk (ha _ ω) ?_);cases e:bv left (ρ key) (R ρ arr (base+(hint-o))) with
    |true=>
     simp only[if_true];exact wpS_pure ⟨rfl,l,o,rfl,u,v,g,.inr ⟨ω,e⟩⟩
    |false=>
     simp only[Al,if_false];exact wpS_pure ⟨rfl,o,2*o+1,rfl,ω,ω,ω,e⟩
  case post=>
   rintro c d ⟨rfl,l,o,rfl,u,v,g,z⟩;dsimp only;refine wpS_bind (wpS_mono (last _ _ _ _ rfl ω ω (fun i hi=>?_) (fun i h1 h2=>M _ i ω h2 g) body) ?fin2)
   case fin2=>rintro⟨W,X,Y⟩ G ⟨rfl,e,q⟩;dsimp only at e q ⊢;subst e;exact wpS_pure q
   rcases z with z|⟨z,L⟩
   ·(first|lia|omega)
   ·exact H i _ ω ω L
end
abbrev Le(ρ:Keyed->Int)(l:List Keyed):Prop:=l.Pairwise fun x y=>ρ x<=ρ y
structure MI(ρ:Keyed->Int)(la lb out ra rb:List Keyed):Prop where
 perm:(out++(ra++rb)).Perm (la++lb)
 so:Le ρ out
 sa:Le ρ ra
 sb:Le ρ rb
 oa:∀x∈out,∀y∈ra,ρ x<=ρ y
 ob:∀x∈out,∀y∈rb,ρ x<=ρ y
def MI.takeA{ρ:Keyed->Int}{f g out a i c:List Keyed}(h:MI ρ f g out (a++i) c)(hb:∀x∈a,∀y∈c,ρ x<=ρ y):MI ρ f g (out++a) i c:=by
 obtain⟨p,j,l,o,e,ob⟩:=h;have d:=List.pairwise_append.mp l;refine⟨by simpa[AG] using p,List.pairwise_append.mpr ⟨j,d.1,fun x hx y hy=>e x hx y (Aw _ hy)⟩,d.2.1,o,fun x hx y hy=>?_,fun x hx y hy=>?_⟩
 ·rcases List.mem_append.mp hx with hx|hx
  ·exact e x hx y (Az _ hy)
  ·exact d.2.2 x hx y hy
 ·rcases List.mem_append.mp hx with hx|hx
  ·exact ob x hx y hy
  ·exact hb x hx y hy
def MI.takeB{ρ:Keyed->Int}{e f out a c g:List Keyed}(h:MI ρ e f out c (a++g))(hb:∀x∈a,∀y∈c,ρ x<=ρ y):MI ρ e f (out++a) c g:=by
 obtain⟨p,i,j,l,o,ob⟩:=h;have d:=List.pairwise_append.mp l;refine⟨?_,List.pairwise_append.mpr ⟨i,d.1,fun x hx y hy=>ob x hx y (Aw _ hy)⟩,j,d.2.1,fun x hx y hy=>?_,fun x hx y hy=>?_⟩
 ·refine List.Perm.trans ?_ p
  rw[AG];refine List.Perm.append_left _ ?_;rw[<-AG,<-AG];exact List.Perm.append_right _ List.perm_append_comm
 ·rcases List.mem_append.mp hx with hx|hx
  ·exact o x hx y hy
  ·exact hb x hx y hy
 ·rcases List.mem_append.mp hx with hx|hx
  ·exact ob x hx y (Az _ hy)
  ·exact d.2.2 x hx y hy
def MI.doneA{ρ:Keyed->Int}{d f out c a:List Keyed}(h:MI ρ d f out c a)(e:a=[]):((out++c)++a).Perm (d++f)/\Le ρ ((out++c)++a):=by
 subst e;refine⟨by simpa[AG] using h.perm,?_⟩;rw[AT];exact List.pairwise_append.mpr ⟨h.so,h.sa,h.oa⟩
def MI.lastA{ρ:Keyed->Int}{d e out c a:List Keyed}(h:MI ρ d e out c a)(hz:∀x∈a,∀y∈c,ρ x<=ρ y):((out++a)++c).Perm (d++e)/\Le ρ ((out++a)++c):=by
 have h2:=(show MI ρ d e out c (a++[]) by rw[AT];exact h).takeB hz;refine⟨by simpa using h2.perm,List.pairwise_append.mpr ⟨h2.so,h2.sa,h2.oa⟩⟩
def GE{xs:Array Keyed}{i:Nat}{p:Keyed}(h:xs[i]?=some p):xs.toList.drop i=[p]++xs.toList.drop (i+1):=by
 have h':xs.toList[i]?=some p:=by simpa using h
 obtain⟨hi,e⟩:=List.getElem?_eq_some_iff.mp h';rw[List.drop_eq_getElem_cons hi,e]
 rfl
def sQ{xs:Array Keyed}(i k:Nat):xs.toList.drop i=(xs.extract i (i+k)).toList++xs.toList.drop (i+k):=by
 rw[Array.toList_extract,List.extract_eq_drop_take,Nat.add_sub_cancel_left,<-List.drop_drop,List.take_append_drop]
def zJ{xs:Array Keyed}{i:Nat}{y:Keyed}(h:y∈xs.toList.drop i):∃j,i+j<xs.size/\xs[i+j]?=some y:=by
 obtain⟨j,a,e⟩:=List.mem_iff_getElem.mp h;rw[List.length_drop,Ax] at a;refine⟨j,ω,?_⟩;rw[List.getElem_drop] at e;rw[getElem?_pos xs (i+j) ω,<-e];simp
def nh{xs:Array Keyed}{i k:Nat}{y:Keyed}(h:y∈(xs.extract i (i+k)).toList):∃j,j<k/\i+j<xs.size/\xs[i+j]?=some y:=by
 obtain⟨j,a,e⟩:=List.mem_iff_getElem.mp h;rw[Ax,Array.size_extract] at a;refine⟨j,ω,ω,?_⟩;rw[getElem?_pos xs (i+j) ω,<-e];simp
def sR(xs:Array Keyed)(i:Nat):(xs.extract i).toList=xs.toList.drop i:=by
 rw[Array.toList_extract,List.extract_eq_drop_take,Au (by simp)]
def at_of{xs:Array Keyed}{i:Nat}(h:i<xs.size):∃p,xs[i]?=some p:=⟨xs[i],getElem?_pos _ i h⟩
def zC{xs:Array Keyed}{i:Nat}{p:Keyed}(h:xs[i]?=some p):p∈xs.toList:=by
 obtain⟨hi,rfl⟩:=Array.getElem?_eq_some_iff.mp h;simp
def dY{ρ:Keyed->Int}{xs:Array Keyed}(hs:Le ρ xs.toList){i j:Nat}{p q:Keyed}(h1:xs[i]?=some p)(h2:xs[j]?=some q)(a:i<=j):ρ p<=ρ q:=by
 obtain⟨hi,rfl⟩:=Array.getElem?_eq_some_iff.mp h1;obtain⟨c,rfl⟩:=Array.getElem?_eq_some_iff.mp h2;rcases Nat.lt_or_eq_of_le a with h|h
 ·have:=List.pairwise_iff_getElem.mp hs i j (by simpa using hi) (by simpa using c) h
  simpa using this
 ·subst h;exact Int.le_refl _
def c8{ρ:Keyed->Int}{xs:Array Keyed}(hs:Le ρ xs.toList){i j:Nat}(a:i<=j)(c:j<xs.size):R ρ xs i<=R ρ xs j:=by
 obtain⟨p,e1⟩:=at_of (xs:=xs) (i:=i) ω;obtain⟨q,e2⟩:=at_of c;rw[aV e1,aV e2];exact dY hs e1 e2 a
structure Sm(st ag:SortSt):Prop where
 arr:arrOf ag=arrOf st
 pend:AJ ag=AJ st
 kind:kindOf ag=kindOf st
 failed:failedOf ag=failedOf st
def Sm.refl{st:SortSt}:Sm st st:=⟨rfl,rfl,rfl,rfl⟩
def Sm.trans{a b c:SortSt}(x:Sm a b)(y:Sm b c):Sm a c:=⟨y.arr.trans x.arr,y.pend.trans x.pend,y.kind.trans x.kind,y.failed.trans x.failed⟩
def Sm.b{κ:SortKind}{a₀:Array Keyed}{st a:SortSt}(x:Sm st a)(h:B κ a₀ st):B κ a₀ a:=⟨by rw[x.arr];exact h.perm,x.kind.trans h.kind,x.failed.trans h.failed⟩
def KP:Nat->StateT SortSt Sem Unit:=sortPriv% PySem.Builtin.setMinGallop
def KQ:Array Keyed->Array Keyed->StateT SortSt Sem (Array Keyed):=sortPriv% PySem.Builtin.mergeLo
def KR:Array Keyed->Array Keyed->StateT SortSt Sem (Array Keyed):=sortPriv% PySem.Builtin.mergeHi
section
variable{prog:Program}{w:World}{A:Around}{E:Ω}{s:Shared}{κ:SortKind}{a₀:Array Keyed}{ρ:Keyed->Int}
def nj{st:SortSt}{g:Nat}{Q:Unit->SortSt->Prop}(h:∀a,Sm st a->Q () a):wpS (model prog w) A E s (KP g) Q st:=by
 refine wpS_modify (h _ ?_);exact⟨rfl,rfl,rfl,rfl⟩
abbrev cv(ρ:Keyed->Int)(a b:Array Keyed)(st:SortSt)(r:Array Keyed)(ag:SortSt):Prop:=Sm st ag/\r.toList.Perm (a.toList++b.toList)/\Le ρ r.toList
structure Jn(ρ:Keyed->Int)(a b:Array Keyed)(out:Array Keyed)(ia ib:Nat):Prop where
 mi:MI ρ a.toList b.toList out.toList (a.toList.drop ia) (b.toList.drop ib)
 la:ia+1<a.size
 lb:ib<b.size
def MI.pushB{ρ:Keyed->Int}{a b out:Array Keyed}{c d:Nat}{y:Keyed}(h:MI ρ a.toList b.toList out.toList (a.toList.drop c) (b.toList.drop d))(e:b[d]?=some y)(hy:∀x∈a.toList.drop c,ρ y<=ρ x):MI ρ a.toList b.toList (out.push y).toList (a.toList.drop c) (b.toList.drop (d+1)):=by
 rw[GE e] at h;rw[Array.toList_push];exact h.takeB fun x hx z hz=>by rw[List.mem_singleton.mp hx];exact hy z hz
def MI.pushA{ρ:Keyed->Int}{a b out:Array Keyed}{d c:Nat}{x:Keyed}(h:MI ρ a.toList b.toList out.toList (a.toList.drop d) (b.toList.drop c))(e:a[d]?=some x)(hy:∀y∈b.toList.drop c,ρ x<=ρ y):MI ρ a.toList b.toList (out.push x).toList (a.toList.drop (d+1)) (b.toList.drop c):=by
 rw[GE e] at h;rw[Array.toList_push];exact h.takeA fun z hz y f=>by rw[List.mem_singleton.mp hz];exact hy y f
def MI.blkA{ρ:Keyed->Int}{a b out:Array Keyed}{c d:Nat}(k:Nat)(h:MI ρ a.toList b.toList out.toList (a.toList.drop c) (b.toList.drop d))(hy:∀x∈(a.extract c (c+k)).toList,∀y∈b.toList.drop d,ρ x<=ρ y):MI ρ a.toList b.toList (out++a.extract c (c+k)).toList (a.toList.drop (c+k)) (b.toList.drop d):=by
 rw[sQ c k] at h;rw[A3];exact h.takeA hy
def MI.blkB{ρ:Keyed->Int}{a b out:Array Keyed}{d c:Nat}(k:Nat)(h:MI ρ a.toList b.toList out.toList (a.toList.drop d) (b.toList.drop c))(hy:∀x∈(b.extract c (c+k)).toList,∀y∈a.toList.drop d,ρ x<=ρ y):MI ρ a.toList b.toList (out++b.extract c (c+k)).toList (a.toList.drop d) (b.toList.drop (c+k)):=by
 rw[sQ c k] at h;rw[A3];exact h.takeB hy
def MI.fin{ρ:Keyed->Int}{a b out:Array Keyed}{d c:Nat}(h:MI ρ a.toList b.toList out.toList (a.toList.drop d) (b.toList.drop c))(e:b.size<=c):(out++a.extract d++b.extract c).toList.Perm (a.toList++b.toList)/\Le ρ (out++a.extract d++b.extract c).toList:=by
 rw[A3,A3,sR,sR];exact h.doneA (List.drop_eq_nil_of_le (by simpa using e))
def MI.finL{ρ:Keyed->Int}{a b out:Array Keyed}{d c:Nat}(h:MI ρ a.toList b.toList out.toList (a.toList.drop d) (b.toList.drop c))(hz:∀x∈b.toList.drop c,∀y∈a.toList.drop d,ρ x<=ρ y):(out++b.extract c++a.extract d).toList.Perm (a.toList++b.toList)/\Le ρ (out++b.extract c++a.extract d).toList:=by
 rw[A3,A3,sR,sR];exact h.lastA hz
abbrev z_C:=Option (Array Keyed) × Array Keyed × Nat × Nat × Nat × Nat × Nat
def z_Q (ρ:Keyed->Int) (a b:Array Keyed) (st:SortSt) (N:Nat):ForInStep z_C->SortSt->Prop:=fun r st'=>match r with
 | .done c'=>(∃r,c'.1=some r/\cv ρ a b st r st') ∨ Sm st st'/\∃out ia ib mg ac bc,c'=(none,out,ia,ib,mg,ac,bc)/\Jn ρ a b out ia ib/\N<=ia+ib
 | .yield c'=>Sm st st'/\∃out ia ib mg ac bc,c'=(none,out,ia,ib,mg,ac,bc)/\Jn ρ a b out ia ib/\N<=ia+ib
def tailLo (a b o:Array Keyed) (i j mg k l:Nat):StateT SortSt Sem (ForInStep z_C):=elem' a i>>= fun z=>if (i+1+1 == a.size)=true then pure (.done (some (o.push z++b.extract j++a.extract (i+1)),o.push z,i+1,j,mg,k,l)) else if (decide (k<7) && decide (l<7))=true then pure (.done (none,o.push z,i+1,j,mg,k,l)) else pure (.yield (none,o.push z,i+1,j,mg,k,l))
def midLo (a b o:Array Keyed) (i j mg k bc:Nat):StateT SortSt Sem (ForInStep z_C):=elem' b j>>= fun y=>if (j+1 == b.size)=true then pure (.done (some (o.push y++a.extract i++b.extract (j+1)),o.push y,i,j+1,mg,k,bc)) else elem' a i>>= fun x=>iw true x b (j+1) (b.size-(j+1)) 0>>= fun g=>match g with
 | some l=>if l > 0 then (if (j+1+l == b.size)=true then pure (.done (some (o.push y++b.extract (j+1) (j+1+l)++a.extract i++b.extract (j+1+l)),o.push y++b.extract (j+1) (j+1+l),i,j+1+l,mg,k,l)) else tailLo a b (o.push y++b.extract (j+1) (j+1+l)) i (j+1+l) mg k l) else tailLo a b (o.push y) i (j+1) mg k l
 | _=>pure (.done (some (o.push y++a.extract i++b.extract (j+1)),o.push y,i,j+1,mg,k,bc))
theorem wp_tailLo {st st3:SortSt} {a b o:Array Keyed} {i j mg k l N:Nat} {x:Keyed} (S:Sm st st3) (M:MI ρ a.toList b.toList o.toList (a.toList.drop i) (b.toList.drop j)) (ex:a[i]?=some x) (aft:∀y∈b.toList.drop j,ρ x<=ρ y)
  (hz':∀i j,a.size<=i+1->∀x∈b.toList.drop j,∀y∈a.toList.drop i,ρ x<=ρ y) (h1:i+1<a.size) (h2:j<b.size) (hN:N<=i+j):wpS (model prog w) A E s (tailLo a b o i j mg k l) (z_Q ρ a b st N) st3:=by
 refine wpS_bind (zj ex ?_)
 have M4:=M.pushA ex aft
 by_cases c6:(i+1+1 == a.size)=true
 ·rw [if_pos c6]
  have c6':i+1+1=a.size:=by simpa using c6
  exact wpS_pure (.inl ⟨_,rfl,S,M4.finL (hz' _ _ ω)⟩)
 rw [if_neg c6]
 have c6':i+1+1 ≠ a.size:=by simpa using c6
 by_cases c7:(decide (k<7) && decide (l<7))=true
 ·rw [if_pos c7]
  exact wpS_pure (.inr ⟨S,_,_,_,_,_,_,rfl,⟨M4,ω,ω⟩,ω⟩)
 ·rw [if_neg c7]
  exact wpS_pure ⟨S,_,_,_,_,_,_,rfl,⟨M4,ω,ω⟩,ω⟩
theorem wp_midLo (C:eZ prog w A s κ a₀ ρ) {st st3:SortSt} (hB:B κ a₀ st) {a b o:Array Keyed} {i j mg k bc N:Nat} {y:Keyed} (ha:∀p∈a.toList,p∈a₀.toList) (hb:∀p∈b.toList,p∈a₀.toList)
  (sa:Le ρ a.toList) (sb:Le ρ b.toList) (S:Sm st st3) (M:MI ρ a.toList b.toList o.toList (a.toList.drop i) (b.toList.drop j)) (ey:b[j]?=some y) (after:∀x∈a.toList.drop i,ρ y<=ρ x)
  (hz':∀i j,a.size<=i+1->∀x∈b.toList.drop j,∀y∈a.toList.drop i,ρ x<=ρ y) (h1:i+1<a.size) (h2:j<b.size) (hN:N<=i+j):wpS (model prog w) A E s (midLo a b o i j mg k bc) (z_Q ρ a b st N) st3:=by
 refine wpS_bind (zj ey ?_)
 have M2:=M.pushB ey after
 by_cases c4:(j+1 == b.size)=true
 ·rw [if_pos c4]
  have c4':j+1=b.size:=by simpa using c4
  exact wpS_pure (.inl ⟨_,rfl,S,M2.fin ω⟩)
 rw [if_neg c4]
 have c4':j+1 ≠ b.size:=by simpa using c4
 obtain ⟨x,ex⟩:=at_of (xs:=a) (i:=i) ω
 refine wpS_bind (zj ex ?_)
 refine wpS_bind (zO C (S.b hB) (ha _ (zC ex)) (fun l hl=>?_) (fun l m h1 h2=>c8 sb ω ω) ω fun l l1 l2 l3=>?_)
 ·obtain ⟨p,e⟩:=at_of (xs:=b) (i:=j+1+l) ω
  exact ⟨p,e,hb _ (zC e)⟩
 dsimp only
 have aft:∀y∈b.toList.drop (j+1+l),ρ x<=ρ y:=fun u hu=>by
  obtain ⟨d,d1,d2⟩:=zJ hu
  have q1:=l3 (l+d) ω ω
  rw [show j+1+(l+d)=j+1+l+d from ω,aV d2] at q1
  simp [bv] at q1
  (first|lia|omega)
 by_cases hl0:l > 0
 ·rw [if_pos hl0]
  have M3:=M2.blkB l fun u hu v hv=>by
   obtain ⟨d,d1,d2,d3⟩:=nh hu
   obtain ⟨f,f1,f2⟩:=zJ hv
   have q1:=l2 d d1
   rw [aV d3] at q1
   simp [bv] at q1
   exact Int.le_trans (Int.le_of_lt q1) (dY sa ex f2 ω)
  by_cases c5:(j+1+l == b.size)=true
  ·rw [if_pos c5]
   have c5':j+1+l=b.size:=by simpa using c5
   exact wpS_pure (.inl ⟨_,rfl,S,M3.fin ω⟩)
  rw [if_neg c5]
  have c5':j+1+l ≠ b.size:=by simpa using c5
  exact wp_tailLo S M3 ex aft hz' h1 ω ω
 ·rw [if_neg hl0]
  have l0:l=0:=ω
  rw [l0] at aft
  exact wp_tailLo S M2 ex aft hz' h1 ω ω
def headLo (a b o:Array Keyed) (i j mg ac bc:Nat):StateT SortSt Sem (ForInStep z_C):=KP mg>>= fun _=>elem' b j>>= fun y=>iw false y a i (a.size-i) 0>>= fun g=>match g with
 | some k=>if k > 0 then (if (i+k+1 == a.size)=true then pure (.done (some (o++a.extract i (i+k)++b.extract j++a.extract (i+k)),o++a.extract i (i+k),i+k,j,mg,k,bc)) else if (i+k == a.size)=true then pure (.done (some (o++a.extract i (i+k)++a.extract (i+k)++b.extract j),o++a.extract i (i+k),i+k,j,mg,k,bc)) else midLo a b (o++a.extract i (i+k)) (i+k) j mg k bc) else midLo a b o i j mg k bc
 | _=>pure (.done (some (o++a.extract i++b.extract j),o,i,j,mg,ac,bc))
theorem wp_headLo (C:eZ prog w A s κ a₀ ρ) {st st2:SortSt} (hB:B κ a₀ st) {a b out:Array Keyed} {i j mg ac bc N:Nat} {y z:Keyed} (ha:∀p∈a.toList,p∈a₀.toList) (hb:∀p∈b.toList,p∈a₀.toList)
  (sa:Le ρ a.toList) (sb:Le ρ b.toList) (S2:Sm st st2) (J2:Jn ρ a b out i j) (ey:b[j]?=some y) (ez:a[a.size-1]?=some z) (hz:∀z,a[a.size-1]?=some z->∀y∈b.toList,ρ y<ρ z)
  (hz':∀i j,a.size<=i+1->∀x∈b.toList.drop j,∀y∈a.toList.drop i,ρ x<=ρ y) (hp2:N<=i+j):wpS (model prog w) A E s (headLo a b out i j mg ac bc) (z_Q ρ a b st N) st2:=by
 have la2:=J2.la
 have lb2:=J2.lb
 refine wpS_bind (nj fun st3 S3=>?_)
 refine wpS_bind (zj ey ?_)
 refine wpS_bind (zO C ((S2.trans S3).b hB) (hb _ (zC ey)) (fun k hk=>?_) (fun k l h1 h2=>c8 sa ω ω) ω fun k k1 k2 k3=>?_)
 ·obtain ⟨p,e⟩:=at_of (xs:=a) (i:=i+k) ω
  exact ⟨p,e,ha _ (zC e)⟩
 dsimp only
 have kz:i+k<a.size:=by
  rcases Nat.lt_or_ge (i+k) a.size with q | q
  ·exact q
  ·have q1:=k2 (a.size-1-i) ω
   rw [show i+(a.size-1-i)=a.size-1 from ω,aV ez] at q1
   have q2:=hz _ ez y (zC ey)
   simp [bv] at q1
   (first|lia|omega)
 have after:∀x∈a.toList.drop (i+k),ρ y<=ρ x:=fun u hu=>by
  obtain ⟨d,d1,d2⟩:=zJ hu
  have q1:=k3 (k+d) ω ω
  rw [show i+(k+d)=i+k+d from ω,aV d2] at q1
  simp [bv] at q1
  (first|lia|omega)
 by_cases hk0:k > 0
 ·rw [if_pos hk0]
  have MB:=J2.mi.blkA k fun u hu v hv=>by
   obtain ⟨d,d1,d2,d3⟩:=nh hu
   obtain ⟨f,f1,f2⟩:=zJ hv
   have q1:=k2 d d1
   rw [aV d3] at q1
   simp [bv] at q1
   exact Int.le_trans q1 (dY sb ey f2 ω)
  by_cases c3:(i+k+1 == a.size)=true
  ·rw [if_pos c3]
   have c3':i+k+1=a.size:=by simpa using c3
   exact wpS_pure (.inl ⟨_,rfl,S2.trans S3,MB.finL (hz' _ _ ω)⟩)
  rw [if_neg c3]
  have c3':i+k+1 ≠ a.size:=by simpa using c3
  rw [if_neg (show ¬ (i+k == a.size)=true by simp;(first|lia|omega))]
  exact wp_midLo C hB ha hb sa sb (S2.trans S3) MB ey after hz' ω lb2 ω
 ·rw [if_neg hk0]
  have k0:k=0:=ω
  rw [k0] at after
  exact wp_midLo C hB ha hb sa sb (S2.trans S3) J2.mi ey after hz' la2 lb2 ω
abbrev z_I:=Option (Array Keyed) × Array Keyed × Nat × Nat × Nat × Nat
abbrev z_O:=Option (Array Keyed) × Array Keyed × Nat × Nat × Nat
def gOf:SortSt->Nat:=sortPriv% PySem.Builtin.SortState.minGallop
def inLo (a b:Array Keyed) (mg:Nat):Nat->z_I->StateT SortSt Sem (ForInStep z_I):=fun _ c=>elem' b c.2.2.2.1>>= fun y=>elem' a c.2.2.1>>= fun x=>lt' y x>>= fun q=>match q with
 | some r=>if r=true then elem' b c.2.2.2.1>>= fun z=>(if (c.2.2.2.1+1 == b.size)=true then pure (.done (some (c.2.1.push z++a.extract c.2.2.1++b.extract (c.2.2.2.1+1)),c.2.1.push z,c.2.2.1,c.2.2.2.1+1,0,c.2.2.2.2.2+1)) else if c.2.2.2.2.2+1 ≥ mg then pure (.done (none,c.2.1.push z,c.2.2.1,c.2.2.2.1+1,0,c.2.2.2.2.2+1)) else pure (.yield (none,c.2.1.push z,c.2.2.1,c.2.2.2.1+1,0,c.2.2.2.2.2+1)))
  else elem' a c.2.2.1>>= fun z=>(if (c.2.2.1+1+1 == a.size)=true then pure (.done (some (c.2.1.push z++b.extract c.2.2.2.1++a.extract (c.2.2.1+1)),c.2.1.push z,c.2.2.1+1,c.2.2.2.1,c.2.2.2.2.1+1,0)) else if c.2.2.2.2.1+1 ≥ mg then pure (.done (none,c.2.1.push z,c.2.2.1+1,c.2.2.2.1,c.2.2.2.2.1+1,0)) else pure (.yield (none,c.2.1.push z,c.2.2.1+1,c.2.2.2.1,c.2.2.2.2.1+1,0)))
 | _=>pure (.done (some (c.2.1++a.extract c.2.2.1++b.extract c.2.2.2.1),c.2.1,c.2.2.1,c.2.2.2.1,c.2.2.2.2.1,c.2.2.2.2.2))
def gaLo (a b:Array Keyed):Nat->z_C->StateT SortSt Sem (ForInStep z_C):=fun _ c=>if c.2.2.2.2.1 > 1 then headLo a b c.2.1 c.2.2.1 c.2.2.2.1 (c.2.2.2.2.1-1) c.2.2.2.2.2.1 c.2.2.2.2.2.2 else headLo a b c.2.1 c.2.2.1 c.2.2.2.1 c.2.2.2.2.1 c.2.2.2.2.2.1 c.2.2.2.2.2.2
def outLo (a b:Array Keyed):Nat->z_O->StateT SortSt Sem (ForInStep z_O):=fun _ c=>forIn [:a.size+b.size] ((none,c.2.1,c.2.2.1,c.2.2.2.1,0,0):z_I) (inLo a b c.2.2.2.2)>>= fun d=>match d.1 with
 | some r=>pure (.done (some r,d.2.1,d.2.2.1,d.2.2.2.1,c.2.2.2.2))
 | none=>liftM (PySem.rule "list.sort.gallop")>>= fun _=>forIn [:a.size+b.size] ((none,d.2.1,d.2.2.1,d.2.2.2.1,c.2.2.2.2+1,d.2.2.2.2.1,d.2.2.2.2.2):z_C) (gaLo a b)>>= fun e=>match e.1 with
  | some r=>pure (.done (some r,e.2.1,e.2.2.1,e.2.2.2.1,e.2.2.2.2.1))
  | none=>KP (e.2.2.2.2.1+1)>>= fun _=>pure (.yield (none,e.2.1,e.2.2.1,e.2.2.2.1,e.2.2.2.2.1+1))
def loP (a b:Array Keyed):StateT SortSt Sem (Array Keyed):=liftM (PySem.rule "list.sort.merge-lo")>>= fun _=>elem' b 0>>= fun y=>if (1 == b.size)=true then pure (#[y]++a.extract 0++b.extract 1) else if (0+1 == a.size)=true then pure (#[y]++b.extract 1++a.extract 0) else get>>= fun g=>forIn [:a.size+b.size] ((none,#[y],0,1,gOf g):z_O) (outLo a b)>>= fun d=>match d.1 with
 | some r=>pure r
 | none=>liftM (unsupported "internal:list.sort.merge-bound":Sem (Array Keyed))
theorem loP_eq (a b:Array Keyed):KQ a b=loP a b:=by kernel_rfl
def z_i (ρ:Keyed->Int) (a b:Array Keyed) (st1:SortSt) (N:Nat):Nat->z_I->SortSt->Prop:=fun t c st'=>st'=st1/\∃out ia' ib' ac bc,c=(none,out,ia',ib',ac,bc)/\Jn ρ a b out ia' ib'/\N+t<=ia'+ib'
def z_q (ρ:Keyed->Int) (a b:Array Keyed) (st st1:SortSt) (N:Nat):z_I->SortSt->Prop:=fun c st'=>st'=st1/\((∃r,c.1=some r/\cv ρ a b st r st') ∨ ∃out ia' ib' ac bc,c=(none,out,ia',ib',ac,bc)/\Jn ρ a b out ia' ib'/\N+1<=ia'+ib')
def z_o (ρ:Keyed->Int) (a b:Array Keyed) (st:SortSt):Nat->z_O->SortSt->Prop:=fun x c st'=>Sm st st'/\∃out ia ib mg,c=(none,out,ia,ib,mg)/\Jn ρ a b out ia ib/\x+1<=ia+ib
def z_p (ρ:Keyed->Int) (a b:Array Keyed) (st:SortSt):z_O->SortSt->Prop:=fun c st'=>∃r,c.1=some r/\cv ρ a b st r st'
def z_G (ρ:Keyed->Int) (a b:Array Keyed) (st:SortSt) (N:Nat):z_C->SortSt->Prop:=fun c st'=>Sm st st'/\∃out ia ib mg ac bc,c=(none,out,ia,ib,mg,ac,bc)/\Jn ρ a b out ia ib/\N<=ia+ib
def z_D (ρ:Keyed->Int) (a b:Array Keyed) (st:SortSt) (N:Nat):z_C->SortSt->Prop:=fun c st'=>(∃r,c.1=some r/\cv ρ a b st r st') ∨ z_G ρ a b st N c st'
def stepQ {α:Type} (I Q:α->SortSt->Prop):ForInStep α->SortSt->Prop:=fun r st'=>match r with
 | .done c'=>Q c' st'
 | .yield c'=>I c' st'
theorem wp_inLo (C:eZ prog w A s κ a₀ ρ) {st st1 st':SortSt} (hB:B κ a₀ st) {a b:Array Keyed} {mg N t:Nat} {c:z_I} (ha:∀p∈a.toList,p∈a₀.toList) (hb:∀p∈b.toList,p∈a₀.toList)
  (sa:Le ρ a.toList) (sb:Le ρ b.toList) (S1:Sm st st1) (hz':∀i j,a.size<=i+1->∀x∈b.toList.drop j,∀y∈a.toList.drop i,ρ x<=ρ y) (hI:z_i ρ a b st1 N t c st') :
  wpS (model prog w) A E s (inLo a b mg t c) (stepQ (z_i ρ a b st1 N (t+1)) (z_q ρ a b st st1 N)) st':=by
 obtain ⟨rfl,out,ia',ib',ac,bc,rfl,J',hp'⟩:=hI
 unfold inLo
 dsimp only
 obtain ⟨y,ey⟩:=at_of J'.lb
 obtain ⟨x,ex⟩:=at_of (Nat.lt_of_succ_lt J'.la)
 have la':=J'.la
 have lb':=J'.lb
 refine wpS_bind (zj ey (wpS_bind (zj ex (wpS_bind (pu C (S1.b hB) (hb _ (zC ey)) (ha _ (zC ex)) ?_)))))
 by_cases hless:ρ y<ρ x
 ·simp only [hless,decide_true,if_true]
  refine wpS_bind (zj ey ?_)
  have M1:=J'.mi.pushB ey fun u hu=>by
   obtain ⟨j,j1,j2⟩:=zJ hu
   exact Int.le_trans (Int.le_of_lt hless) (dY sa ex j2 ω)
  by_cases c3:(ib'+1 == b.size)=true
  ·rw [if_pos c3]
   have c3':ib'+1=b.size:=by simpa using c3
   exact wpS_pure ⟨rfl,.inl ⟨_,rfl,S1,M1.fin ω⟩⟩
  ·rw [if_neg c3]
   have c3':ib'+1 ≠ b.size:=by simpa using c3
   split
   ·exact wpS_pure ⟨rfl,.inr ⟨_,_,_,_,_,rfl,⟨M1,J'.la,ω⟩,ω⟩⟩
   ·exact wpS_pure ⟨rfl,_,_,_,_,_,rfl,⟨M1,J'.la,ω⟩,ω⟩
 ·simp only [hless,decide_false,Bool.false_eq_true,if_false]
  refine wpS_bind (zj ex ?_)
  have M1:=J'.mi.pushA ex fun u hu=>by
   obtain ⟨j,j1,j2⟩:=zJ hu
   exact Int.le_trans (Int.not_lt.mp hless) (dY sb ey j2 ω)
  by_cases c3:(ia'+1+1 == a.size)=true
  ·rw [if_pos c3]
   have c3':ia'+1+1=a.size:=by simpa using c3
   exact wpS_pure ⟨rfl,.inl ⟨_,rfl,S1,M1.finL (hz' _ _ ω)⟩⟩
  ·rw [if_neg c3]
   have c3':ia'+1+1 ≠ a.size:=by simpa using c3
   split
   ·exact wpS_pure ⟨rfl,.inr ⟨_,_,_,_,_,rfl,⟨M1,ω,J'.lb⟩,ω⟩⟩
   ·exact wpS_pure ⟨rfl,_,_,_,_,_,rfl,⟨M1,ω,J'.lb⟩,ω⟩
theorem wp_gaLo (C:eZ prog w A s κ a₀ ρ) {st st2:SortSt} (hB:B κ a₀ st) {a b:Array Keyed} {N t:Nat} {c:z_C} {z:Keyed} (ha:∀p∈a.toList,p∈a₀.toList) (hb:∀p∈b.toList,p∈a₀.toList)
  (sa:Le ρ a.toList) (sb:Le ρ b.toList) (ez:a[a.size-1]?=some z) (hz:∀z,a[a.size-1]?=some z->∀y∈b.toList,ρ y<ρ z) (hz':∀i j,a.size<=i+1->∀x∈b.toList.drop j,∀y∈a.toList.drop i,ρ x<=ρ y) (hI:z_G ρ a b st N c st2) :
  wpS (model prog w) A E s (gaLo a b t c) (stepQ (z_G ρ a b st N) (z_D ρ a b st N)) st2:=by
 obtain ⟨S2,out,i,j,mg,ac,bc,rfl,J2,hp2⟩:=hI
 obtain ⟨y,ey⟩:=at_of J2.lb
 have k:∀g,wpS (model prog w) A E s (headLo a b out i j g ac bc) (stepQ (z_G ρ a b st N) (z_D ρ a b st N)) st2:=fun g=>wpS_mono (wp_headLo (N:=N) C hB ha hb sa sb S2 J2 ey ez hz hz' hp2) fun r st' h=>by cases r <;> exact h
 unfold gaLo
 dsimp only
 split
 ·exact k _
 ·exact k _
theorem wp_outLo (C:eZ prog w A s κ a₀ ρ) {st st1:SortSt} (hB:B κ a₀ st) {a b:Array Keyed} {x:Nat} {c:z_O} {z:Keyed} (ha:∀p∈a.toList,p∈a₀.toList) (hb:∀p∈b.toList,p∈a₀.toList)
  (sa:Le ρ a.toList) (sb:Le ρ b.toList) (ez:a[a.size-1]?=some z) (hz:∀z,a[a.size-1]?=some z->∀y∈b.toList,ρ y<ρ z) (hz':∀i j,a.size<=i+1->∀x∈b.toList.drop j,∀y∈a.toList.drop i,ρ x<=ρ y) (hx:x<a.size+b.size) (hI:z_o ρ a b st x c st1) :
  wpS (model prog w) A E s (outLo a b x c) (stepQ (z_o ρ a b st (x+1)) (z_p ρ a b st)) st1:=by
 obtain ⟨S1,out,ia,ib,mg,rfl,J,hp⟩:=hI
 unfold outLo
 dsimp only
 refine wpS_bind (wpS_mono (wpS_forRange (I:=z_i ρ a b st1 (ia+ib)) (Q:=z_q ρ a b st st1 (ia+ib)) (fun t c st' _ ht hI=>wpS_mono (wp_inLo C hB ha hb sa sb S1 hz' hI) fun r st' h=>by cases r <;> exact h) ?ifin ⟨rfl,_,_,_,_,_,rfl,J,ω⟩) ?ipost)
 case ifin =>
  rintro c st' ⟨rfl,out,ia',ib',ac,bc,rfl,J',hp'⟩
  exact ⟨rfl,.inr ⟨_,_,_,_,_,rfl,J',ω⟩⟩
 case ipost =>
  rintro ⟨c1,c2⟩ st' ⟨rfl,⟨r,e,q⟩ | ⟨out,ia',ib',ac,bc,e,J',hp'⟩⟩
  ·dsimp only at e ⊢
   subst e
   exact wpS_pure ⟨r,rfl,q⟩
  ·cases e
   dsimp only
   refine wpS_bind (wpS_lift (wpAny_rule ⟨rfl,?_⟩))
   refine wpS_bind (wpS_mono (wpS_forRange (I:=fun _=>z_G ρ a b st (ia'+ib')) (Q:=z_D ρ a b st (ia'+ib')) (fun t c st' _ ht hI=>wpS_mono (wp_gaLo C hB ha hb sa sb ez hz hz' hI) fun r st' h=>by cases r <;> exact h) ?gfin ⟨S1,_,_,_,_,_,_,rfl,J',Nat.le_refl _⟩) ?gpost)
   case gfin =>
    rintro c st' q
    exact .inr q
   case gpost =>
    rintro ⟨c1,c2⟩ st' (⟨r,e,q⟩ | ⟨S2,out,ia'',ib'',mg,ac,bc,e,J2,hp2⟩)
    ·dsimp only at e ⊢
     subst e
     exact wpS_pure ⟨r,rfl,q⟩
    ·cases e
     dsimp only
     exact wpS_bind (nj fun st3 S3=>wpS_pure ⟨S2.trans S3,_,_,_,_,rfl,J2,ω⟩)
theorem KS (C:eZ prog w A s κ a₀ ρ) {st:SortSt} (hB:B κ a₀ st) {a b:Array Keyed} {Q:Array Keyed->SortSt->Prop} (ha:∀p∈a.toList,p∈a₀.toList) (hb:∀p∈b.toList,p∈a₀.toList)
  (sa:Le ρ a.toList) (sb:Le ρ b.toList) (na:1<=a.size) (nb:1<=b.size) (h0:∀x∈a.toList,∀y,b[0]?=some y->ρ y<=ρ x) (hz:∀z,a[a.size-1]?=some z->∀y∈b.toList,ρ y<ρ z)
  (h:∀r st',cv ρ a b st r st'->Q r st'):wpS (model prog w) A E s (KQ a b) Q st:=by
 obtain ⟨z,ez⟩:=at_of (xs:=a) (i:=a.size-1) ω
 have hz':∀i j,a.size<=i+1->∀x∈b.toList.drop j,∀y∈a.toList.drop i,ρ x<=ρ y:=fun i j hi x hx y hy=>by
  obtain ⟨k,k1,k2⟩:=zJ hy
  rw [show i+k=a.size-1 from ω,ez] at k2
  cases k2
  exact Int.le_of_lt (hz _ ez x (List.mem_of_mem_drop hx))
 rw [loP_eq]
 unfold loP
 refine wpS_bind (wpS_lift (wpAny_rule ⟨rfl,?_⟩))
 obtain ⟨y0,e0⟩:=at_of (xs:=b) (i:=0) ω
 refine wpS_bind (zj e0 ?_)
 have M0:MI ρ a.toList b.toList (#[y0]:Array Keyed).toList (a.toList.drop 0) (b.toList.drop 1):=by
  have q:MI ρ a.toList b.toList (#[]:Array Keyed).toList (a.toList.drop 0) (b.toList.drop 0):=⟨by simp,by simp,by simpa using sa,by simpa using sb,by simp,by simp⟩
  exact q.pushB e0 fun x hx=>h0 x (by simpa using hx) y0 e0

 by_cases c1:(1 == b.size)=true
 ·rw [if_pos c1]
  have c1':1=b.size:=by simpa using c1
  exact wpS_pure (h _ _ ⟨.refl,M0.fin ω⟩)
 rw [if_neg c1]
 have c1':1 ≠ b.size:=by simpa using c1
 by_cases c2:(0+1 == a.size)=true
 ·rw [if_pos c2]
  have c2':0+1=a.size:=by simpa using c2
  exact wpS_pure (h _ _ ⟨.refl,M0.finL (hz' 0 1 ω)⟩)
 rw [if_neg c2]
 have c2':0+1 ≠ a.size:=by simpa using c2
 refine wpS_bind (wpS_get ?_)
 refine wpS_bind (wpS_mono (wpS_forRange (I:=z_o ρ a b st) (Q:=z_p ρ a b st) (fun x c st1 _ hx hI=>wpS_mono (wp_outLo C hB ha hb sa sb ez hz hz' ω hI) fun r st' h=>by cases r <;> exact h) ?fin ⟨.refl,_,0,1,_,rfl,⟨M0,ω,ω⟩,ω⟩) ?post)
 case post =>
  rintro ⟨c1,c2⟩ st' ⟨r,e,q⟩
  dsimp only at e ⊢
  subst e
  exact wpS_pure (h _ _ q)
 case fin =>
  rintro c st' ⟨_,out,ia,ib,mg,_,J,hx⟩
  have:=J.la; have:=J.lb
  (first|lia|omega)
end
structure MH(ρ:Keyed->Int)(la lb ra rb o:List Keyed):Prop where
 perm:((ra++rb)++o).Perm (la++lb)
 so:Le ρ o
 sa:Le ρ ra
 sb:Le ρ rb
 ao:∀x∈ra,∀y∈o,ρ x<=ρ y
 bo:∀x∈rb,∀y∈o,ρ x<=ρ y
def MH.takeA{ρ:Keyed->Int}{f g i c a o:List Keyed}(h:MH ρ f g (i++c) a o)(hb:∀y∈a,∀x∈c,ρ y<=ρ x):MH ρ f g i a (c++o):=by
 obtain⟨p,j,l,q,e,r⟩:=h;have d:=List.pairwise_append.mp l;refine⟨?_,List.pairwise_append.mpr ⟨d.2.1,j,fun x hx y hy=>e x (Az _ hx) y hy⟩,d.1,q,fun x hx y hy=>?_,fun x hx y hy=>?_⟩
 ·refine List.Perm.trans ?_ p
  simp only[AG];refine List.Perm.append_left _ ?_;rw[<-AG,<-AG];exact List.Perm.append_right _ List.perm_append_comm
 ·rcases List.mem_append.mp hy with hy|hy
  ·exact d.2.2 x hx y hy
  ·exact e x (Aw _ hx) y hy
 ·rcases List.mem_append.mp hy with hy|hy
  ·exact hb x hx y hy
  ·exact r x hx y hy
def MH.takeB{ρ:Keyed->Int}{f g a c i o:List Keyed}(h:MH ρ f g a (i++c) o)(hb:∀y∈a,∀x∈c,ρ y<=ρ x):MH ρ f g a i (c++o):=by
 obtain⟨p,j,l,q,r,e⟩:=h;have d:=List.pairwise_append.mp q;refine⟨by simpa[AG] using p,List.pairwise_append.mpr ⟨d.2.1,j,fun x hx y hy=>e x (Az _ hx) y hy⟩,l,d.1,fun x hx y hy=>?_,fun x hx y hy=>?_⟩
 ·rcases List.mem_append.mp hy with hy|hy
  ·exact hb x hx y hy
  ·exact r x hx y hy
 ·rcases List.mem_append.mp hy with hy|hy
  ·exact d.2.2 x hx y hy
  ·exact e x (Aw _ hx) y hy
def MH.doneA{ρ:Keyed->Int}{d f a c o:List Keyed}(h:MH ρ d f a c o)(e:a=[]):((a++c)++o).Perm (d++f)/\Le ρ ((a++c)++o):=by
 subst e;exact⟨h.perm,List.pairwise_append.mpr ⟨h.sb,h.so,h.bo⟩⟩
def MH.firstB{ρ:Keyed->Int}{d e c a o:List Keyed}(h:MH ρ d e c a o)(hz:∀x∈a,∀y∈c,ρ x<=ρ y):((a++c)++o).Perm (d++e)/\Le ρ ((a++c)++o):=by
 have h2:=(show MH ρ d e ([]++c) a o from h).takeA hz;refine⟨by simpa[AG] using (List.Perm.append_right o (List.perm_append_comm (l₁:=a) (l₂:=c))).trans h.perm,?_⟩;rw[AG];exact List.pairwise_append.mpr ⟨h2.sb,h2.so,h2.bo⟩
def GF{xs:Array Keyed}{i:Nat}{p:Keyed}(h:xs[i]?=some p):xs.toList.take (i+1)=xs.toList.take i++[p]:=by
 have h':xs.toList[i]?=some p:=by simpa using h
 rw[List.take_add_one,h']
 rfl
def GG{xs:Array Keyed}{i k:Nat}(h:i<=k):xs.toList.take k=xs.toList.take i++(xs.extract i k).toList:=by
 rw[Array.toList_extract,List.extract_eq_drop_take];have e:xs.toList.take k=(xs.toList.take k).take i++(xs.toList.take k).drop i:=(List.take_append_drop i _).symm;rw[List.take_take,List.drop_take,Nat.min_eq_left h] at e;exact e
def zI{xs:Array Keyed}{i:Nat}{y:Keyed}(h:y∈xs.toList.take i):∃j,j<i/\j<xs.size/\xs[j]?=some y:=by
 obtain⟨j,a,e⟩:=List.mem_iff_getElem.mp h;rw[Av,Ax] at a;refine⟨j,ω,ω,?_⟩;rw[List.getElem_take] at e;rw[getElem?_pos xs j ω,<-e];simp
def jw{xs:Array Keyed}{i k:Nat}{y:Keyed}(h:y∈(xs.extract i k).toList):∃j,i<=j/\j<k/\j<xs.size/\xs[j]?=some y:=by
 obtain⟨j,a,e⟩:=List.mem_iff_getElem.mp h;rw[Ax,Array.size_extract] at a;refine⟨i+j,ω,ω,ω,?_⟩;rw[getElem?_pos xs (i+j) ω,<-e];simp
def sS(xs:Array Keyed)(i:Nat):(xs.extract 0 i).toList=xs.toList.take i:=by
 rw[Array.toList_extract,List.extract_eq_drop_take];simp
section
variable{prog:Program}{w:World}{A:Around}{E:Ω}{s:Shared}{κ:SortKind}{a₀:Array Keyed}{ρ:Keyed->Int}
abbrev d_(ρ:Keyed->Int)(a b out:Array Keyed)(na nb:Nat):Prop:=MH ρ a.toList b.toList (a.toList.take na) (b.toList.take nb) out.toList.reverse
structure Jh(ρ:Keyed->Int)(a b out:Array Keyed)(na nb:Nat):Prop where
 mi:d_ ρ a b out na nb
 la:1<=na
 lb:2<=nb
 za:na<=a.size
 zb:nb<=b.size
def MH.pushA{ρ:Keyed->Int}{a b out:Array Keyed}{c d:Nat}{x:Keyed}(h:d_ ρ a b out c d)(g:1<=c)(e:a[c-1]?=some x)(hy:∀y∈b.toList.take d,ρ y<=ρ x):d_ ρ a b (out.push x) (c-1) d:=by
 obtain⟨n,rfl⟩:∃n,c=n+1:=⟨c-1,ω⟩;rw[Nat.add_sub_cancel] at e ⊢;unfold d_ at *;rw[GF e] at h;rw[Array.toList_push,List.reverse_append];exact h.takeA fun y f z hz=>by rw[List.mem_singleton.mp hz];exact hy y f
def MH.pushB{ρ:Keyed->Int}{a b out:Array Keyed}{d c:Nat}{x:Keyed}(h:d_ ρ a b out d c)(g:1<=c)(e:b[c-1]?=some x)(hy:∀y∈a.toList.take d,ρ y<=ρ x):d_ ρ a b (out.push x) d (c-1):=by
 obtain⟨n,rfl⟩:∃n,c=n+1:=⟨c-1,ω⟩;rw[Nat.add_sub_cancel] at e ⊢;unfold d_ at *;rw[GF e] at h;rw[Array.toList_push,List.reverse_append];exact h.takeB fun y f z hz=>by rw[List.mem_singleton.mp hz];exact hy y f
def MH.blkA{ρ:Keyed->Int}{a b out:Array Keyed}{c d:Nat}(k:Nat)(hk:k<=c)(h:d_ ρ a b out c d)(hy:∀y∈b.toList.take d,∀x∈(a.extract k c).toList,ρ y<=ρ x):d_ ρ a b (out++(a.extract k c).reverse) k d:=by
 unfold d_ at *;rw[GG hk] at h;rw[A3,List.reverse_append,Array.toList_reverse,List.reverse_reverse];exact h.takeA hy
def MH.blkB{ρ:Keyed->Int}{a b out:Array Keyed}{d c:Nat}(k:Nat)(hk:k<=c)(h:d_ ρ a b out d c)(hy:∀y∈a.toList.take d,∀x∈(b.extract k c).toList,ρ y<=ρ x):d_ ρ a b (out++(b.extract k c).reverse) d k:=by
 unfold d_ at *;rw[GG hk] at h;rw[A3,List.reverse_append,Array.toList_reverse,List.reverse_reverse];exact h.takeB hy
def MH.fin{ρ:Keyed->Int}{a b out:Array Keyed}{c d:Nat}(h:d_ ρ a b out c d)(e:c=0):(a.extract 0 c++b.extract 0 d++out.reverse).toList.Perm (a.toList++b.toList)/\Le ρ (a.extract 0 c++b.extract 0 d++out.reverse).toList:=by
 rw[A3,A3,sS,sS,Array.toList_reverse];exact MH.doneA h (by rw[e];rfl)
def MH.finB{ρ:Keyed->Int}{a b out:Array Keyed}{d c:Nat}(h:d_ ρ a b out d c)(hz:∀x∈b.toList.take c,∀y∈a.toList.take d,ρ x<=ρ y):(b.extract 0 c++a.extract 0 d++out.reverse).toList.Perm (a.toList++b.toList)/\Le ρ (b.extract 0 c++a.extract 0 d++out.reverse).toList:=by
 rw[A3,A3,sS,sS,Array.toList_reverse];exact MH.firstB h hz
abbrev z_T:=Option (Array Keyed) × Nat × Nat × Array Keyed × Nat × Nat × Nat
abbrev z_H:=Option (Array Keyed) × Nat × Nat × Array Keyed × Nat × Nat
abbrev z_h:=Option (Array Keyed) × Nat × Nat × Array Keyed × Nat
def tailHi (a b o:Array Keyed) (i j mg k l:Nat):StateT SortSt Sem (ForInStep z_T):=elem' a (i-1)>>= fun z=>if (i-1 == 0)=true then pure (.done (some (a.extract 0 (i-1)++b.extract 0 j++(o.push z).reverse),i-1,j,o.push z,mg,k,l)) else if (decide (k<7) && decide (l<7))=true then pure (.done (none,i-1,j,o.push z,mg,k,l)) else pure (.yield (none,i-1,j,o.push z,mg,k,l))
def midHi (a b o:Array Keyed) (i j mg k bc:Nat):StateT SortSt Sem (ForInStep z_T):=elem' b (j-1)>>= fun y=>if (j-1 == 1)=true then pure (.done (some (b.extract 0 (j-1)++a.extract 0 i++(o.push y).reverse),i,j-1,o.push y,mg,k,bc)) else elem' a (i-1)>>= fun x=>iw true x b 0 (j-1) (j-1-1)>>= fun g=>match g with
 | some l=>if j-1-l > 0 then (if (l == 1)=true then pure (.done (some (b.extract 0 l++a.extract 0 i++(o.push y++(b.extract l (j-1)).reverse).reverse),i,l,o.push y++(b.extract l (j-1)).reverse,mg,k,j-1-l)) else if (l == 0)=true then pure (.done (some (a.extract 0 i++b.extract 0 l++(o.push y++(b.extract l (j-1)).reverse).reverse),i,l,o.push y++(b.extract l (j-1)).reverse,mg,k,j-1-l)) else tailHi a b (o.push y++(b.extract l (j-1)).reverse) i l mg k (j-1-l)) else tailHi a b (o.push y) i (j-1) mg k (j-1-l)
 | _=>pure (.done (some (a.extract 0 i++b.extract 0 (j-1)++(o.push y).reverse),i,j-1,o.push y,mg,k,bc))
def headHi (a b o:Array Keyed) (i j mg ac bc:Nat):StateT SortSt Sem (ForInStep z_T):=KP mg>>= fun _=>elem' b (j-1)>>= fun y=>iw false y a 0 i (i-1)>>= fun g=>match g with
 | some k=>if i-k > 0 then (if (k == 0)=true then pure (.done (some (a.extract 0 k++b.extract 0 j++(o++(a.extract k i).reverse).reverse),k,j,o++(a.extract k i).reverse,mg,i-k,bc)) else midHi a b (o++(a.extract k i).reverse) k j mg (i-k) bc) else midHi a b o i j mg (i-k) bc
 | _=>pure (.done (some (a.extract 0 i++b.extract 0 j++o.reverse),i,j,o,mg,ac,bc))
def inHi (a b:Array Keyed) (mg:Nat):Nat->z_H->StateT SortSt Sem (ForInStep z_H):=fun _ c=>elem' b (c.2.2.1-1)>>= fun y=>elem' a (c.2.1-1)>>= fun x=>lt' y x>>= fun q=>match q with
 | some r=>if r=true then elem' a (c.2.1-1)>>= fun z=>(if (c.2.1-1 == 0)=true then pure (.done (some (a.extract 0 (c.2.1-1)++b.extract 0 c.2.2.1++(c.2.2.2.1.push z).reverse),c.2.1-1,c.2.2.1,c.2.2.2.1.push z,c.2.2.2.2.1+1,0)) else if c.2.2.2.2.1+1 ≥ mg then pure (.done (none,c.2.1-1,c.2.2.1,c.2.2.2.1.push z,c.2.2.2.2.1+1,0)) else pure (.yield (none,c.2.1-1,c.2.2.1,c.2.2.2.1.push z,c.2.2.2.2.1+1,0)))
  else elem' b (c.2.2.1-1)>>= fun z=>(if (c.2.2.1-1 == 1)=true then pure (.done (some (b.extract 0 (c.2.2.1-1)++a.extract 0 c.2.1++(c.2.2.2.1.push z).reverse),c.2.1,c.2.2.1-1,c.2.2.2.1.push z,0,c.2.2.2.2.2+1)) else if c.2.2.2.2.2+1 ≥ mg then pure (.done (none,c.2.1,c.2.2.1-1,c.2.2.2.1.push z,0,c.2.2.2.2.2+1)) else pure (.yield (none,c.2.1,c.2.2.1-1,c.2.2.2.1.push z,0,c.2.2.2.2.2+1)))
 | _=>pure (.done (some (a.extract 0 c.2.1++b.extract 0 c.2.2.1++c.2.2.2.1.reverse),c.2.1,c.2.2.1,c.2.2.2.1,c.2.2.2.2.1,c.2.2.2.2.2))
def gaHi (a b:Array Keyed):Nat->z_T->StateT SortSt Sem (ForInStep z_T):=fun _ c=>if c.2.2.2.2.1 > 1 then headHi a b c.2.2.2.1 c.2.1 c.2.2.1 (c.2.2.2.2.1-1) c.2.2.2.2.2.1 c.2.2.2.2.2.2 else headHi a b c.2.2.2.1 c.2.1 c.2.2.1 c.2.2.2.2.1 c.2.2.2.2.2.1 c.2.2.2.2.2.2
def outHi (a b:Array Keyed):Nat->z_h->StateT SortSt Sem (ForInStep z_h):=fun _ c=>forIn [:a.size+b.size] ((none,c.2.1,c.2.2.1,c.2.2.2.1,0,0):z_H) (inHi a b c.2.2.2.2)>>= fun d=>match d.1 with
 | some r=>pure (.done (some r,d.2.1,d.2.2.1,d.2.2.2.1,c.2.2.2.2))
 | none=>liftM (PySem.rule "list.sort.gallop")>>= fun _=>forIn [:a.size+b.size] ((none,d.2.1,d.2.2.1,d.2.2.2.1,c.2.2.2.2+1,d.2.2.2.2.1,d.2.2.2.2.2):z_T) (gaHi a b)>>= fun e=>match e.1 with
  | some r=>pure (.done (some r,e.2.1,e.2.2.1,e.2.2.2.1,e.2.2.2.2.1))
  | none=>KP (e.2.2.2.2.1+1)>>= fun _=>pure (.yield (none,e.2.1,e.2.2.1,e.2.2.2.1,e.2.2.2.2.1+1))
def hiP (a b:Array Keyed):StateT SortSt Sem (Array Keyed):=liftM (PySem.rule "list.sort.merge-hi")>>= fun _=>elem' a (a.size-1)>>= fun y=>if (a.size-1 == 0)=true then pure (a.extract 0 (a.size-1)++b.extract 0 b.size++#[y].reverse) else if (b.size == 1)=true then pure (b.extract 0 b.size++a.extract 0 (a.size-1)++#[y].reverse) else get>>= fun g=>forIn [:a.size+b.size] ((none,a.size-1,b.size,#[y],gOf g):z_h) (outHi a b)>>= fun d=>match d.1 with
 | some r=>pure r
 | none=>liftM (unsupported "internal:list.sort.merge-bound":Sem (Array Keyed))
theorem hiP_eq (a b:Array Keyed):KR a b=hiP a b:=by kernel_rfl
def IIh (ρ:Keyed->Int) (a b:Array Keyed) (st1:SortSt) (N:Nat):Nat->z_H->SortSt->Prop:=fun t c st'=>st'=st1/\∃ia' ib' out ac bc,c=(none,ia',ib',out,ac,bc)/\Jh ρ a b out ia' ib'/\t+(ia'+ib')<=N
def IQh (ρ:Keyed->Int) (a b:Array Keyed) (st st1:SortSt) (N:Nat):z_H->SortSt->Prop:=fun c st'=>st'=st1/\((∃r,c.1=some r/\cv ρ a b st r st') ∨ ∃ia' ib' out ac bc,c=(none,ia',ib',out,ac,bc)/\Jh ρ a b out ia' ib'/\1+(ia'+ib')<=N)
def OIh (ρ:Keyed->Int) (a b:Array Keyed) (st:SortSt):Nat->z_h->SortSt->Prop:=fun x c st'=>Sm st st'/\∃na nb out mg,c=(none,na,nb,out,mg)/\Jh ρ a b out na nb/\x+1+(na+nb)<=a.size+b.size
def OQh (ρ:Keyed->Int) (a b:Array Keyed) (st:SortSt):z_h->SortSt->Prop:=fun c st'=>∃r,c.1=some r/\cv ρ a b st r st'
def GIh (ρ:Keyed->Int) (a b:Array Keyed) (st:SortSt) (N:Nat):z_T->SortSt->Prop:=fun c st'=>Sm st st'/\∃ia ib out mg ac bc,c=(none,ia,ib,out,mg,ac,bc)/\Jh ρ a b out ia ib/\ia+ib<=N
def GDh (ρ:Keyed->Int) (a b:Array Keyed) (st:SortSt) (N:Nat):z_T->SortSt->Prop:=fun c st'=>(∃r,c.1=some r/\cv ρ a b st r st') ∨ GIh ρ a b st N c st'
theorem wp_tailHi {st st3:SortSt} {a b o:Array Keyed} {i j mg k l N:Nat} {x:Keyed} (S:Sm st st3) (M:d_ ρ a b o i j) (ex:a[i-1]?=some x) (aft:∀y∈b.toList.take j,ρ y<=ρ x)
  (h1:1<=i) (h2:2<=j) (h3:i<=a.size) (h4:j<=b.size) (hN:i+j<=N):wpS (model prog w) A E s (tailHi a b o i j mg k l) (stepQ (GIh ρ a b st N) (GDh ρ a b st N)) st3:=by
 refine wpS_bind (zj ex ?_)
 have M4:=MH.pushA M h1 ex aft
 by_cases c6:(i-1 == 0)=true
 ·rw [if_pos c6]
  have c6':i-1=0:=by simpa using c6
  exact wpS_pure (.inl ⟨_,rfl,S,MH.fin M4 ω⟩)
 rw [if_neg c6]
 have c6':i-1 ≠ 0:=by simpa using c6
 by_cases c7:(decide (k<7) && decide (l<7))=true
 ·rw [if_pos c7]
  exact wpS_pure (.inr ⟨S,_,_,_,_,_,_,rfl,⟨M4,ω,ω,ω,ω⟩,ω⟩)
 ·rw [if_neg c7]
  exact wpS_pure ⟨S,_,_,_,_,_,_,rfl,⟨M4,ω,ω,ω,ω⟩,ω⟩
theorem wp_midHi (C:eZ prog w A s κ a₀ ρ) {st st3:SortSt} (hB:B κ a₀ st) {a b o:Array Keyed} {i j mg k bc N:Nat} {y y0:Keyed} (ha:∀p∈a.toList,p∈a₀.toList) (hb:∀p∈b.toList,p∈a₀.toList)
  (sa:Le ρ a.toList) (sb:Le ρ b.toList) (S:Sm st st3) (M:d_ ρ a b o i j) (ey:b[j-1]?=some y) (after:∀x∈a.toList.take i,ρ x<=ρ y) (e0:b[0]?=some y0) (h0:∀x∈a.toList,∀y,b[0]?=some y->ρ y<ρ x)
  (hz':∀i j,j<=1->∀x∈b.toList.take j,∀y∈a.toList.take i,ρ x<=ρ y) (h1:1<=i) (h2:2<=j) (h3:i<=a.size) (h4:j<=b.size) (hN:i+j<=N):wpS (model prog w) A E s (midHi a b o i j mg k bc) (stepQ (GIh ρ a b st N) (GDh ρ a b st N)) st3:=by
 refine wpS_bind (zj ey ?_)
 have M2:=MH.pushB M ω ey after
 by_cases c4:(j-1 == 1)=true
 ·rw [if_pos c4]
  have c4':j-1=1:=by simpa using c4
  exact wpS_pure (.inl ⟨_,rfl,S,MH.finB M2 (hz' _ _ ω)⟩)
 rw [if_neg c4]
 have c4':j-1 ≠ 1:=by simpa using c4
 obtain ⟨x,ex⟩:=at_of (xs:=a) (i:=i-1) ω
 refine wpS_bind (zj ex ?_)
 refine wpS_bind (zO C (S.b hB) (ha _ (zC ex)) (fun l hl=>?_) (fun l m h1 h2=>c8 sb ω ω) ω fun l l1 l2 l3=>?_)
 ·obtain ⟨p,e⟩:=at_of (xs:=b) (i:=0+l) ω
  exact ⟨p,e,hb _ (zC e)⟩
 dsimp only
 have lz:1<=l:=by
  rcases Nat.lt_or_ge 0 l with q | q
  ·exact q
  ·have q1:=l3 0 ω ω
   rw [aV e0] at q1
   have q2:=h0 x (zC ex) y0 e0
   simp [bv] at q1
   (first|lia|omega)
 have aft:∀y∈b.toList.take l,ρ y<=ρ x:=fun u hu=>by
  obtain ⟨d,d1,d2,d3⟩:=zI hu
  have q1:=l2 d d1
  rw [Nat.zero_add,aV d3] at q1
  simp [bv] at q1
  (first|lia|omega)
 by_cases hl0:j-1-l > 0
 ·rw [if_pos hl0]
  have M3:=MH.blkB l ω M2 fun v hv u hu=>by
   obtain ⟨d,d1,d2,d3,d4⟩:=jw hu
   obtain ⟨f,f1,f2,f3⟩:=zI hv
   have q1:=l3 d d1 d2
   rw [Nat.zero_add,aV d4] at q1
   simp [bv] at q1
   exact Int.le_trans (dY sa f3 ex ω) ω
  by_cases c5:(l == 1)=true
  ·rw [if_pos c5]
   have c5':l=1:=by simpa using c5
   exact wpS_pure (.inl ⟨_,rfl,S,MH.finB M3 (hz' _ _ ω)⟩)
  rw [if_neg c5]
  have c5':l ≠ 1:=by simpa using c5
  rw [if_neg (show ¬ (l == 0)=true by simp;(first|lia|omega))]
  exact wp_tailHi S M3 ex aft h1 ω h3 ω ω
 ·rw [if_neg hl0]
  have l0:l=j-1:=ω
  rw [l0] at aft
  exact wp_tailHi S M2 ex aft h1 ω h3 ω ω
theorem wp_headHi (C:eZ prog w A s κ a₀ ρ) {st st2:SortSt} (hB:B κ a₀ st) {a b out:Array Keyed} {i j mg ac bc N:Nat} {y y0:Keyed} (ha:∀p∈a.toList,p∈a₀.toList) (hb:∀p∈b.toList,p∈a₀.toList)
  (sa:Le ρ a.toList) (sb:Le ρ b.toList) (S2:Sm st st2) (J2:Jh ρ a b out i j) (ey:b[j-1]?=some y) (e0:b[0]?=some y0) (h0:∀x∈a.toList,∀y,b[0]?=some y->ρ y<ρ x)
  (hz':∀i j,j<=1->∀x∈b.toList.take j,∀y∈a.toList.take i,ρ x<=ρ y) (hp2:i+j<=N):wpS (model prog w) A E s (headHi a b out i j mg ac bc) (stepQ (GIh ρ a b st N) (GDh ρ a b st N)) st2:=by
 have la2:=J2.la
 have lb2:=J2.lb
 have za2:=J2.za
 have zb2:=J2.zb
 refine wpS_bind (nj fun st3 S3=>?_)
 refine wpS_bind (zj ey ?_)
 refine wpS_bind (zO C ((S2.trans S3).b hB) (hb _ (zC ey)) (fun k hk=>?_) (fun k l h1 h2=>c8 sa ω ω) ω fun k k1 k2 k3=>?_)
 ·obtain ⟨p,e⟩:=at_of (xs:=a) (i:=0+k) ω
  exact ⟨p,e,ha _ (zC e)⟩
 dsimp only
 have after:∀x∈a.toList.take k,ρ x<=ρ y:=fun u hu=>by
  obtain ⟨d,d1,d2,d3⟩:=zI hu
  have q1:=k2 d d1
  rw [Nat.zero_add,aV d3] at q1
  simp [bv] at q1
  (first|lia|omega)
 by_cases hk0:i-k > 0
 ·rw [if_pos hk0]
  have MB:=MH.blkA k k1 J2.mi fun v hv u hu=>by
   obtain ⟨d,d1,d2,d3,d4⟩:=jw hu
   obtain ⟨f,f1,f2,f3⟩:=zI hv
   have q1:=k3 d d1 d2
   rw [Nat.zero_add,aV d4] at q1
   simp [bv] at q1
   exact Int.le_trans (dY sb f3 ey ω) ω
  by_cases c3:(k == 0)=true
  ·rw [if_pos c3]
   have c3':k=0:=by simpa using c3
   exact wpS_pure (.inl ⟨_,rfl,S2.trans S3,MH.fin MB c3'⟩)
  rw [if_neg c3]
  have c3':k ≠ 0:=by simpa using c3
  exact wp_midHi C hB ha hb sa sb (S2.trans S3) MB ey after e0 h0 hz' ω lb2 ω zb2 ω
 ·rw [if_neg hk0]
  have k0:k=i:=ω
  rw [k0] at after
  exact wp_midHi C hB ha hb sa sb (S2.trans S3) J2.mi ey after e0 h0 hz' la2 lb2 za2 zb2 hp2
theorem wp_inHi (C:eZ prog w A s κ a₀ ρ) {st st1 st':SortSt} (hB:B κ a₀ st) {a b:Array Keyed} {mg N t:Nat} {c:z_H} (ha:∀p∈a.toList,p∈a₀.toList) (hb:∀p∈b.toList,p∈a₀.toList)
  (sa:Le ρ a.toList) (sb:Le ρ b.toList) (S1:Sm st st1) (hz':∀i j,j<=1->∀x∈b.toList.take j,∀y∈a.toList.take i,ρ x<=ρ y) (hI:IIh ρ a b st1 N t c st') :
  wpS (model prog w) A E s (inHi a b mg t c) (stepQ (IIh ρ a b st1 N (t+1)) (IQh ρ a b st st1 N)) st':=by
 obtain ⟨rfl,ia',ib',out,ac,bc,rfl,J',hp'⟩:=hI
 unfold inHi
 dsimp only
 have la':=J'.la
 have lb':=J'.lb
 have za':=J'.za
 have zb':=J'.zb
 obtain ⟨y,ey⟩:=at_of (xs:=b) (i:=ib'-1) ω
 obtain ⟨x,ex⟩:=at_of (xs:=a) (i:=ia'-1) ω
 refine wpS_bind (zj ey (wpS_bind (zj ex (wpS_bind (pu C (S1.b hB) (hb _ (zC ey)) (ha _ (zC ex)) ?_)))))
 by_cases hless:ρ y<ρ x
 ·simp only [hless,decide_true,if_true]
  refine wpS_bind (zj ex ?_)
  have M1:=MH.pushA J'.mi la' ex fun u hu=>by
   obtain ⟨j,j1,j2,j3⟩:=zI hu
   exact Int.le_trans (dY sb j3 ey ω) (Int.le_of_lt hless)
  by_cases c3:(ia'-1 == 0)=true
  ·rw [if_pos c3]
   have c3':ia'-1=0:=by simpa using c3
   exact wpS_pure ⟨rfl,.inl ⟨_,rfl,S1,MH.fin M1 ω⟩⟩
  ·rw [if_neg c3]
   have c3':ia'-1 ≠ 0:=by simpa using c3
   split
   ·exact wpS_pure ⟨rfl,.inr ⟨_,_,_,_,_,rfl,⟨M1,ω,lb',ω,zb'⟩,ω⟩⟩
   ·exact wpS_pure ⟨rfl,_,_,_,_,_,rfl,⟨M1,ω,lb',ω,zb'⟩,ω⟩
 ·simp only [hless,decide_false,Bool.false_eq_true,if_false]
  refine wpS_bind (zj ey ?_)
  have M1:=MH.pushB J'.mi ω ey fun u hu=>by
   obtain ⟨j,j1,j2,j3⟩:=zI hu
   exact Int.le_trans (dY sa j3 ex ω) (Int.not_lt.mp hless)
  by_cases c3:(ib'-1 == 1)=true
  ·rw [if_pos c3]
   have c3':ib'-1=1:=by simpa using c3
   exact wpS_pure ⟨rfl,.inl ⟨_,rfl,S1,MH.finB M1 (hz' _ _ ω)⟩⟩
  ·rw [if_neg c3]
   have c3':ib'-1 ≠ 1:=by simpa using c3
   split
   ·exact wpS_pure ⟨rfl,.inr ⟨_,_,_,_,_,rfl,⟨M1,la',ω,za',ω⟩,ω⟩⟩
   ·exact wpS_pure ⟨rfl,_,_,_,_,_,rfl,⟨M1,la',ω,za',ω⟩,ω⟩
theorem wp_gaHi (C:eZ prog w A s κ a₀ ρ) {st st2:SortSt} (hB:B κ a₀ st) {a b:Array Keyed} {N t:Nat} {c:z_T} {y0:Keyed} (ha:∀p∈a.toList,p∈a₀.toList) (hb:∀p∈b.toList,p∈a₀.toList)
  (sa:Le ρ a.toList) (sb:Le ρ b.toList) (e0:b[0]?=some y0) (h0:∀x∈a.toList,∀y,b[0]?=some y->ρ y<ρ x) (hz':∀i j,j<=1->∀x∈b.toList.take j,∀y∈a.toList.take i,ρ x<=ρ y) (hI:GIh ρ a b st N c st2) :
  wpS (model prog w) A E s (gaHi a b t c) (stepQ (GIh ρ a b st N) (GDh ρ a b st N)) st2:=by
 obtain ⟨S2,i,j,out,mg,ac,bc,rfl,J2,hp2⟩:=hI
 have lb2:=J2.lb
 have zb2:=J2.zb
 obtain ⟨y,ey⟩:=at_of (xs:=b) (i:=j-1) ω
 have k:∀g,wpS (model prog w) A E s (headHi a b out i j g ac bc) (stepQ (GIh ρ a b st N) (GDh ρ a b st N)) st2:=fun g=>wp_headHi (N:=N) C hB ha hb sa sb S2 J2 ey e0 h0 hz' hp2
 unfold gaHi
 dsimp only
 split
 ·exact k _
 ·exact k _
theorem wp_outHi (C:eZ prog w A s κ a₀ ρ) {st st1:SortSt} (hB:B κ a₀ st) {a b:Array Keyed} {x:Nat} {c:z_h} {y0:Keyed} (ha:∀p∈a.toList,p∈a₀.toList) (hb:∀p∈b.toList,p∈a₀.toList)
  (sa:Le ρ a.toList) (sb:Le ρ b.toList) (e0:b[0]?=some y0) (h0:∀x∈a.toList,∀y,b[0]?=some y->ρ y<ρ x) (hz':∀i j,j<=1->∀x∈b.toList.take j,∀y∈a.toList.take i,ρ x<=ρ y) (hI:OIh ρ a b st x c st1) :
  wpS (model prog w) A E s (outHi a b x c) (stepQ (OIh ρ a b st (x+1)) (OQh ρ a b st)) st1:=by
 obtain ⟨S1,ia,ib,out,mg,rfl,J,hp⟩:=hI
 have laJ:=J.la; have lbJ:=J.lb
 have zaJ:=J.za; have zbJ:=J.zb
 unfold outHi
 dsimp only
 refine wpS_bind (wpS_mono (wpS_forRange (I:=IIh ρ a b st1 (ia+ib)) (Q:=IQh ρ a b st st1 (ia+ib)) (fun t c st' _ ht hI=>wpS_mono (wp_inHi C hB ha hb sa sb S1 hz' hI) fun r st' h=>by cases r <;> exact h) ?ifin ⟨rfl,_,_,_,_,_,rfl,J,ω⟩) ?ipost)
 case ifin =>
  rintro c st' ⟨rfl,ia',ib',out,ac,bc,rfl,J',hp'⟩
  exact ⟨rfl,.inr ⟨_,_,_,_,_,rfl,J',ω⟩⟩
 case ipost =>
  rintro ⟨c1,c2⟩ st' ⟨rfl,⟨r,e,q⟩ | ⟨ia',ib',out,ac,bc,e,J',hp'⟩⟩
  ·dsimp only at e ⊢
   subst e
   exact wpS_pure ⟨r,rfl,q⟩
  ·cases e
   dsimp only
   refine wpS_bind (wpS_lift (wpAny_rule ⟨rfl,?_⟩))
   refine wpS_bind (wpS_mono (wpS_forRange (I:=fun _=>GIh ρ a b st (ia'+ib')) (Q:=GDh ρ a b st (ia'+ib')) (fun t c st' _ ht hI=>wpS_mono (wp_gaHi C hB ha hb sa sb e0 h0 hz' hI) fun r st' h=>by cases r <;> exact h) ?gfin ⟨S1,_,_,_,_,_,_,rfl,J',Nat.le_refl _⟩) ?gpost)
   case gfin =>
    rintro c st' q
    exact .inr q
   case gpost =>
    rintro ⟨c1,c2⟩ st' (⟨r,e,q⟩ | ⟨S2,ia'',ib'',out,mg,ac,bc,e,J2,hp2⟩)
    ·dsimp only at e ⊢
     subst e
     exact wpS_pure ⟨r,rfl,q⟩
    ·cases e
     dsimp only
     exact wpS_bind (nj fun st3 S3=>wpS_pure ⟨S2.trans S3,_,_,_,_,rfl,J2,ω⟩)
theorem KU (C:eZ prog w A s κ a₀ ρ) {st:SortSt} (hB:B κ a₀ st) {a b:Array Keyed} {Q:Array Keyed->SortSt->Prop} (ha:∀p∈a.toList,p∈a₀.toList) (hb:∀p∈b.toList,p∈a₀.toList)
  (sa:Le ρ a.toList) (sb:Le ρ b.toList) (na:1<=a.size) (nb:1<=b.size) (h0:∀x∈a.toList,∀y,b[0]?=some y->ρ y<ρ x) (hz:∀z,a[a.size-1]?=some z->∀y∈b.toList,ρ y<ρ z)
  (h:∀r st',cv ρ a b st r st'->Q r st'):wpS (model prog w) A E s (KR a b) Q st:=by
 obtain ⟨y0,e0⟩:=at_of (xs:=b) (i:=0) ω
 have hz':∀i j,j<=1->∀x∈b.toList.take j,∀y∈a.toList.take i,ρ x<=ρ y:=fun i j hj x hx y hy=>by
  obtain ⟨k,k1,k2,k3⟩:=zI hx
  rw [show k=0 from ω,e0] at k3
  cases k3
  exact Int.le_of_lt (h0 y (List.mem_of_mem_take hy) _ e0)
 rw [hiP_eq]
 unfold hiP
 refine wpS_bind (wpS_lift (wpAny_rule ⟨rfl,?_⟩))
 obtain ⟨z,ez⟩:=at_of (xs:=a) (i:=a.size-1) ω
 refine wpS_bind (zj ez ?_)
 have M0:d_ ρ a b #[z] (a.size-1) b.size:=by
  have q:d_ ρ a b #[] a.size b.size:=by
   have e1:a.toList.take a.size=a.toList:=List.take_of_length_le (by simp)
   have e2:b.toList.take b.size=b.toList:=List.take_of_length_le (by simp)
   unfold d_
   rw [e1,e2]
   exact ⟨by simp,by simp,sa,sb,by simp,by simp⟩
  exact MH.pushA (out:=#[]) q na ez fun y hy=>Int.le_of_lt (hz z ez y (List.mem_of_mem_take hy))
 by_cases c1:(a.size-1 == 0)=true
 ·rw [if_pos c1]
  have c1':a.size-1=0:=by simpa using c1
  exact wpS_pure (h _ _ ⟨.refl,MH.fin M0 ω⟩)
 rw [if_neg c1]
 have c1':a.size-1 ≠ 0:=by simpa using c1
 by_cases c2:(b.size == 1)=true
 ·rw [if_pos c2]
  have c2':b.size=1:=by simpa using c2
  exact wpS_pure (h _ _ ⟨.refl,MH.finB M0 (hz' _ _ ω)⟩)
 rw [if_neg c2]
 have c2':b.size ≠ 1:=by simpa using c2
 refine wpS_bind (wpS_get ?_)
 refine wpS_bind (wpS_mono (wpS_forRange (I:=OIh ρ a b st) (Q:=OQh ρ a b st) (fun x c st1 _ hx hI=>wpS_mono (wp_outHi C hB ha hb sa sb e0 h0 hz' hI) fun r st' h=>by cases r <;> exact h) ?fin ⟨.refl,_,_,_,_,rfl,⟨M0,ω,ω,ω,ω⟩,ω⟩) ?post)
 case post =>
  rintro ⟨c1,c2⟩ st' ⟨r,e,q⟩
  dsimp only at e ⊢
  subst e
  exact wpS_pure (h _ _ q)
 case fin =>
  rintro c st' ⟨_,na,nb,out,mg,_,J,hx⟩
  have:=J.la; have:=J.lb
  (first|lia|omega)
end
def putAll(xs:Array Keyed)(c:Nat)(m:List Keyed)(d:Nat):Array Keyed:=List.foldl (fun a x=>a.setIfInBounds (c+x.snd) x.fst) xs (m.zipIdx d)
def DO:∀(m:List Keyed)(xs:Array Keyed)(a c:Nat),a+c+m.length<=xs.size->∀k,(putAll xs a m c)[k]?=if a+c<=k/\k<a+c+m.length then m[k-(a+c)]? else xs[k]?
 |[],xs,a,c,_,k=>by
  show xs[k]?=_;rw[if_neg (by rw[List.length_nil];(first|lia|omega))]
 |p::m,xs,a,c,h,k=>by
  rw[Am] at h;have e:=DO m (xs.setIfInBounds (a+c) p) a (c+1) (by rw[Array.size_setIfInBounds];(first|lia|omega)) k;show(putAll (xs.setIfInBounds (a+c) p) a m (c+1))[k]?=_;rw[e,Am]
  by_cases h1:k=a+c
  ·subst h1
   rw[if_neg ω,if_pos ω,Array.getElem?_setIfInBounds_self_of_lt ω];simp
  ·by_cases h2:a+(c+1)<=k/\k<a+(c+1)+m.length
   ·rw[if_pos h2,if_pos ω]
    obtain⟨d,hd⟩:∃d,k-(a+c)=d+1:=⟨k-(a+c)-1,ω⟩;rw[hd,List.getElem?_cons_succ]
    congr 1
    (first|lia|omega)
   ·rw[if_neg h2,if_neg ω,Array.getElem?_setIfInBounds_ne ω]
def KW{m:List Keyed}{xs:Array Keyed}{a:Nat}(h:a+m.length<=xs.size):(putAll xs a m 0).toList=xs.toList.take a++(m++xs.toList.drop (a+m.length)):=by
 apply List.ext_getElem?;intro k;have e:=DO m xs a 0 ω k;rw[AH,e]
 by_cases h1:k<a
 ·rw[if_neg ω,List.getElem?_append_left (by rw[Av,Ax];(first|lia|omega)),List.getElem?_take_of_lt h1]
  simp
 ·rw[List.getElem?_append_right (by rw[Av,Ax];(first|lia|omega))]
  rw[show(xs.toList.take a).length=a by rw[Av,Ax];(first|lia|omega)]
  by_cases h2:k<a+m.length
  ·rw[if_pos ω,List.getElem?_append_left ω,Nat.add_zero]
  ·rw[if_neg ω,List.getElem?_append_right ω,List.getElem?_drop]
   rw[show a+m.length+(k-a-m.length)=k from ω];simp
def Seg(ρ:Keyed->Int)(xs:Array Keyed):Nat->List (Nat×Nat×Nat)->Nat->Prop
 |lo,[],hi=>lo=hi
 |lo,(s,n,_)::r,hi=>s=lo/\1<=n/\ck ρ xs lo (lo+n)/\Seg ρ xs (lo+n) r hi
def Seg.le{ρ:Keyed->Int}{xs:Array Keyed}:∀{l:List (Nat×Nat×Nat)}{lo hi:Nat},Seg ρ xs lo l hi->lo+l.length<=hi
 |[],_,_,h=>by have:_=_:=h;simp;(first|lia|omega)
 |(s,n,p)::r,lo,hi,h=>by
  obtain⟨_,h1,_,h2⟩:=h;have:=Seg.le h2;rw[Am];(first|lia|omega)
def Seg.congr{ρ:Keyed->Int}{xs ys:Array Keyed}:∀{l:List (Nat×Nat×Nat)}{lo hi:Nat},Seg ρ xs lo l hi->(∀k,lo<=k->k<hi->ys[k]?=xs[k]?)->Seg ρ ys lo l hi
 |[],_,_,h,_=>h
 |(s,n,p)::r,lo,hi,h,hk=>by
  obtain⟨e,h1,h2,d⟩:=h;have:=Seg.le d;refine⟨e,h1,fun i j a b c=>?_,d.congr fun k a b=>hk k ω b⟩;rw[hO (hk i ω ω),hO (hk j ω ω)];exact h2 i j a b c
def Seg.app{ρ:Keyed->Int}{xs:Array Keyed}:∀{l r:List (Nat×Nat×Nat)}{lo hi:Nat},Seg ρ xs lo (l++r) hi↔∃m,Seg ρ xs lo l m/\Seg ρ xs m r hi
 |[],r,lo,hi=>⟨fun h=>⟨lo,rfl,h⟩,fun⟨m,h1,h2⟩=>by have e:lo=m:=h1;subst e;exact h2⟩
 |(s,n,p)::l,r,lo,hi=>by
  constructor
  ·rintro⟨a,h1,h2,f⟩
   obtain⟨m,c,d⟩:=Seg.app.mp f;exact⟨m,⟨a,h1,h2,c⟩,d⟩
  ·rintro⟨m,⟨a,h1,h2,c⟩,d⟩
   exact⟨a,h1,h2,Seg.app.mpr ⟨m,c,d⟩⟩
def KY{c:Type}{l:List c}{i:Nat}{x y:c}(h1:l[i]?=some x)(h2:l[i+1]?=some y):∃a post,l=a++x::y::post/\a.length=i:=by
 obtain⟨d,e1⟩:=List.getElem?_eq_some_iff.mp h1;obtain⟨e,e2⟩:=List.getElem?_eq_some_iff.mp h2;refine⟨l.take i,l.drop (i+2),?_,by rw[Av];(first|lia|omega)⟩
 conv=>lhs;rw[<-List.take_append_drop i l]
 rw[List.drop_eq_getElem_cons d,List.drop_eq_getElem_cons e,e1,e2]
def KZ{c:Type}{d:Array c}{i:Nat}{x y z:c}{a post:List c}(h:d.toList=a++x::y::post)(hi:a.length=i):((d.setIfInBounds i z).eraseIdxIfInBounds (i+1)).toList=a++z::post:=by
 subst hi;rw[Array.toList_eraseIdxIfInBounds,Array.toList_setIfInBounds,h,List.set_append_right _ _ (Ag _),Nat.sub_self,List.set_cons_zero,List.eraseIdx_append_of_length_le ω];rw[show a.length+1-a.length=1 from ω]
 rfl
section
variable{prog:Program}{w:World}{A:Around}{E:Ω}{s:Shared}{κ:SortKind}{a₀:Array Keyed}{ρ:Keyed->Int}
def K0{M:Model}{σ:Type}{st a:σ}{Q:PUnit->σ->Prop}(h:Q ⟨⟩ a):wpS M A E s (set a:StateT σ Sem PUnit) Q st:=by
 unfold wpS;rw[StateT.run_set];exact Ad ⟨rfl,h⟩
def GH{xs:Array Keyed}{lo hi:Nat}(h:ck ρ xs lo hi)(hz:hi<=xs.size):Le ρ (xs.extract lo hi).toList:=by
 rw[Le,List.pairwise_iff_getElem];intro i j a c d;rw[Ax,Array.size_extract] at a c;have q:=h (lo+i) (lo+j) ω ω ω;rw[aV (getElem?_pos xs (lo+i) ω),aV (getElem?_pos xs (lo+j) ω)] at q
 simpa using q
def GI{xs:Array Keyed}{lo hi i:Nat}(h:lo+i<hi)(hz:hi<=xs.size):(xs.extract lo hi)[i]?=xs[lo+i]?:=by
 rw[Array.getElem?_extract,if_pos ω]
def DP(C:eZ prog w A s κ a₀ ρ){st:SortSt}(P:B κ a₀ st){i hi:Nat}{Q:Bool->SortSt->Prop}(hS:Seg ρ (arrOf st) 0 (AJ st).toList hi)(hz:hi<=a₀.size)(Ce:i+1<(AJ st).size)(h:∀D,B κ a₀ D->Seg ρ (arrOf D) 0 (AJ D).toList hi->(AJ D).size+1=(AJ st).size->(∀k,hi<=k->(arrOf D)[k]?=(arrOf st)[k]?)->Q true D):wpS (model prog w) A E s (mergeAt' i) Q st:=by
 obtain⟨⟨c,f,p⟩,g1⟩:∃x,(AJ st)[i]?=some x:=⟨_,getElem?_pos _ i ω⟩;obtain⟨⟨sb,G,q⟩,g2⟩:∃x,(AJ st)[i+1]?=some x:=⟨_,getElem?_pos _ (i+1) Ce⟩;obtain⟨pre,post,el,dE⟩:=KY (l:=(AJ st).toList) (by rw[AH];exact g1) (by rw[AH];exact g2);have cj:=hS;rw[el] at cj;obtain⟨m,S1,e1,n1,U,e2,n2,S,S2⟩:=Seg.app.mp cj;subst e1 e2;have hl2:=S2.le;have hsz:=P.size;have fin:∀D,B κ a₀ D->AJ D=((AJ st).setIfInBounds i (c,f+G,p)).eraseIdxIfInBounds (i+1)->(∀k,(k<c\/c+f+G<=k)->(arrOf D)[k]?=(arrOf st)[k]?)->
   ck ρ (arrOf D) c (c+f+G)->Q true D:=fun D aI hP hk hs=>by
  have hl:=KZ (z:=(c,f+G,p)) el dE;refine h D aI ?_ ?_ fun k hk'=>hk k (.inr ω)
  ·rw[hP,hl]
   refine Seg.app.mpr ⟨c,S1.congr fun k _ b=>hk k (.inl b),rfl,ω,by rw[<-Nat.add_assoc];exact hs,?_⟩;rw[<-Nat.add_assoc];exact S2.congr fun k a _=>hk k (.inr ω)
  ·rw[hP,<-Ax,hl,<-Ax,el]
   simp;(first|lia|omega)
 refine wpS_bind (wpS_get ?_);rw[g1,g2];dsimp only;refine wpS_bind (K0 ?_);show wpS _ _ _ _ _ _ (SortSt.mk' (kindOf st) (arrOf st) (((AJ st).setIfInBounds i (c,f+G,p)).eraseIdxIfInBounds (i+1)) (gallopOf st) (failedOf st));generalize e2:((SortSt.mk' (kindOf st) (arrOf st) (((AJ st).setIfInBounds i (c,f+G,p)).eraseIdxIfInBounds (i+1)) (gallopOf st) (failedOf st)):SortSt)=bR;have a2:arrOf bR=arrOf st:=by rw[<-e2]
 have p2:AJ bR=((AJ st).setIfInBounds i (c,f+G,p)).eraseIdxIfInBounds (i+1):=by rw[<-e2]
 have g:B κ a₀ bR:=⟨by rw[a2];exact P.perm,by rw[<-e2];exact P.kind,by rw[<-e2];exact P.failed⟩;have pt:∀k,k<(arrOf st).size->∃x,(arrOf st)[k]?=some x/\x∈a₀.toList:=fun k hk=>by
  obtain⟨x,e,m⟩:=DL hk;exact⟨x,e,P.mem m⟩
 obtain⟨L,W,my⟩:=pt (c+f) ω;refine wpS_bind (zj W ?_);refine wpS_bind (zO (base:=c) (n:=f) (hint:=0) (arr:=arrOf st) C g my (fun k hk=>pt _ ω) (fun k l h1 h2=>U _ _ ω ω ω) ω fun k k1 k2 k3=>?_);dsimp only;have kle:∀d,d<k->R ρ (arrOf st) (c+d)<=ρ L:=fun d hd=>by
  have q1:=k2 d hd;simp[bv] at q1;exact q1
 have X:∀d,k<=d->d<f->ρ L<R ρ (arrOf st) (c+d):=fun d h1 h2=>by
  have q1:=k3 d h1 h2;simp[bv] at q1;exact q1
 by_cases c1:(f-k==0)=true
 ·rw[if_pos c1]
  have c1':f-k=0:=by simpa using c1
  refine wpS_pure (fin bR g p2 (fun k _=>by rw[a2]) ?_);rw[a2];intro x y h1 h2 H
  by_cases hy:y<c+f
  ·exact U x y h1 h2 hy
  ·by_cases hx:c+f<=x
   ·exact S x y hx h2 H
   ·have q1:=kle (x-c) ω
    rw[show c+(x-c)=x from ω] at q1;have I:=S (c+f) y ω ω H;rw[aV W] at I;(first|lia|omega)
 rw[if_neg c1];have c1':f-k≠0:=by simpa using c1
 obtain⟨z,ez,mz⟩:=pt (c+k+(f-k)-1) ω;refine wpS_bind (zj ez ?_);refine wpS_bind (zO (base:=c+f) (n:=G) (hint:=G-1) (arr:=arrOf st) C g mz (fun l hl=>pt _ ω) (fun l l' h1 h2=>S _ _ ω ω ω) ω fun l l1 l2 l3=>?_);dsimp only;have pT:(arrOf st)[c+f-1]?=some z:=by rw[show c+f-1=c+k+(f-k)-1 from ω];exact ez
 have llt:∀d,d<l->R ρ (arrOf st) (c+f+d)<ρ z:=fun d hd=>by
  have q1:=l2 d hd;simp[bv] at q1;exact q1
 have Y:∀d,l<=d->d<G->ρ z<=R ρ (arrOf st) (c+f+d):=fun d h1 h2=>by
  have q1:=l3 d h1 h2;simp[bv] at q1;exact q1
 have yz:ρ L<ρ z:=by
  have q1:=X (f-1) ω ω;rw[show c+(f-1)=c+f-1 from ω,aV pT] at q1;exact q1
 have lz:1<=l:=by
  rcases Nat.lt_or_ge 0 l with q1|q1
  ·exact q1
  ·have I:=Y 0 ω ω
   rw[Nat.add_zero,aV W] at I;(first|lia|omega)
 rw[if_neg (show ¬(l==0)=true by simp;(first|lia|omega))];have sA:(( arrOf st).extract (c+k) (c+f)).size=f-k:=by rw[Array.size_extract];(first|lia|omega)
 have N:(( arrOf st).extract (c+f) (c+f+l)).size=l:=by rw[Array.size_extract];(first|lia|omega)
 have j:∀x∈((arrOf st).extract (c+k) (c+f)).toList,x∈a₀.toList/\ρ L<ρ x/\ρ x<=ρ z:=fun x hx=>by
  obtain⟨d,d1,d2,d3,M⟩:=jw hx;have q1:=X (d-c) ω ω;rw[show c+(d-c)=d from ω,aV M] at q1;have I:=U d (c+f-1) ω ω ω;rw[aV M,aV pT] at I;exact⟨P.mem (zC M),q1,I⟩
 have o:∀x∈((arrOf st).extract (c+f) (c+f+l)).toList,x∈a₀.toList/\ρ L<=ρ x/\ρ x<ρ z:=fun x hx=>by
  obtain⟨d,d1,d2,d3,M⟩:=jw hx;have q1:=llt (d-(c+f)) ω;rw[show c+f+(d-(c+f))=d from ω,aV M] at q1;have I:=S (c+f) d ω ω ω;rw[aV M,aV W] at I;exact⟨P.mem (zC M),I,q1⟩
 have lA:Le ρ ((arrOf st).extract (c+k) (c+f)).toList:=GH (fun x y h1 h2 H=>U x y ω h2 H) ω;have lB:Le ρ ((arrOf st).extract (c+f) (c+f+l)).toList:=GH (fun x y h1 h2 H=>S x y h1 h2 ω) ω;have fH:∀x∈((arrOf st).extract (c+k) (c+f)).toList,∀y,((arrOf st).extract (c+f) (c+f+l))[0]?=some y->ρ y<ρ x:=fun x hx y hy=>by
  rw[GI ω ω,Nat.add_zero,W] at hy;cases hy;exact(j x hx).2.1
 have Z:∀z',((arrOf st).extract (c+k) (c+f))[((arrOf st).extract (c+k) (c+f)).size-1]?=some z'->∀y∈((arrOf st).extract (c+f) (c+f+l)).toList,ρ y<ρ z':=fun z' bB y hy=>by
  rw[sA,GI ω ω,show c+k+(f-k-1)=c+f-1 from ω,pT] at bB;cases bB;exact(o y hy).2.2
 have done:∀(r:Array Keyed)(F:SortSt),cv ρ ((arrOf st).extract (c+k) (c+f)) ((arrOf st).extract (c+f) (c+f+l)) bR r F->
   Q true (setArr F (putAll (arrOf F) (c+k) r.toList 0)):=fun r F ⟨S3,pm,ls⟩=>by
  have a3:arrOf F=arrOf st:=S3.arr.trans a2;have rl:r.toList.length=f-k+l:=by
   have:=pm.length_eq;rw[Af] at this;simp only[Ax] at this ⊢;rw[sA,N] at this;exact this
  have get:∀x,(putAll (arrOf st) (c+k) r.toList 0)[x]?=if c+k<=x/\x<c+f+l then r.toList[x-(c+k)]? else(arrOf st)[x]?:=fun x=>by
   have:=DO r.toList (arrOf st) (c+k) 0 ω x;rw[this,Nat.add_zero,rl,show c+k+(f-k+l)=c+f+l from ω]
  have rm:∀x∈r.toList,ρ L<=ρ x/\ρ x<=ρ z:=fun x hx=>by
   rcases List.mem_append.mp (pm.mem_iff.mp hx) with q1|q1
   ·exact⟨Int.le_of_lt (j x q1).2.1,(j x q1).2.2⟩
   ·exact⟨(o x q1).2.1,Int.le_of_lt (o x q1).2.2⟩
  rw[a3];refine fin _ ?_ (S3.pend.trans p2) (fun x hx=>?_) ?_
  ·have cb:=S3.b g
   refine cb.setArr ?_;rw[Array.perm_iff_toList_perm,KW ω,a3];have e4:(arrOf st).toList=(arrOf st).toList.take (c+k)++((((arrOf st).extract (c+k) (c+f)).toList++((arrOf st).extract (c+f) (c+f+l)).toList)++(arrOf st).toList.drop (c+k+r.toList.length)):=by
    conv=>lhs;rw[<-List.take_append_drop (c+k) (arrOf st).toList]
    rw[sQ (c+k) (f-k),sQ (c+k+(f-k)) l,show c+k+(f-k)=c+f from ω,show c+k+r.toList.length=c+f+l from ω,AG]
   conv=>rhs;rw[e4]
   exact List.Perm.append_left _ (List.Perm.append_right _ pm)
  ·show(putAll (arrOf st) (c+k) r.toList 0)[x]?=_
   rw[get,if_neg ω]
  ·show ck ρ (putAll (arrOf st) (c+k) r.toList 0) c (c+f+G)
   have T:∀x,¬(c+k<=x/\x<c+f+l)->R ρ (putAll (arrOf st) (c+k) r.toList 0) x=R ρ (arrOf st) x:=fun x hx=>hO (by rw[get,if_neg hx]);have RI:∀x,c+k<=x->x<c+f+l->∃u,r.toList[x-(c+k)]?=some u/\u∈r.toList/\R ρ (putAll (arrOf st) (c+k) r.toList 0) x=ρ u:=fun x h1 h2=>by
    have O:x-(c+k)<r.toList.length:=ω
    exact⟨r.toList[x-(c+k)],getElem?_pos r.toList _ O,List.getElem_mem O,aV (by rw[get,if_pos ⟨h1,h2⟩];exact getElem?_pos r.toList _ O)⟩
   have low:∀x,c<=x->x<c+k->R ρ (arrOf st) x<=ρ L:=fun x h1 h2=>by
    have q1:=kle (x-c) ω;rw[show c+(x-c)=x from ω] at q1;exact q1
   have J:∀x,c+f+l<=x->x<c+f+G->ρ z<=R ρ (arrOf st) x:=fun x h1 h2=>by
    have q1:=Y (x-(c+f)) ω ω;rw[show c+f+(x-(c+f))=x from ω] at q1;exact q1
   intro x y h1 h2 H
   by_cases x1:x<c+k
   ·rw[T x ω]
    have q1:=low x h1 x1
    by_cases y1:y<c+k
    ·rw[T y ω]
     exact U x y h1 h2 ω
    ·by_cases y2:y<c+f+l
     ·obtain⟨u,_,mu,eu⟩:=RI y ω y2
      rw[eu];exact AZ q1 (rm u mu).1
     ·rw[T y ω]
      have:=J y ω H;(first|lia|omega)
   ·by_cases x2:x<c+f+l
    ·obtain⟨u,gu,mu,eu⟩:=RI x ω x2
     rw[eu]
     by_cases y2:y<c+f+l
     ·obtain⟨v,gv,mv,ev⟩:=RI y ω y2
      rw[ev];exact dY ls (by rw[<-AH];exact gu) (by rw[<-AH];exact gv) ω
     ·rw[T y ω]
      exact AZ (rm u mu).2 (J y ω H)
    ·rw[T x ω,T y ω]
     exact S x y ω h2 H
 by_cases c3:f-k<=l
 ·rw[if_pos c3]
  refine wpS_bind (KS C g (fun x hx=>(j x hx).1) (fun x hx=>(o x hx).1) lA lB (show 1<=((arrOf st).extract (c+k) (c+f)).size by rw[sA];(first|lia|omega)) (show 1<=((arrOf st).extract (c+f) (c+f+l)).size by rw[N];(first|lia|omega)) (fun x hx y hy=>Int.le_of_lt (fH x hx y hy)) Z fun r F hr=>?_);refine wpS_bind (wpS_modify (wpS_bind (wpS_get (wpS_pure ?_))));have hf:failedOf F=none:=(hr.1.b g).failed;show Q (failedOf F).isNone _;rw[hf];exact done r F hr
 ·rw[if_neg c3]
  refine wpS_bind (KU C g (fun x hx=>(j x hx).1) (fun x hx=>(o x hx).1) lA lB (show 1<=((arrOf st).extract (c+k) (c+f)).size by rw[sA];(first|lia|omega)) (show 1<=((arrOf st).extract (c+f) (c+f+l)).size by rw[N];(first|lia|omega)) fH Z fun r F hr=>?_);refine wpS_bind (wpS_modify (wpS_bind (wpS_get (wpS_pure ?_))));have hf:failedOf F=none:=(hr.1.b g).failed;show Q (failedOf F).isNone _;rw[hf];exact done r F hr
end
def Seg.pow{ρ:Keyed->Int}{xs:Array Keyed}:∀{l a:List (Nat×Nat×Nat)}{lo hi:Nat},Seg ρ xs lo l hi->a.map (fun x=>(x.1,x.2.1))=l.map (fun x=>(x.1,x.2.1))->Seg ρ xs lo a hi
 |[],[],_,_,h,_=>h
 |[],_::_,_,_,_,e=>by simp at e
 |_::_,[],_,_,_,e=>by simp at e
 |(s,n,p)::l,(s',n',p')::a,lo,hi,h,e=>by
  simp only[AF,List.cons.injEq,Prod.mk.injEq] at e;obtain⟨⟨rfl,rfl⟩,e⟩:=e;exact⟨h.1,h.2.1,h.2.2.1,h.2.2.2.pow e⟩
def GJ(a:Array (Nat×Nat×Nat))(i c:Nat):(a.modify i fun x=>(x.1,x.2.1,c)).toList.map (fun x=>(x.1,x.2.1))=a.toList.map (fun x=>(x.1,x.2.1)):=by
 rw[Array.toList_modify];apply List.ext_getElem?;intro k;rw[Ao,Ao,List.getElem?_modify];cases e:a.toList[k]? with
 |none=>simp
 |some x=>
  simp only[Option.map_some];split<;>rfl
def Seg.one{ρ:Keyed->Int}{xs:Array Keyed}{l:List (Nat×Nat×Nat)}{hi:Nat}(h:Seg ρ xs 0 l hi)(c:l.length<=1):ck ρ xs 0 hi:=by
 match l,h,c with
 |[],h,_=>
  have e:0=hi:=h;subst e;intro i j _ _ d;(first|lia|omega)
 |[(s,n,p)],h,_=>
  obtain⟨_,_,h2,a⟩:=h;have e:0+n=hi:=a;subst e;exact h2
section
variable{prog:Program}{w:World}{A:Around}{E:Ω}{s:Shared}{κ:SortKind}{a₀:Array Keyed}{ρ:Keyed->Int}
def K2(C:eZ prog w A s κ a₀ ρ){st:SortSt}{Q:Unit->SortSt->Prop}(hB:B κ a₀ st)(hp:AJ st=#[])(h:∀d,B κ a₀ d->ck ρ (arrOf d) 0 a₀.size->Q () d):wpS (model prog w) A E s sortRuns' Q st:=by
 rw[sortRuns'_eq];refine wpS_bind (wpS_get ?_);dsimp only;simp only[hB.size];refine wpS_bind (wpS_mono (wpS_forRange
  (I:=fun x c d=>∃lo,c=(none,lo)/\B κ a₀ d/\Seg ρ (arrOf d) 0 (AJ d).toList lo/\lo<=a₀.size/\x<=lo)
  (Q:=fun c d=>c=(none,a₀.size)/\B κ a₀ d/\Seg ρ (arrOf d) 0 (AJ d).toList a₀.size) ?step ?fin ⟨0,rfl,hB,by rw[hp];exact rfl,ω,ω⟩) ?post)
 case fin=>
  rintro c d ⟨lo,rfl,p,hS,h1,h2⟩;have e:lo=a₀.size:=ω
  subst e;exact⟨rfl,p,hS⟩
 case step=>
  rintro x c gD _ hx ⟨lo,rfl,tV,rD,h1,h2⟩;dsimp only
  by_cases O:lo ≥ a₀.size
  ·rw[if_pos O]
   have e:lo=a₀.size:=ω
   subst e;exact wpS_pure ⟨rfl,tV,rD⟩
  rw[if_neg O];refine wpS_bind (KL C ω ω tV fun m G l P2 S m2 L=>?_);dsimp only;have v:Seg ρ (arrOf G) 0 (AJ G).toList lo:=by rw[P2.pend];exact rD.congr fun k _ b=>P2.arr k b
  have tail:∀(n:Nat)(g:SortSt)(z:ForInStep (Option Unit×Nat)->SortSt->Prop),B κ a₀ g->Seg ρ (arrOf g) 0 (AJ g).toList lo->1<=n->lo+n<=a₀.size->ck ρ (arrOf g) lo (lo+n)->
    (∀d,B κ a₀ d->Seg ρ (arrOf d) 0 (AJ d).toList (lo+n)->z (.yield (none,lo+n)) d)->
    (∀d,B κ a₀ d->Seg ρ (arrOf d) 0 (AJ d).toList lo->ck ρ (arrOf d) lo (lo+n)->wpS (model prog w) A E s (do
     modify fun s=>setPending s ((AJ s).push (lo,n,0))
     pure (ForInStep.yield (none,lo+n))) z d):=by
   intro n g z _ _ n1 n2 _ hq d p r T;refine wpS_bind (wpS_modify (wpS_pure (hq _ ⟨p.perm,p.kind,p.failed⟩ ?_)));show Seg ρ (arrOf d) 0 ((AJ d).push (lo,n,0)).toList (lo+n);rw[Array.toList_push];exact Seg.app.mpr ⟨lo,r,rfl,n1,T,rfl⟩
  have u:∀(n pw:Nat)(g:SortSt)(f:Nat->Option Unit×Unit->StateT SortSt Sem (ForInStep (Option Unit×Unit))),B κ a₀ g->Seg ρ (arrOf g) 0 (AJ g).toList lo->ck ρ (arrOf g) lo (lo+n)->lo+n<=a₀.size->
    (∀x d(z:ForInStep (Option Unit×Unit)->SortSt->Prop),B κ a₀ d->Seg ρ (arrOf d) 0 (AJ d).toList lo->z (.done (none,())) d->
     (∀o,B κ a₀ o->Seg ρ (arrOf o) 0 (AJ o).toList lo->(∀k,lo<=k->(arrOf o)[k]?=(arrOf d)[k]?)->z (.yield (none,())) o)->wpS (model prog w) A E s (f x (none,())) z d)->
    wpS (model prog w) A E s (forIn [0:a₀.size] (none,()) f) (fun c d=>c=(none,())/\B κ a₀ d/\Seg ρ (arrOf d) 0 (AJ d).toList lo/\ck ρ (arrOf d) lo (lo+n)) g:=by
   intro n pw g f D F J hz hf;refine wpS_forRange (I:=fun _ c d=>c=(none,())/\B κ a₀ d/\Seg ρ (arrOf d) 0 (AJ d).toList lo/\ck ρ (arrOf d) lo (lo+n)) ?_ (fun _ _ q=>q) ⟨rfl,D,F,J⟩;rintro x c d _ _ ⟨rfl,p,r,T⟩;refine hf x d _ p r ⟨rfl,p,r,T⟩ fun o M N hk=>⟨rfl,M,N,fun i j a b c=>?_⟩;rw[hO (hk i a),hO (hk j ω)];exact T i j a b c
  have whole:∀(n:Nat)(g:SortSt),B κ a₀ g->Seg ρ (arrOf g) 0 (AJ g).toList lo->1<=n->lo+n<=a₀.size->ck ρ (arrOf g) lo (lo+n)->True:=fun _ _ _ _ _ _ _=>trivial;have fin2:∀n d,1<=n->lo+n<=a₀.size->B κ a₀ d->Seg ρ (arrOf d) 0 (AJ d).toList (lo+n)->∃U,((none,lo+n):Option Unit×Nat)=(none,U)/\B κ a₀ d/\Seg ρ (arrOf d) 0 (AJ d).toList U/\U<=a₀.size/\x+1<=U:=
   fun n d n1 n2 b sg=>⟨_,rfl,b,sg,n2,ω⟩
  by_cases P:m<minRun' a₀.size a₀.size 0
  ·rw[if_pos P]
   refine wpS_bind (wpS_lift (wpAny_rule ⟨rfl,?_⟩));refine wpS_bind (KM C ω ω l L fun g D P3 J=>?_);simp only[Bool.not_true,Al,if_false];have F:Seg ρ (arrOf g) 0 (AJ g).toList lo:=by rw[P3.pend];exact v.congr fun k _ b=>P3.arr k b
   refine wpS_bind (wpS_get ?_);cases hb:(AJ g).back? with
   |none=>
    dsimp only;exact tail _ g _ D F ω ω J (fun d b sg=>fin2 _ d ω ω b sg) g D F J
   |some y=>
    obtain⟨s1,n1,p1⟩:=y;dsimp only;refine wpS_bind (wpS_mono (u _ 0 g _ D F J ω ?_) ?_)
    ·intro x d z p r q1 W
     refine wpS_bind (wpS_get ?_)
     by_cases hsz:(AJ d).size>1
     ·rw[if_pos hsz]
      obtain⟨⟨o1,o2,o3⟩,X⟩:∃y,(AJ d)[(AJ d).size-2]?=some y:=⟨_,getElem?_pos _ _ ω⟩;rw[X];dsimp only;split
      ·exact wpS_pure q1
      ·refine wpS_bind (DP C p r h1 ω fun o M N _ hk=>?_)
       simp only[Bool.not_true,Al,if_false];exact wpS_pure (W o M N hk)
     ·rw[if_neg hsz]
      exact wpS_pure q1
    ·rintro c we ⟨rfl,H,Y,Z⟩
     dsimp only;refine wpS_bind (wpS_modify ?_);refine tail _ g _ D F ω ω J (fun d b sg=>fin2 _ d ω ω b sg) _ ⟨H.perm,H.kind,H.failed⟩ ?_ Z;exact Y.pow (GJ _ _ _)
  ·rw[if_neg P]
   refine wpS_bind (wpS_get ?_);cases hb:(AJ G).back? with
   |none=>
    dsimp only;exact tail _ G _ l v S ω L (fun d b sg=>fin2 _ d S ω b sg) G l v L
   |some y=>
    obtain⟨s1,n1,p1⟩:=y;dsimp only;refine wpS_bind (wpS_mono (u _ 0 G _ l v L ω ?_) ?_)
    ·intro x d z p r q1 W
     refine wpS_bind (wpS_get ?_)
     by_cases hsz:(AJ d).size>1
     ·rw[if_pos hsz]
      obtain⟨⟨o1,o2,o3⟩,X⟩:∃y,(AJ d)[(AJ d).size-2]?=some y:=⟨_,getElem?_pos _ _ ω⟩;rw[X];dsimp only;split
      ·exact wpS_pure q1
      ·refine wpS_bind (DP C p r h1 ω fun o M N _ hk=>?_)
       simp only[Bool.not_true,Al,if_false];exact wpS_pure (W o M N hk)
     ·rw[if_neg hsz]
      exact wpS_pure q1
    ·rintro c we ⟨rfl,H,Y,Z⟩
     dsimp only;refine wpS_bind (wpS_modify ?_);refine tail _ G _ l v S ω L (fun d b sg=>fin2 _ d S ω b sg) _ ⟨H.perm,H.kind,H.failed⟩ ?_ Z;exact Y.pow (GJ _ _ _)
 case post=>
  rintro c d ⟨rfl,p,r⟩;dsimp only;refine wpS_bind (wpS_mono (wpS_forRange (I:=fun x c o=>c=(none,())/\B κ a₀ o/\Seg ρ (arrOf o) 0 (AJ o).toList a₀.size/\((AJ o).size<=1\/(AJ o).size+x<=a₀.size))
   (Q:=fun c o=>c=(none,())/\B κ a₀ o/\ck ρ (arrOf o) 0 a₀.size) ?fstep ?ffin ⟨rfl,p,r,.inr ?_⟩) ?fpost)
  case ffin=>
   rintro c o ⟨rfl,l,v,hh⟩;exact⟨rfl,l,v.one (by rw[Ax];(first|lia|omega))⟩
  case fpost=>
   rintro c o ⟨rfl,l,sr⟩;exact wpS_pure (h _ l sr)
  case fstep=>
   rintro x c o _ hx ⟨rfl,l,v,hh⟩;refine wpS_bind (wpS_get ?_)
   by_cases hsz:(AJ o).size<=1
   ·rw[if_pos hsz]
    exact wpS_pure ⟨rfl,l,v.one (by rw[Ax];(first|lia|omega))⟩
   ·rw[if_neg hsz]
    refine wpS_bind (DP C l v (Ag _) ?_ fun g D F si _=>?_)
    ·repeat' split
     all_goals (first|lia|omega)
    ·simp only[Bool.not_true,Al,if_false]
     exact wpS_pure ⟨rfl,D,F,ω⟩
  ·have:=r.le
   rw[Ax] at this;(first|lia|omega)
end
end Tim
end
section
namespace ck
open PySem PyProof.Rows HT
def DT:∀a:List Int,lexLt a a=false
 |[]=>rfl
 |x::a=>by rw[jp,if_pos rfl];exact DT a
def nt:∀{a b c:List Int},lexLt a b=true->lexLt b c=true->lexLt a c=true
 |[],[],_,h,_=>by cases h
 |[],_::_,[],_,h=>by cases h
 |[],_::_,_::_,_,_=>rfl
 |_::_,[],_,h,_=>by cases h
 |_::_,_::_,[],_,h=>by cases h
 |x::a,y::b,z::c,h1,h2=>by
  rw[jp] at h1 h2 ⊢
  by_cases e1:x=y
  ·rw[if_pos e1] at h1
   by_cases e2:y=z
   ·rw[if_pos e2] at h2
    rw[if_pos (e1.trans e2)];exact nt h1 h2
   ·rw[if_neg e2] at h2
    rw[if_neg ω];have:=of_decide_eq_true h2;exact decide_eq_true ω
  ·rw[if_neg e1] at h1
   have q1:=of_decide_eq_true h1
   by_cases e2:y=z
   ·rw[if_neg ω]
    exact decide_eq_true ω
   ·rw[if_neg e2] at h2
    have d:=of_decide_eq_true h2;rw[if_neg ω];exact decide_eq_true ω
def GK:∀{a b:List Int},lexLt a b=false->lexLt b a=false->a=b
 |[],[],_,_=>rfl
 |[],_::_,h,_=>by cases h
 |_::_,[],_,h=>by cases h
 |x::a,y::b,h1,h2=>by
  rw[jp] at h1 h2
  by_cases e:x=y
  ·subst e
   rw[if_pos rfl] at h1 h2;rw[GK h1 h2]
  ·rw[if_neg e] at h1
   rw[if_neg (Ne.symm e)] at h2;have:=of_decide_eq_false h1;have:=of_decide_eq_false h2;(first|lia|omega)
def rk(ls:Ξ)(l:List Int):Int:=((ls.filter fun m=>lexLt m l).length:Nat)
def GL{ls:Ξ}{l m:List Int}(f:l∈ls)(hm:m∈ls):decide (rk ls l<rk ls m)=lexLt l m:=by
 have mono:∀{a b:List Int},(∀x,lexLt x a=true->lexLt x b=true)->∀k:Ξ,(k.filter fun x=>lexLt x a).length<=(k.filter fun x=>lexLt x b).length:=by
  intro a b d k
  induction k with
  |nil=>exact Ag _
  |cons x k ih=>
   rw[List.filter_cons,List.filter_cons]
   by_cases q:lexLt x a=true
   ·rw[if_pos q,if_pos (d x q),Am,Am];(first|lia|omega)
   ·rw[if_neg q]
    split
    ·rw[Am];(first|lia|omega)
    ·exact ih
 have c:∀{a b:List Int},(∀x,lexLt x a=true->lexLt x b=true)->lexLt a b=true->∀k:Ξ,a∈k->(k.filter fun x=>lexLt x a).length<(k.filter fun x=>lexLt x b).length:=by
  intro a b d h k
  induction k with
  |nil=>intro q;cases q
  |cons x k ih=>
   intro hk;rw[List.filter_cons,List.filter_cons];rcases List.mem_cons.mp hk with e|e
   ·subst e
    rw[if_neg (by rw[DT];exact Ak),if_pos h,Am];have:=mono d k;(first|lia|omega)
   ·have:=ih e
    by_cases q:lexLt x a=true
    ·rw[if_pos q,if_pos (d x q),Am,Am];(first|lia|omega)
    ·rw[if_neg q]
     split
     ·rw[Am];(first|lia|omega)
     ·exact this
 unfold rk;cases q:lexLt l m with
 |true=>
  have:=c (a:=l) (b:=m) (fun x hx=>nt hx q) q ls f;exact decide_eq_true ω
 |false=>
  have:=mono (a:=m) (b:=l) (fun x hx=>by
   cases z:lexLt x l with
   |true=>rfl
   |false=>
    cases z2:lexLt l x with
    |true=>rw[nt z2 hx] at q;cases q
    |false=>rw[GK z z2] at hx;rw[hx] at q;cases q) ls
  exact decide_eq_false ω
structure By(prog:Program)(w:World)(A:Around)(good:Heap->Prop)(us:List Value)(ls:Ξ):Prop where
 len:us.length=ls.length
 fn:∀(i j:Nat) u l m,us[i]?=some u->us[j]?=some u->ls[i]?=some l->ls[j]?=some m->l=m
 ask:2<=us.length->∃κ:SortKind,(∀(s:Shared)(Q:SortKind->Shared->Prop)(E:Ω),good s.heap->Q κ s->wpAny (model prog w) A (keyKind' us.toArray) Q E s)/\
  ∀(i j:Nat) u v l m,us[i]?=some u->us[j]?=some v->ls[i]?=some l->ls[j]?=some m->∀(s:Shared)(Q:Bool->Shared->Prop)(E:Ω),good s.heap->Q (lexLt l m) s->wpAny (model prog w) A (keyLt' κ u v) Q E s
open Classical in
noncomputable def nz(us:List Value)(ls:Ξ)(u:Value):List Int:=if h:∃l,∃i:Nat,us[i]?=some u/\ls[i]?=some l then h.choose else []
def pL{us:List Value}{ls:Ξ}(fn:∀(i j:Nat) u l m,us[i]?=some u->us[j]?=some u->ls[i]?=some l->ls[j]?=some m->l=m){i:Nat}{u:Value}{l:List Int}(h1:us[i]?=some u)(h2:ls[i]?=some l):nz us ls u=l:=by
 unfold nz;have h:∃l,∃i:Nat,us[i]?=some u/\ls[i]?=some l:=⟨l,i,h1,h2⟩;rw[dif_pos h];obtain⟨j,e1,e2⟩:=h.choose_spec;exact fn j i u _ l e1 h1 e2 h2
noncomputable def nA(us:List Value)(ls:Ξ)(p:Keyed):Int:=rk ls (nz us ls p.1)
section
variable{prog:Program}{w:World}{A:Around}{E:Ω}{s:Shared}{good:Heap->Prop}{us vs:List Value}{ls:Ξ}
def ti(h:us.length=vs.length){p:Keyed}(hp:p∈(us.toArray.zip vs.toArray).toList):∃i:Nat,us[i]?=some p.1/\vs[i]?=some p.2:=by
 have e:(us.toArray.zip vs.toArray).toList=us.zip vs:=by simp
 rw[e] at hp;obtain⟨i,hi,e2⟩:=List.mem_iff_getElem.mp hp;rw[List.getElem_zip] at e2;rw[List.length_zip] at hi;refine⟨i,?_,?_⟩
 ·rw[Aj ω,<-e2]
 ·rw[Aj ω,<-e2]
def K3(B:By prog w A good us ls)(d:us.length=vs.length)(f:good s.heap){κ:SortKind}(h2:2<=us.length)(p:us.length<1000)(hk:∀(i j:Nat) u v l m,us[i]?=some u->us[j]?=some v->ls[i]?=some l->ls[j]?=some m->∀(s:Shared)(Q:Bool->Shared->Prop)(E:Ω),good s.heap->Q (lexLt l m) s->wpAny (model prog w) A (keyLt' κ u v) Q E s){Q:Unit->SortSt->Prop}(h:∀a,(arrOf a).Perm (us.toArray.zip vs.toArray)->failedOf a=none->Tim.ck (nA us ls) (arrOf a) 0 vs.length->Q () a):wpS (model prog w) A E s sortRuns' Q (SortSt.mk' κ (us.toArray.zip vs.toArray) #[] 7 none):=by
 have hz:(us.toArray.zip vs.toArray).size=vs.length:=by simp;(first|lia|omega)
 refine Tim.K2 (κ:=κ) (a₀:=us.toArray.zip vs.toArray) (ρ:=nA us ls) ⟨fun x y hx hy g o hq=>?_⟩ ⟨Array.Perm.refl _,rfl,rfl⟩ rfl fun a b e=>h a b.perm b.failed (by rw[<-hz];exact e);obtain⟨i,e1,_⟩:=ti d hx;obtain⟨j,e2,_⟩:=ti d hy;have hi:i<ls.length:=by rw[<-B.len];exact(List.getElem?_eq_some_iff.mp e1).1
 have c:j<ls.length:=by rw[<-B.len];exact(List.getElem?_eq_some_iff.mp e2).1
 have f1:ls[i]?=some ls[i]:=Aj hi;have f2:ls[j]?=some ls[j]:=Aj c;refine hk i j _ _ _ _ e1 e2 f1 f2 s g o f ?_;unfold nA at hq;rw[pL B.fn e1 f1,pL B.fn e2 f2,GL (List.getElem_mem hi) (List.getElem_mem c)] at hq;exact hq
def cN{a c:Type}:∀(l:List a)(m:List c)(i:Nat),(l.zip m)[i]?=(l[i]?).bind fun x=>(m[i]?).map fun y=>(x,y)
 |[],m,i=>by simp
 |x::l,[],i=>by cases h:(x::l)[i]?<;>simp
 |x::l,y::m,0=>rfl
 |x::l,y::m,i+1=>by
  rw[List.zip_cons_cons,List.getElem?_cons_succ,List.getElem?_cons_succ,List.getElem?_cons_succ];exact cN l m i
def K4(B:By prog w A good us ls)(r:us.length=vs.length){xs:Array Keyed}(hp:xs.Perm (us.toArray.zip vs.toArray))(hs:Tim.ck (nA us ls) xs 0 vs.length):∃ps:List (List Int×Value),ps.Perm (ls.zip vs)/\xs.toList.map (·.2)=ps.map (·.2)/\ps.Pairwise fun(a b:List Int×Value)=>HT.lexLt b.1 a.1=false:=by
 have f:xs.toList.Perm (us.zip vs):=by
  have:=Array.perm_iff_toList_perm.mp hp
  simpa using this
 refine⟨xs.toList.map fun p=>(nz us ls p.1,p.2),?_,by rw[AC];rfl,?_⟩
 ·have e:(us.zip vs).map (fun p:Keyed=>(nz us ls p.1,p.2))=ls.zip vs:=by
   apply List.ext_getElem?;intro i;rw[Ao,cN,cN];cases e1:us[i]? with
   |none=>
    have:ls[i]?=none:=List.getElem?_eq_none (by rw[<-B.len];exact List.getElem?_eq_none_iff.mp e1);rw[this];rfl
   |some u=>
    have hi:i<ls.length:=by rw[<-B.len];exact(List.getElem?_eq_some_iff.mp e1).1
    have f1:ls[i]?=some ls[i]:=Aj hi;rw[f1];cases e2:vs[i]? with
    |none=>rfl
    |some v=>
     show some (nz us ls u,v)=some (ls[i],v);rw[pL B.fn e1 f1]
  rw[<-e];exact f.map _
 ·rw[List.pairwise_map,List.pairwise_iff_getElem]
  intro i j hi o g;have hsz:xs.size=vs.length:=by
   have:=f.length_eq;rw[Ax,List.length_zip] at this;(first|lia|omega)
  rw[Ax] at hi o;have q:=hs i j (AY _) (Nat.le_of_lt g) ω;have s:xs[i]?=some xs[i]:=getElem?_pos xs i hi;have x:xs[j]?=some xs[j]:=getElem?_pos xs j o;rw[Tim.aV s,Tim.aV x] at q;simp only[Array.getElem_toList];obtain⟨h,g1,_⟩:=ti r (p:=xs[i]) (by
   have:=f.mem_iff.mp (show xs[i]∈xs.toList by simp)
   simpa using this)
  obtain⟨l,g2,_⟩:=ti r (p:=xs[j]) (by
   have:=f.mem_iff.mp (show xs[j]∈xs.toList by simp)
   simpa using this)
  have c:h<ls.length:=by rw[<-B.len];exact(List.getElem?_eq_some_iff.mp g1).1
  have d:l<ls.length:=by rw[<-B.len];exact(List.getElem?_eq_some_iff.mp g2).1
  have f1:ls[h]?=some ls[h]:=Aj c;have f2:ls[l]?=some ls[l]:=Aj d;unfold nA at q;rw[pL B.fn g1 f1,pL B.fn g2 f2] at q ⊢;have:=GL (ls:=ls) (List.getElem_mem d) (List.getElem_mem c);rw[<-this];exact decide_eq_false ω
end
end ck
end
section
namespace ck
open PySem PyProof.Rows PySem.W
section
variable{prog:Program}{w:World}{A:Around}{E:Ω}{s:Shared}{good:Heap->Prop}{us vs:List Value}{ls:Ξ}
def IsPr(h:Heap)(u:Value)(l:List Int):Prop:=∃(a b:Addr)(n:Int)(t:Tok)(c:List Value)(ps:List Int),u=.ref a/\l=n::ps/\IsTup h a #[.int n t,.ref b]/\IsTup h b c.toArray/\IntsAre c ps
def IsTup.inj{h:Heap}{a:Addr}{xs ys:Array Value}(h1:IsTup h a xs)(h2:IsTup h a ys):xs=ys:=by
 obtain⟨o,e,_,n,d⟩:=h1;obtain⟨o',e',_,c,d'⟩:=h2;rw[e] at e';cases e';rw[d] at d';injection d'
def IntsAre.inj{vs:List Value}{c a:List Int}(h:IntsAre vs c)(g:IntsAre vs a):c=a:=by
 induction h generalizing a with
 |nil=>cases g;rfl
 |cons n t h ih=>cases g with|cons _ _ h'=>rw[ih h']
def IsPr.inj{h:Heap}{u:Value}{l m:List Int}(h1:IsPr h u l)(h2:IsPr h u m):l=m:=by
 obtain⟨a,b,n,t,c,ps,rfl,rfl,d,f,i1⟩:=h1;obtain⟨o,p,q,t',its',r,e,rfl,g,i,j⟩:=h2;cases e;have:=ck.IsTup.inj d g;cases this;have e2:=ck.IsTup.inj f i;have e3:c=its':=by simpa using e2
 subst e3;rw[IntsAre.inj i1 j]
def K5{x y:Value}{l m:List Int}{Q:Bool->Shared->Prop}(h1:IsPr s.heap x l)(h2:IsPr s.heap y m)(hu:A.units<cLine)(hq:Q (HT.lexLt l m) s):wpAny (model prog w) A (keyLt' (tuples' true) x y) Q E s:=by
 obtain⟨a,b,n,t,L,ps,rfl,rfl,I,v,i1⟩:=h1;obtain⟨M,C,i,t',its',D,rfl,rfl,J,F,G⟩:=h2;obtain⟨o,e,hc,k,d⟩:=id I;obtain⟨o',e',N,O,d'⟩:=id J;refine kat_lt e d e' d' ?_;show KatLex prog w A true (decide (2<2)) Q [(.int n t,.int i t'),(.ref b,.ref C)] 0 s;rw[HT.jp] at hq;refine kat_cons (wpAny_mono (SeqAt.EqAt.int_int n t i t' prog w (fun _ _=>False) _ ⟨rfl,rfl⟩:wpAny (model prog w) A (eqBool (.int n t) (.int i t')) (fun e s'=>e=(n==i)/\s'=s) (fun _ _=>False) s) (fun e1 p he=>?_) fun _ _ z=>z);obtain⟨rfl,rfl⟩:=he
 by_cases q:n=i
 ·have u:(n==i)=true:=by simpa using q
  rw[u];rw[if_pos q] at hq;refine kat_yes (kat_cons ?_);have H:∀{c:Addr}{g:List Value}{j:List Int},IsTup p.heap c g.toArray->IntsAre g j->AU (L2.zy prog w) p.heap (j.map Sum.inl) c:=fun{c g j} hc hi=>by
   obtain⟨o,e,r,k,d⟩:=hc;refine⟨o,g.toArray,k,e,r,d,?_⟩;have:∀{g:List Value}{j:List Int},IntsAre g j->ItemsAre (L2.zy prog w) (j.map Sum.inl) g:=by
    intro g j hi
    induction hi with
    |nil=>exact .nil
    |cons n t h ih=>exact .cons (L2.xS prog w n t) ih
   simpa using this hi
  refine wpAny_eqBool_tuple (knd:=L2.zy prog w) hu (H v i1) (H F G) ?_
  by_cases ep:ps=D
  ·subst ep
   rw[decide_eq_true rfl];rw[DT] at hq;exact kat_yes (kat_nil hq)
  ·have:¬(ps.map Sum.inl:List L2.Key)=D.map Sum.inl:=fun z=>ep (List.map_inj_right (f:=(Sum.inl:Int->L2.Key)) (fun x y h=>Sum.inl.inj h)|>.mp z)
   rw[decide_eq_false this];refine kat_no ?_;show wpAny (model prog w) A (oneLt' false (.ref b) (.ref C)) Q (fun _ _=>False) p;exact kat_one _ _ (HT.J6 v F (by simpa using i1) (by simpa using G) hu hq)
 ·have u:(n==i)=false:=by simpa using q
  rw[u];rw[if_neg q] at hq;refine kat_no ?_;show wpAny (model prog w) A (oneLt' true (.int n t) (.int i t')) Q (fun _ _=>False) p;exact oneLt_int hq
def GM{h:Heap}:∀{us:List Value}{ls:Ξ},us.length=ls.length->(∀(i:Nat) u l,us[i]?=some u->ls[i]?=some l->IsPr h u l)->∃fs,KatTups h us fs/\fs.length=us.length/\∀f∈fs,∃n t,f=Value.int n t
 |[],[],_,_=>⟨[],.nil,rfl,fun f hf=>nomatch hf⟩
 |u::us,l::ls,hl,hp=>by
  obtain⟨fs,c,g,j⟩:=GM (us:=us) (ls:=ls) (by simpa using hl) fun i u l h1 h2=>hp (i+1) u l (by simpa using h1) (by simpa using h2);obtain⟨a,b,n,t,q,ps,rfl,rfl,p,r,i1⟩:=hp 0 u l rfl rfl;obtain⟨o,e,hc,k,d⟩:=id p;refine⟨.int n t::fs,.cons e hc d rfl c,by simp[g],fun f hf=>?_⟩;rcases List.mem_cons.mp hf with rfl|hf
  ·exact⟨n,t,rfl⟩
  ·exact j f hf
 |[],_::_,h,_=>by simp at h
 |_::_,[],h,_=>by simp at h
def K6(g:us.length=ls.length)(hu:A.units<cLine)(q:∃h,good h)(hp:∀h,good h->∀(i:Nat) u l,us[i]?=some u->ls[i]?=some l->IsPr h u l):By prog w A good us ls:=by
 refine⟨g,fun i j u l m h1 h2 c d=>?_,fun h2=>⟨tuples' true,fun s Q E a hq=>?_,fun i j u v l m h1 h2 c d s Q E a hq=>?_⟩⟩
 ·obtain⟨h,e⟩:=q
  exact(hp h e i u l h1 c).inj (hp h e j u m h2 d)
 ·obtain⟨fs,o,r,p⟩:=GM g (hp _ a)
  refine kat_kind (T:=.type "int") o ω (fun f hf=>?_) ξ hq;obtain⟨n,t,rfl⟩:=p f hf;exact Looks.of_pure rfl
 ·exact K5 (hp _ a i u l h1 c) (hp _ a j v m h2 d) hu hq
end
def Out(ls:Ξ)(vs out:List Value):Prop:=∃ps:List (List Int×Value),ps.Perm (ls.zip vs)/\out=ps.map (·.2)/\ps.Pairwise fun(a b:List Int×Value)=>HT.lexLt b.1 a.1=false
section
variable{prog:Program}{w:World}{A:Around}{E:Ω}{s:Shared}{good:Heap->Prop}{us vs:List Value}{ls:Ξ}
def K7(a:ls.length=vs.length)(hu:us.length=vs.length)(h2:vs.length<2):Out ls vs ((us.toArray.zip vs.toArray).map (·.2)).toList:=by
 have e:((us.toArray.zip vs.toArray).map (·.2)).toList=vs:=by
  rw[Array.toList_map,show(us.toArray.zip vs.toArray).toList=us.zip vs by simp,List.map_snd_zip ω]
 rw[e];refine⟨ls.zip vs,List.Perm.refl _,by rw[List.map_snd_zip ω],?_⟩;have hz:(ls.zip vs).length<2:=by rw[List.length_zip];(first|lia|omega)
 match ls.zip vs,hz with
 |[],_=>exact List.Pairwise.nil
 |[x],_=>simp
 |_::_::_,h=>simp only[Am] at h;(first|lia|omega)
def K8(B:By prog w A good us ls)(d:us.length=vs.length)(l:vs.length<1000)(j:good s.heap){P:PySem.Fin->Shared->Prop}{G:Unit×SortSt->Sem PySem.Fin}(h:∀a,Out ls vs ((arrOf a).map (·.2)).toList->(arrOf a).size=vs.length->failedOf a=none->wpAny (model prog w) A (G (PUnit.unit,a)) P E s):wpAny (model prog w) A (if vs.toArray.size<2 then(pure general' >>= fun kind=>(if vs.toArray.size<2 then pure () else sortRuns').run (SortSt.mk' kind (us.toArray.zip vs.toArray) #[] 7 none) >>= G)
   else(keyKind' us.toArray >>= fun kind=>(if vs.toArray.size<2 then pure () else sortRuns').run (SortSt.mk' kind (us.toArray.zip vs.toArray) #[] 7 none) >>= G)) P E s:=by
 have c:(us.toArray.zip vs.toArray).size=vs.length:=by rw[Array.size_zip,Ai,Ai];(first|lia|omega)
 by_cases h2:vs.toArray.size<2
 ·rw[if_pos h2]
  refine Aa (Ad ?_);rw[if_pos h2];rw[StateT.run_pure];refine Aa (Ad ?_)
  try dsimp only
  rw[Ai] at h2;exact h (SortSt.mk' general' (us.toArray.zip vs.toArray) #[] 7 none) (K7 (by rw[<-B.len];exact d) d h2) c rfl
 ·rw[if_neg h2,if_neg h2]
  rw[Ai] at h2;obtain⟨κ,k1,k2⟩:=B.ask ω;refine Aa (k1 s _ E j ?_);refine Aa (wpAny_mono (K3 (Q:=fun _ a=>(arrOf a).Perm (us.toArray.zip vs.toArray)/\failedOf a=none/\Tim.ck (nA us ls) (arrOf a) 0 vs.length) B d j ω ω k2 fun a f g i=>⟨f,g,i⟩) ?_ fun _ _ e=>e);rintro⟨⟨⟩,a⟩ s' ⟨rfl,hp,hf,hs⟩
  try dsimp only
  exact h a (by
   obtain⟨ps,f,g,i⟩:=K4 B d hp hs;exact⟨ps,f,by rw[Array.toList_map];exact g,i⟩) (by rw[hp.size_eq];exact c) hf
def K9{a kS:Addr}{j:Array Value}{e e1:Nat}{st:SortSt}{P:PySem.Fin->Shared->Prop}(l:s.heap.get? kS=some (seqObj "list" j e))(u:s.heap.get? a=some (seqObj "list" #[] e1))(p:kS≠a)(v:j.size<=sizeLine)(x:Out ls vs ((arrOf st).map (·.2)).toList)(hsz:(arrOf st).size=vs.length)(hz:vs.length<=sizeLine)(y:failedOf st=none)(h:∀h' out c,(∀b o,b≠kS->b≠a->s.heap.get? b=some o->h'.get? b=some o)->h'.get? a=some (seqObj "list" out c)->(∃o,h'.get? kS=some o)->Out ls vs out.toList->h'.objs.size=s⁻¹->P (.done (.ret .none)) {s with heap:=h'}):wpAny (model prog w) A (ksk_tail a false e1 (.ref kS) st) P E s:=by
 have g:=AX s.heap kS (AO fun _=>(#[]:Array Value));have f:(s.heap.update kS (AO fun _=>(#[]:Array Value))).get? a=some (seqObj "list" #[] e1):=(g.2 a p.symm).trans u;have i:=AX (s.heap.update kS (AO fun _=>(#[]:Array Value))) a (AO fun _=>(arrOf st).map (·.2));obtain⟨d,r⟩:∃d,((s.heap.update kS (AO fun _=>(#[]:Array Value))).update a (AO fun _=>(arrOf st).map (·.2))).get? a=some (seqObj "list" ((arrOf st).map (·.2)) d):=
  ⟨_,get?_update_seq f fun _=>(arrOf st).map (·.2)⟩
 unfold ksk_tail
 try dsimp only
 simp only[Al,if_false];refine Aa (listUpdate_at l rfl ?_ v (AY _));refine Aa (wpAny_letGo ?_);refine Aa (seqEpoch_at f rfl ?_);refine Aa (listUpdate_at f rfl ?_ (AY _) (AB (Nat.le_of_eq ((Array.size_map ..).trans hsz)) (Nat.le_succ_of_le hz)));rw[y];simp only[bne_self_eq_false,Al,if_false];refine Ad (h _ _ d (fun b o h1 h2 q=>(i.2 b h2).trans ((g.2 b h1).trans q)) r ⟨_,(i.2 kS p).trans (get?_update_seq l fun _=>#[])⟩ x (by rw[Heap.size_update,Heap.size_update]))
end
end ck
end
section
namespace L2
open PySem PySem.Spec PyProof.Rows
def clOf(cells:List (Str×Addr)):List (Str×NameKind)->List (Str×Addr)->List (Str×Addr)
 |[],acc=>acc
 |(n,k)::r,acc=>if(k==.free)=true then clOf cells r ((n,(cells.lookup n).getD 0)::acc) else clOf cells r acc
def GN{env:Env}:∀(names:List (Str×NameKind))(acc:List (Str×Addr)),(∀x∈names,x.2=.free->∃c,env.cells.lookup x.1=some c)-> (forIn names acc fun x(r:List (Str×Addr))=>if(x.2==.free)=true then do let c <-cellOf env x.1;pure (ForInStep.yield ((x.1,c)::r)) else pure (ForInStep.yield r):Sem (List (Str×Addr)))=pure (clOf env.cells names acc)
 |[],acc,_=>rfl
 |(n,k)::r,acc,h=>by
  rw[List.forIn_cons];have d:=fun a=>GN (env:=env) r a fun x hx=>h x (At _ hx);unfold clOf
  by_cases hk:(k==NameKind.free)=true
  ·have hk':k=.free:=by cases k<;>first|rfl|cases hk
   obtain⟨c,hc⟩:=h (n,k) Ar hk';simp only[hk,if_true];unfold cellOf;rw[hc];simp only[pure_bind,Option.getD_some];exact d _
  ·simp only[hk,Al,if_false,pure_bind]
   exact d _
def K_{scope:Scope}{env:Env}(h:∀x∈scope.names,x.2=.free->∃c,env.cells.lookup x.1=some c):closureFor scope env=pure (clOf env.cells scope.names []):=by
 rw[<-GN scope.names [] h];unfold closureFor;simp
def DV{cells:List (Str×Addr)}{x:Str}{c:Addr}:∀{names:List (Str×NameKind)}{acc:List (Str×Addr)},(∀y∈names,y.2=.free->∃d,cells.lookup y.1=some d)->(∀p∈acc,cells.lookup p.1=some p.2)->(clOf cells names acc).lookup x=some c->cells.lookup x=some c
 |[],acc,_,ha,h=>ha (x,c) (PySem.mem_of_lookup h)
 |(n,k)::r,acc,hn,ha,h=>by
  unfold clOf at h;have a:∀y∈r,y.2=.free->∃d,cells.lookup y.1=some d:=fun y hy=>hn y (At _ hy)
  by_cases hk:(k==NameKind.free)=true
  ·have hk':k=.free:=by cases k<;>first|rfl|cases hk
   obtain⟨d,hd⟩:=hn (n,k) Ar hk';rw[if_pos hk] at h;refine DV a (fun p hp=>?_) h;rcases List.mem_cons.mp hp with rfl|hp
   ·show cells.lookup n=some ((cells.lookup n).getD 0)
    have e:cells.lookup n=some d:=hd;rw[e];rfl
   ·exact ha p hp
  ·rw[if_neg hk] at h
   exact DV a ha h
def DW{x:Str}{c:Addr}:∀{l:List (Str×Addr)},(x,c)∈l->∃d,l.lookup x=some d
 |[],h=>nomatch h
 |(y,d)::l,h=>by
  rw[A9]
  by_cases e:x=y
  ·subst e;exact⟨d,by simp⟩
  ·have hb:(x==y)=false:=by simpa using e
   rw[hb];rcases List.mem_cons.mp h with q|q
   ·cases q;exact absurd rfl e
   ·exact DW q
def tj{cells:List (Str×Addr)}{x:Str}:∀{names:List (Str×NameKind)}{acc:List (Str×Addr)},((x,NameKind.free)∈names\/∃c,(x,c)∈acc)->∃c,(x,c)∈clOf cells names acc
 |[],acc,h=>h.elim (fun q=>nomatch q) id
 |(n,k)::r,acc,h=>by
  unfold clOf
  by_cases hk:(k==NameKind.free)=true
  ·rw[if_pos hk]
   refine tj ?_;rcases h with h|⟨c,h⟩
   ·rcases List.mem_cons.mp h with q|q
    ·cases q;exact .inr ⟨_,Ar⟩
    ·exact .inl q
   ·exact .inr ⟨c,At _ h⟩
  ·rw[if_neg hk]
   refine tj ?_;rcases h with h|h
   ·rcases List.mem_cons.mp h with q|q
    ·cases q;exact absurd rfl hk
    ·exact .inl q
   ·exact .inr h
def cxC(X:Cx)(scope:Scope)(N:List Str)(a:List (Str×Addr))(C:Addr)(s₀:Shared)(H₀:Hp)(ex:List Addr):Cx where
 prog:=X.prog
 w:=X.w
 K:=X.K
 mg:=X.mg
 base:=X.base
 A:=X.A
 N:=N
 s₀:=s₀
 H₀:=H₀
 env:=compEnvC scope a C X.env
 outer:=X.stack
 stack:=X.stack
 ex:=ex
 fn:=fun _=>false
 calm:=X.calm
 pn:=X.pn
 xe:=fun _ _=>False
def nB(X:Cx)(df:List Expr)(t:TT):Prop:=
 ∀(aa:Ψ)(s:Shared)(σ:St)(H:Hp)(Q:Bool->Hp->Prop),Inv X aa σ H s->t σ H Q->
  wpAny (model X.prog X.w) X.A (forIn df true fun c r=>if r=true then do let ok <-isTrue c X.env (eval c X.env);pure (ForInStep.yield ok) else pure (ForInStep.yield r)) (TP X aa σ Q) X.xe s
def cz:TT:=fun _ H Q=>Q true H
def zM{X:Cx}:nB X [] cz:=fun _ _ _ H _ I h=>wpAny_tests_nil ⟨H,I,h⟩
def pN{X:Cx}{c:Expr}{t:TT}(h:PT X c t):nB X [c] t:=fun aa s σ H Q I hw=>wpAny_tests_one (h aa s σ H Q I hw)
def pR(az:List (Option Nat))(σ:St):St:=az.map fun c=>match c with
 |none=>none
 |some j=>(σ[j]?).getD none
def c7(J:It)(g:TG)(tc:TT)(te:TE)(σ:St)(H1:Hp)(D:Addr)(Q:VK):Prop:=
 ∃W:Nat->Nat->St->Hp->Prop,(∃m,W 0 m σ (upd H1 D (.lst [])))/\
 ∀i m d H2,W i m d H2->(J.stop i H2/\Q (.ref D) H2)\/(J.go i H2/\∀x h,J.yld i H2 x h->g x d h fun c j=>tc c j fun b e=>
  if b=true then te c e fun y f=>∃ys a,f D=some (.lst ys)/\ys.length<sizeLine/\a<m/\W (i+1) a c (upd f D (.lst (ys++[y])))
  else ∃a,a<m/\W (i+1) a c e)
def D3(wi:TI)(az:List (Option Nat))(g:TG)(tc:TT)(te:TE):TE:=fun σ H Q=>wi σ H fun J H1=>∀D,H1 D=none->c7 J g tc te (pR az σ) H1 D Q
def D4(N N':List Str)(az:List (Option Nat))(scope:Scope):Prop:=
 az.length=N'.length/\∀i j:Nat,az[i]?=some (some j)->∃x:Str,N'[i]?=some x/\N[j]?=some x/\scope.names.lookup x=some .free
section
variable{X:Cx}{scope:Scope}{N':List Str}{az:List (Option Nat)}{tg iter fh:Expr}{df:List Expr}{wi:TI}{g:TG}{tc:TT}{te:TE}{pos:Pos}
def GO{scope:Scope}{env:Env}{x:Str}:∀{names:List (Str×NameKind)},(names.lookup x=some .free\/names.lookup x=some .cell)-> ((names.map fun(n,k)=>if(k==NameKind.free&&env.scope.kind==.function&&env.kindOf n==some .cell) then(n,NameKind.cell) else(n,k)).lookup x=some .free \/
   (names.map fun(n,k)=>if(k==NameKind.free&&env.scope.kind==.function&&env.kindOf n==some .cell) then(n,NameKind.cell) else(n,k)).lookup x=some .cell)
 |[],h=>by simp at h
 |(n,k)::r,h=>by
  have a:=@GO scope env x r;show List.lookup x ((if(k==NameKind.free&&env.scope.kind==.function&&env.kindOf n==some .cell)=true then(n,NameKind.cell) else(n,k))::_)=_\/List.lookup x ((if(k==NameKind.free&&env.scope.kind==.function&&env.kindOf n==some .cell)=true then(n,NameKind.cell) else(n,k))::_)=_;cases hx:x==n with
  |true=>
   simp only[A9,hx] at h
   by_cases hc:(k==NameKind.free&&env.scope.kind==.function&&env.kindOf n==some .cell)=true
   ·rw[if_pos hc];simp[A9,hx]
   ·rw[if_neg hc];simp only[A9,hx];exact h
  |false=>
   simp only[A9,hx] at h
   by_cases hc:(k==NameKind.free&&env.scope.kind==.function&&env.kindOf n==some .cell)=true
   ·rw[if_pos hc];simp only[A9,hx];exact a h
   ·rw[if_neg hc];simp only[A9,hx];exact a h
def D5{env:Env}{x:Str}{a:NameKind}:∀{names:List (Str×NameKind)},(names.map fun(n,k)=>if(k==NameKind.free&&env.scope.kind==.function&&env.kindOf n==some .cell) then(n,NameKind.cell) else(n,k)).lookup x=some a->
  ∃c,names.lookup x=some c/\(a=c\/(c=.free/\a=.cell))
 |[],h=>by simp at h
 |(n,k)::r,h=>by
  have d:=@D5 env x a r;have h':List.lookup x ((if(k==NameKind.free&&env.scope.kind==.function&&env.kindOf n==some .cell)=true then(n,NameKind.cell) else(n,k))::_)=some a:=h;cases hx:x==n with
  |true=>
   simp only[A9,hx]
   by_cases hc:(k==NameKind.free&&env.scope.kind==.function&&env.kindOf n==some .cell)=true
   ·rw[if_pos hc] at h'
    simp only[A9,hx] at h';cases h';have hk:k=.free:=by
     rw[AL,AL] at hc;cases k<;>first|rfl|exact absurd hc.1.1 ξ
    exact⟨k,rfl,.inr ⟨hk,rfl⟩⟩
   ·rw[if_neg hc] at h'
    simp only[A9,hx] at h';cases h';exact⟨_,rfl,.inl rfl⟩
  |false=>
   simp only[A9,hx]
   by_cases hc:(k==NameKind.free&&env.scope.kind==.function&&env.kindOf n==some .cell)=true
   ·rw[if_pos hc] at h';simp only[A9,hx] at h';exact d h'
   ·rw[if_neg hc] at h';simp only[A9,hx] at h';exact d h'
structure Left(X:Cx)(aa:Ψ)(σ:St)(H':Hp)(s4:Shared)(C:Addr):Prop where
 ns:∃m,s4.heap.Ns C m
 far:X.s₀⁻¹<=C
 nl:C≠X.env.locals
 nc:∀x c,X.env.cells.lookup x=some c->c≠C
 np:∀p∈X.pn++aa,p.1≠C
 no:H' C=none
 back:∀h',AS C s4.heap h'->Inv X aa σ H' {s4 with heap:=h'}
def K'{use:Option (Value->Sem Unit)}{R:Ω}{pp:Pos}(hc:X.calm=true)(hk:scope.kind=.function)(bx:∀y∈scope.names,y.2≠.cell)(bP:∀y∈scope.names,y.2=.local->scope.names.lookup y.1=some .local)(hfr:∀y∈scope.names,y.2=.free->X.env.kindOf y.1=some .cell\/X.env.kindOf y.1=some .free)(Z:D4 X.N N' az scope)(hi:PI X tg iter wi)(hg:∀cl C s₀ H₀ ex,PG (cxC X scope N' cl C s₀ H₀ ex) tg g)(ht:∀cl C s₀ H₀ ex,nB (cxC X scope N' cl C s₀ H₀ ex) df tc)(he:∀cl C s₀ H₀ ex,PE (cxC X scope N' cl C s₀ H₀ ex) fh te)(hs:∀x,foldedSetIterable iter X.env x=pure x){aa:Ψ}{s:Shared}{σ:St}{H:Hp}{Q:VK}(I:Inv X aa σ H s)(h:D3 wi az g tc te σ H Q)(fin:∀(D C:Addr)(H':Hp)(O:Shared)(f:Flow),Left X aa σ H' O C->Q (.ref D) H'->compPost (model X.prog X.w) X.A X.xe use R (.ref D) C (.ok f) O):wpAny (model X.prog X.w) X.A (comprehension (.ListComp fh [⟨tg,iter,df,0⟩] scope pos) scope X.env pp (newList []) (firstAsync [⟨tg,iter,df,0⟩]) (firstIter [⟨tg,iter,df,0⟩] X.env) use) R X.xe s:=by
 have hcl:∀y∈scope.names,y.2=.free->∃c,X.env.cells.lookup y.1=some c:=fun y hy e=>I.ok.has y.1 (hfr y hy e);refine wpAny_comprehension_free (use:=use) rfl hs (K_ hcl) hk bP ?_;refine aX (hi aa s σ H _ I h) fun xv s1 h1=>aX h1 fun oY M h2=>?_;obtain⟨it,fp,tn,J,H2,e,I2,T,bR,f2,q⟩:=h2;subst e;have jd:H2 M⁻¹=none:=I2.hok.fresh (Ag _);obtain⟨W,⟨m0,w0⟩,turn⟩:=q M⁻¹ jd;refine AW (wpAny_newFunctionEnv bx (by intro y hy;simp at hy) (fun ar cL cW=>?_) hk);dsimp only at cL cW ⊢;generalize hD:M⁻¹=D at *;obtain⟨l,e3⟩:∃l:Shared,l={M with heap:=M.heap.push {cls:=.type "list",dict:=none,data:=.seq ([]:List Value).toArray}}:=⟨_,rfl⟩;have h3:l.heap=M.heap.push {cls:=.type "list",dict:=none,data:=.seq ([]:List Value).toArray}:=by rw[e3]
 rw[<-h3] at cL cW ⊢;have hD3:l⁻¹=D+1:=by rw[h3,Heap.size_push,hD]
 have I3:Inv X aa σ (upd H2 D (.lst [])) l:=by
  rw[e3,<-hD];exact I2.lnew (t':=M.toks) (ys:=[]) .nil (AY _)
 obtain⟨Xc,E⟩:∃Xc,Xc=cxC X scope N' (clOf X.env.cells scope.names []) l⁻¹ l (upd H2 D (.lst [])) fp:=⟨_,rfl⟩;have lv:PG Xc tg g:=by rw[E];exact hg _ _ _ _ _
 have ht':nB Xc df tc:=by rw[E];exact ht _ _ _ _ _
 have he':PE Xc fh te:=by rw[E];exact he _ _ _ _ _
 have xP:Xc.prog=X.prog:=by rw[E];rfl
 have xw:Xc.w=X.w:=by rw[E];rfl
 have xK:Xc.K=X.K:=by rw[E];rfl
 have xA:Xc.A=X.A:=by rw[E];rfl
 have xc:Xc.calm=true:=by rw[E];exact hc
 have xe:Xc.env=compEnvC scope (clOf X.env.cells scope.names []) l⁻¹ X.env:=by rw[E];rfl
 have xE:Xc.xe=fun _ _=>False:=by rw[E];rfl
 have F:∀x c,(clOf X.env.cells scope.names []).lookup x=some c->X.env.cells.lookup x=some c:=fun x c e=>DV hcl (fun p hp=>absurd hp (by simp)) e;have oz:∀b∈fp,b≠D/\b<D:=fun b hb=>by
  obtain⟨ob,eb,_⟩:=T.obj 0 _ bR b hb;have:=Ap eb;rw[hD] at this;exact⟨AA this,this⟩
 have hfs:∀b∈frs X.stack,b<D:=fun b hb=>by
  obtain⟨_,ob,eb,_⟩:=I2.stack.mem hb;have:=Ap eb;rw[hD] at this;exact this
 have G:∀b o,l.heap.get? b=some o->ar.get? b=some o:=fun b o e=>by
  have hb:b≠l⁻¹:=AA (Ap e);exact(cW.2 b hb).trans (Ae _ e)
 have hCf:(upd H2 D (.lst [])) l⁻¹=none:=I3.hok.fresh (Ag _);have Ic:Inv Xc aa (pR az σ) (upd H2 D (.lst [])) {l with heap:=ar}:=by
  have okc:Xc.Ok:=by
   rw[E];refine⟨I.ok.mod,hk,I.ok.glob,I.ok.blt,Ag _,fun x y c a b=>I.ok.inj x y c (F x c a) (F y c b),fun x hx=>?_,(fun x c a=>absurd a Ak),I.ok.hd,I.ok.frames,.inl rfl,fun b hb=>⟨?_,fun x c e=>?_⟩,fun b o e=>?_,?_,fun b o e z=>?_,fun b hb z=>?_,?_,fun b hb=>?_⟩
   ·have dN:(relabel scope X.env).names.lookup x=some .cell\/(relabel scope X.env).names.lookup x=some .free:=hx
    have key:∃S,scope.names.lookup x=some S/\(S=.free\/S=.cell):=by
     rcases dN with q|q
     ·obtain⟨S,e1,e2⟩:=D5 q
      rcases e2 with e2|⟨e2,_⟩
      ·exact⟨S,e1,.inr e2.symm⟩
      ·exact⟨S,e1,.inl e2⟩
     ·obtain⟨S,e1,e2⟩:=D5 q
      rcases e2 with e2|⟨e2,_⟩
      ·exact⟨S,e1,.inl e2.symm⟩
      ·exact⟨S,e1,.inl e2⟩
    obtain⟨S,e1,e2⟩:=key;have hm:=PySem.mem_of_lookup e1;rcases e2 with rfl|rfl
    ·obtain⟨c,il⟩:=tj (cells:=X.env.cells) (acc:=[]) (.inl hm)
     exact DW il
    ·exact absurd rfl (bx _ hm)
   ·show b≠l⁻¹
    exact AA (by rw[hD3];exact Nat.lt_succ_of_lt (oz b hb).2)
   ·exact(f2 b hb).2.2.2.2.1 x c (F x c e)
   ·exact I3.bs b o e
   ·exact AB I.ok.bsz I3.sz
   ·obtain⟨f,_,_,fx,_,_⟩:=f2 b z
    rcases fx with fx|fx
    ·exact I.ok.noex b o e fx
    ·have:=AD (Ap e) I.ok.bsz
     (first|lia|omega)
   ·rcases List.mem_cons.mp (I2.stkSub b z) with r|r
    ·exact(f2 b hb).2.1 r
    ·exact(f2 b hb).2.2.1 r
   ·exact I3.stack
   ·exact I3.stkFree b hb
  refine⟨okc,(by rw[E];rfl),I3.bare,?_,?_,fun x c e=>?_,?_,fun x c e=>?_,fun p hp=>?_,?_,?_⟩
  ·rw[E]
   exact Un.kept G
  ·rw[xe]
   refine⟨_,cL,fun i x v e1 e2 e3=>?_⟩;obtain⟨c1,c2⟩:=Z;unfold pR at e2;rw[Ao] at e2;cases e4:az[i]? with
   |none=>rw[e4] at e2;cases e2
   |some cc=>
    rw[e4] at e2;cases cc with
    |none=>cases e2
    |some j=>
     obtain⟨y,d1,d2,d3⟩:=c2 i j e4;have cP:N'[i]?=some x:=by rw[E] at e1;exact e1
     rw[d1] at cP;have BC:y=x:=As cP;subst BC;have e5:σ[j]?=some (some v):=by
      simp only[Option.map_some,Option.some.injEq] at e2;cases e6:σ[j]? with
      |none=>rw[e6] at e2;cases e2
      |some ov=>rw[e6] at e2;simp only[Option.getD_some] at e2;rw[e2]
     have hm:=PySem.mem_of_lookup d3;have vY:oM X.env.scope y:=by
      rcases hfr _ hm rfl with q|q
      ·exact .inr (.inl q)
      ·exact .inr (.inr q)
     obtain⟨m,_,hl⟩:=I3.loc;obtain⟨u,ru,lk⟩:=hl j y v d2 e5 vY;refine⟨u,ru,?_⟩;have yH:∃c,X.env.cells.lookup y=some c/\l.heap.IsCell c (some u):=by
      rcases lk with ⟨k1,_⟩|⟨_,c,k2,k3⟩
      ·rcases hfr _ hm rfl with q|q
       ·rw[k1] at q;cases q
       ·rw[k1] at q;cases q
      ·exact⟨c,k2,k3⟩
     obtain⟨c,k2,k3⟩:=yH;obtain⟨d,hd'⟩:=tj (cells:=X.env.cells) (acc:=[]) (.inl hm);obtain⟨d',aO⟩:=DW hd';have:c=d':=by
      have:=F y d' aO;rw[k2] at this;exact As this
     subst this;refine .inr ⟨?_,c,aO,k3.keeps G⟩;have rl:=GO (scope:=scope) (env:=X.env) (x:=y) (names:=scope.names) (.inl d3);rcases rl with q|q
     ·exact .inr q
     ·exact .inl q
  ·rw[xe] at e
   obtain⟨v,k3⟩:=I3.cell x c (F x c e);exact⟨v,k3.keeps G⟩
  ·rw[xe];exact hCf
  ·rw[xe] at e
   exact I3.freeC x c (F x c e)
  ·have cu:p∈X.pn++aa:=by rw[E] at hp;exact hp
   obtain⟨a1,a2,a3,a4,a5⟩:=I3.pin p cu;refine⟨G _ _ a1,a2,?_,?_,a5⟩
   ·rw[xe]
    show p.1≠l⁻¹;exact AA (Ap a1)
   ·rw[E]
    intro z;rcases List.mem_cons.mp (I3.stkSub p.1 z) with r|r
    ·exact a3 r
    ·exact a4 r
  ·rw[xP,xw]
   exact I3.hok.kept G
  ·unfold pR
   rw[Ab,Z.1,E]
   rfl
 have leave:∀{L:St}{H':Hp}{O:Shared}{h':Heap},Inv Xc aa L H' O->AS l⁻¹ O.heap h'->Inv X aa σ H' {O with heap:=h'}:=fun{L H' O h'} I4 av=>by
  have U:∀b o,M.heap.get? b=some o->b≠D/\b≠l⁻¹:=fun b o e=>by
   have hb:=Ap e;rw[hD] at hb;exact⟨AA hb,AA (by rw[hD3];exact Nat.lt_succ_of_lt hb)⟩
  have Y:∀b o,M.heap.get? b=some o->l.heap.get? b=some o:=fun b o e=>by rw[h3];exact Ae _ e
  have base:Un (frs X.stack) fp (upd H2 D (.lst [])) H' l.heap O.heap:=by
   have:=I4.base;rw[E] at this;exact this
  have hCn:H' l⁻¹=none:=by
   have:=I4.free;rw[xe] at this;exact this
  have os4:O.os=M.os:=by
   have:=I4.os;rw[E] at this;rw[this];show l.os=M.os;rw[e3]
  refine I2.call' (s':={O with heap:=h'}) (ch:=fp) os4 ⟨fun b o q n hb hx=>?_,fun b o q n hb hx=>?_,fun b o q n hx=>?_,fun b o q hx=>?_,fun b xs q=>?_,fun b o u q=>?_,fun b ps q=>?_⟩ ?_ I4.bare fun b hb=>?_
  ·obtain⟨n1,n2⟩:=U b o q
   exact(av.2 b n2).trans (base.keep b o (Y b o q) (by rw[au n1];exact n) hb hx)
  ·obtain⟨n1,n2⟩:=U b o q
   obtain⟨sl,e⟩:=base.slot b o (Y b o q) (by rw[au n1];exact n) hb hx;exact⟨sl,(av.2 b n2).trans e⟩
  ·obtain⟨n1,n2⟩:=U b o q
   exact base.free b o (Y b o q) (by rw[au n1];exact n) hx
  ·obtain⟨n1,n2⟩:=U b o q
   obtain⟨o',e⟩:=base.there b o (Y b o q) hx;exact⟨o',(av.2 b n2).trans e⟩
  ·exact base.tups b xs (by rw[au (zh q jd)];exact q)
  ·exact base.frzs b o u (by rw[au (zh q jd)];exact q)
  ·exact base.tbls b ps (by rw[au (zh q jd)];exact q)
  ·intro b u e
   have jq:=I4.hok b u e;rw[xP,xw] at jq;refine jq.stay (fun c v hc q=>(av.2 c ?_).trans q) (fun _ q=>q) fun _ _ q=>q;rintro rfl;rcases hc with z|z
   ·rw[<-z,hCn] at e;cases e
   ·rw[hCn] at z;cases z
  ·obtain⟨f0,f1,f3,f4,f5,f6⟩:=f2 b hb
   exact⟨f4,f1,f5,f6⟩
 have P:∀{H':Hp},(∀b∈fp,H' b=none)->∀b∈fp,bW Xc aa H' b:=fun{H'} hn b hb=>by
  obtain⟨f0,f1,f3,f4,f5,f6⟩:=f2 b hb;refine⟨hn b hb,?_,?_,.inl (by rw[E];exact hb),fun x c e=>?_,fun p hp=>?_⟩
  ·rw[xe]
   show b≠l⁻¹;exact AA (by rw[hD3];exact Nat.lt_succ_of_lt (oz b hb).2)
  ·rw[E]
   intro z;rcases List.mem_cons.mp (I2.stkSub b z) with r|r
   ·exact f1 r
   ·exact f3 r
  ·rw[xe] at e
   exact f5 x c (F x c e)
  ·rw[E] at hp
   exact f6 p hp
 subst E;have jT:∀n s',(∃i L H',Inv (cxC X scope N' (clOf X.env.cells scope.names []) l⁻¹ l (upd H2 D (.lst [])) fp) aa L H' s'/\tn i s'.heap/\(∀b∈fp,H' b=none)/\W i n L H')->
   codeAny (model X.prog X.w) X.A (.compLoop (.ListComp fh [⟨tg,iter,df,0⟩] scope pos) 0 (.ref it) (.ref D) (compEnvC scope (clOf X.env.cells scope.names []) l⁻¹ X.env)) (compPost (model X.prog X.w) X.A X.xe use R (.ref D) l⁻¹) s':=by
  intro n0 DH vc;refine codeAny_loop rfl (fun n s'=>∃i L H',Inv (cxC X scope N' (clOf X.env.cells scope.names []) l⁻¹ l (upd H2 D (.lst [])) fp) aa L H' s'/\tn i s'.heap/\(∀b∈fp,H' b=none)/\W i n L H') (fun n s' hI=>?_) n0 vc;obtain⟨i,L,H',I',ag,rB,w'⟩:=hI;show wpAny _ X.A ((compTurn (.ListComp fh [⟨tg,iter,df,0⟩] scope pos) 0 (.ref it) (.ref D) (compEnvC scope (clOf X.env.cells scope.names []) l⁻¹ X.env)).onRaise (fun x=>do noteFrame x (compEnvC scope (clOf X.env.cells scope.names []) l⁻¹ X.env);theTreesLotGoes x)) _ _ s';refine wpAny_noted ?_;rw[compTurn_list];refine Aa (wpAny_standAt (Aa ?_));rcases turn i n L H' w' with ⟨stop,qn⟩|⟨go,step⟩
  ·refine aX (T.done (cxC X scope N' (clOf X.env.cells scope.names []) l⁻¹ l (upd H2 D (.lst [])) fp) rfl rfl rfl hc i aa s' L H' _ I' (P rB) ag stop) fun r O ⟨hr,I4⟩=>?_
   subst hr;refine Ad ?_;obtain⟨m,hn,_⟩:=id I4.loc;refine fin D _ H' O _ ⟨⟨m,hn⟩,I3.sz,fun e=>?_,fun x c e=>?_,fun p hp=>AA (Ap (I3.pin p hp).1),I4.free,fun h' av=>leave I4 av⟩ qn
   ·obtain⟨m3,xx,_⟩:=I3.loc
    obtain⟨o3,_,_,o8,_⟩:=xx;exact absurd e.symm (AA (Ap o8))
   ·obtain⟨v,hv⟩:=I3.cell x c e
    obtain⟨o3,o8,_⟩:=hv;exact AA (Ap o8)
  ·refine aX (T.item (cxC X scope N' (clOf X.env.cells scope.names []) l⁻¹ l (upd H2 D (.lst [])) fp) rfl rfl rfl hc i aa s' L H' _ I' (P rB) ag go) fun r O ⟨u,hr,h4⟩=>?_
   subst hr;refine Aa (aX h4 fun _ s5 ⟨x,H5,I5,r5,y5,st5,fr5⟩=>?_);have oU:=I5.pinned (P fr5) (T.obj _ _ st5);refine Aa (wpAny_mono (lv _ s5 L H5 x u _ oU r5 (step x H5 y5)) (fun _ s6 h6=>?_) fun _ _ z=>z.elim);obtain⟨kh,H6,I6,q6⟩:=h6;refine Aa (wpAny_mono (ht' _ s6 kh H6 _ I6 q6) (fun ok s7 h7=>?_) fun _ _ z=>z.elim);obtain⟨H7,I7,q7⟩:=h7;have again:∀{l9:St}{H8:Hp}{s8:Shared}{m':Nat},Inv (cxC X scope N' (clOf X.env.cells scope.names []) l⁻¹ l (upd H2 D (.lst [])) fp) (aa++oV fp s5.heap) l9 H8 s8->m'<n->W (i+1) m' l9 H8->
     ∃m,m<n/\∃i L H',Inv (cxC X scope N' (clOf X.env.cells scope.names []) l⁻¹ l (upd H2 D (.lst [])) fp) aa L H' s8/\tn i s8.heap/\(∀b∈fp,H' b=none)/\W i m L H':=fun{l9 H8 s8 m'} I8 hm w8=>by
    refine⟨m',hm,i+1,l9,H8,I8.unpinned,T.keep _ _ _ st5 fun b hb o e=>(I8.pin (b,o) (Az _ (Az _ (rO hb e)))).1,fun b hb=>?_,w8⟩;obtain⟨o,e,d⟩:=T.obj _ _ st5 b hb;exact(I8.pin (b,o) (Az _ (Az _ (rO hb e)))).2.1
   cases ok with
   |false=>
    obtain⟨m',hm,w7⟩:=q7;exact Ad ⟨rfl,again I7 hm w7⟩
   |true=>
    refine Aa (Aa (wpAny_mono (he' _ s7 kh H7 _ I7 q7) (fun v s8 h8=>?_) fun _ _ z=>z.elim));obtain⟨y,H8,I8,r8,ys,m',mn,xf,wP,w8⟩:=h8;refine Aa (wpAny_mono (kd (X:=cxC X scope N' (clOf X.env.cells scope.names []) l⁻¹ l (upd H2 D (.lst [])) fp) _ s8 kh H8 (.ref D) [y] (.ref D) [v] (fun _ H9=>H9=upd H8 D (.lst (ys++[y]))) I8 rfl (.cons r8 .nil) ⟨D,ys,y,rfl,rfl,mn,xf,rfl⟩) (fun _ s9 h9=>?_) fun _ _ z=>z.elim);obtain⟨_,H9,I9,_,e9⟩:=h9;subst e9;exact Ad (Ad ⟨rfl,again I9 wP w8⟩)
 have start:∃i L H',Inv (cxC X scope N' (clOf X.env.cells scope.names []) l⁻¹ l (upd H2 D (.lst [])) fp) aa L H' {l with heap:=ar}/\tn i ({l with heap:=ar}:Shared).heap/\(∀b∈fp,H' b=none)/\W i m0 L H':=by
  refine⟨0,pR az σ,upd H2 D (.lst []),Ic,T.keep 0 _ _ bR fun b hb o e=>G b o (by rw[h3];exact Ae _ e),fun b hb=>?_,w0⟩;rw[au (oz b hb).1];exact(f2 b hb).1
 have es:({M with heap:=ar,toks:=M.toks+([]:List (Str×Value)).length}:Shared)={l with heap:=ar}:=by rw[e3];rfl
 show codeAny (model X.prog X.w) X.A _ _ ({M with heap:=ar,toks:=M.toks+([]:List (Str×Value)).length}:Shared);rw[es];refine codeAny_compStart_list (jT m0 _ start) (T.self _ 0 _ _ _ ?_ (jT m0 _ start));exact T.keep 0 _ _ bR fun b hb o e=>G b o (by rw[h3];exact Ae _ e)
def La(hc:X.calm=true)(hk:scope.kind=.function)(d:∀y∈scope.names,y.2≠.cell)(j:∀y∈scope.names,y.2=.local->scope.names.lookup y.1=some .local)(hfr:∀y∈scope.names,y.2=.free->X.env.kindOf y.1=some .cell\/X.env.kindOf y.1=some .free)(c:D4 X.N N' az scope)(hi:PI X tg iter wi)(l:∀a C s₀ H₀ ex,PG (cxC X scope N' a C s₀ H₀ ex) tg g)(ht:∀a C s₀ H₀ ex,nB (cxC X scope N' a C s₀ H₀ ex) df tc)(he:∀a C s₀ H₀ ex,PE (cxC X scope N' a C s₀ H₀ ex) fh te)(hs:∀x,foldedSetIterable iter X.env x=pure x:=by intro _;rfl):PE X (.ListComp fh [⟨tg,iter,df,0⟩] scope pos) (D3 wi az g tc te):=by
 intro aa s σ H Q I h;rw[eval_ListComp];refine K' (use:=none) hc hk d j hfr c hi l ht he hs I h fun D C H' o f L q=>?_;obtain⟨m,i⟩:=L.ns;exact⟨m,i,fun h' e=>⟨.ref D,H',L.back h' e,rfl,q⟩⟩
end
end L2
end
section
namespace Zp
open PySem PySem.Spec PyProof.Rows
section
variable{prog:Program}{w:World}{A:Around}{E:Ω}{s:Shared}
def Lb{it t:Addr}{i:Nat}{d:Array Value}{x:Value}{Q:Ω}(c:s.heap.IsTupleIter it t i)(ht:s.heap.IsTuple t d)(hx:d[i]?=some x)(f:∀h',h'.IsTupleIter it t (i+1)->AS it s.heap h'->Q x {s with heap:=h'}):wpAny (model prog w) A (Builtin.SmallTypes.nextOf (.ref it)) Q E s:=by
 obtain⟨o,a,hc,hd⟩:=id c;obtain⟨g,hol,_,h,e⟩:=ht;unfold Builtin.SmallTypes.nextOf;refine Aa (wpAny_callSpecial?_slot (name:=Str.ofString "__next__") c.typeIs F.slot_tuple_iterator_next (A8 F.slot_tuple_iterator_next c.typeIs F.entry_tuple_iterator_next ?_ (F.args_tuple_iterator_next_1 _)));show wpAny _ _ (field (.ref it) 0 >>= _) _ _ s;refine Aa (AR a hd (x:=.ref t) rfl ?_);show wpAny _ _ (if(Value.ref t==Value.none)=true then _ else _) _ _ s;rw[if_neg (show ¬((Value.ref t==Value.none)=true) from Ak)];show wpAny _ _ (field (.ref it) 1 >>= _) _ _ s;refine Aa (AR a hd (x:=.int i 0) rfl ?_);show wpAny _ _ (seqItems? (.ref t) >>= _) _ _ s;refine Aa (wpAny_seqItems hol e ?_);simp only[Int.toNat_natCast,hx];refine Aa (wpAny_setField a hd (by simp) (Ad ⟨x,rfl,Ad (f _ ?_ (AX ..))⟩));exact⟨_,Heap.get?_update_self _ a (Obj.isFreed_of_fields (Obj.data_mapFields hd _)),(Obj.cls_mapFields ..).trans hc,by
  rw[Obj.data_mapFields hd];simp[rawInt]⟩
def Lc{it t:Addr}{i:Nat}{f:Array Value}{Q:Ω}(g:A.handled=none)(d:s.heap.IsTupleIter it t i)(ht:s.heap.IsTuple t f)(hx:f[i]?=none)(j:∀h' e,Heap.ExtBut it s.heap h'->(∃o,h'.get? e=some o/\o.cls=.type "StopIteration")->E (.ref e) {s with heap:=h'}):wpAny (model prog w) A (Builtin.SmallTypes.nextOf (.ref it)) Q E s:=by
 obtain⟨o,c,hc,hd⟩:=id d;obtain⟨l,hol,_,p,h⟩:=ht;unfold Builtin.SmallTypes.nextOf;refine Aa (wpAny_callSpecial?_slot (name:=Str.ofString "__next__") d.typeIs F.slot_tuple_iterator_next (A8 F.slot_tuple_iterator_next d.typeIs F.entry_tuple_iterator_next ?_ (F.args_tuple_iterator_next_1 _)));show wpAny _ _ (field (.ref it) 0 >>= _) _ _ s;refine Aa (AR c hd (x:=.ref t) rfl ?_);show wpAny _ _ (if(Value.ref t==Value.none)=true then _ else _) _ _ s;rw[if_neg (show ¬((Value.ref t==Value.none)=true) from Ak)];show wpAny _ _ (field (.ref it) 1 >>= _) _ _ s;refine Aa (AR c hd (x:=.int i 0) rfl ?_);show wpAny _ _ (seqItems? (.ref t) >>= _) _ _ s;refine Aa (wpAny_seqItems hol h ?_);simp only[Int.toNat_natCast,hx];refine Aa (wpAny_rule (Aa (wpAny_setField c hd (by simp) ?_)));show wpAny _ _ (newExc (.type "StopIteration") [] >>= _) _ _ _;refine Aa ?_;simp only[newExc,newTuple];refine Aa (AW ?_ (by size_fits));refine Aa (m:=firstArgMember _ _) (wpAny_of_eq (a:=Value.none) (by first|rfl|(simp only[firstArgMember];rfl)) ?_);refine AW ?_ (by size_fits);simp only[raiseNew];refine Aa (wpAny_handled ?_)
 first|rw[show A.in1.handled=none from g]|rw[g]
 refine Aa (Ad (wpAny_throw ?_));exact j _ _ (((AX ..).extBut.push _).push _) ⟨_,Aq _ rfl,rfl⟩
end
def Ld{h h':Heap}{a:Addr}{c:Array Value}(x:h.IsTuple a c)(e:∀o,h.get? a=some o->h'.get? a=some o):h'.IsTuple a c:=let ⟨o,ho,r⟩:=x;⟨o,e o ho,r⟩
def GP{prog:Program}{w:World}{A:Around}(l:A.handled=none)(it t:Addr)(c:t≠it)(a:Array Value):Draws prog w A it [it,t] a.size (fun i v=>a[i]?=some v) (fun i h=>h.IsTupleIter it t i/\h.IsTuple t a) where
 live:=fun _ _ st=>let ⟨o,ho,_⟩:=st.1;⟨o,ho⟩
 frame:=fun _ _ _ st hk=>⟨st.1.at fun o e=>hk it (by simp) o e,Ld st.2 fun o e=>hk t (by simp) o e⟩
 item:=fun i s Q E hi st f=>by
  refine Lb st.1 st.2 (x:=a[i]) (by simp[hi]) fun h' g d=>?_;exact f _ h' s.toks (by simp[hi]) ⟨g,st.2.extBut d.extBut c⟩ d
 done:=fun s Q E st j=>Lc l st.1 st.2 (by simp) j
structure Apart(z TI TO i1 i2:Addr)(cq cn:List Addr):Prop where
 z1:z∉cq
 z2:z∉cn
 o1:TO∉cq
 o2:TO∉cn
 m1:i1∈cq
 m2:i2∈cn
 x12:i1∉cn
 x21:i2∉cq
 TIz:TI≠z
 TOz:TO≠z
 TITO:TI≠TO
 TIi1:TI≠i1
 TIi2:TI≠i2
section
variable{prog:Program}{w:World}{A:Around}{E:Ω}{s:Shared}{z TI TO i1 i2:Addr}{cq cn:List Addr}{n1 n2 i:Nat}{P1 P2:Nat->Value->Prop}{S1 S2:Nat->Heap->Prop}{a b:Value}
def Lf{Q:Ω}(D1:Draws prog w A i1 cq n1 P1 S1)(D2:Draws prog w A i2 cn n2 P2 S2)(D:Apart z TI TO i1 i2 cq cn)(hz:IsZip s.heap z TI TO .none)(dR:IsPair s.heap TI (.ref i1) (.ref i2))(dQ:IsPair s.heap TO a b)(h1:S1 i s.heap)(h2:S2 i s.heap)(l1:i<n1)(l2:i<n2)(hQ:∀x y h' tk,P1 i x->P2 i y->IsZip h' z TI TO (rawInt s⁻¹)->IsPair h' TO x y->S1 (i+1) h'->S2 (i+1) h'->IsPair h' s⁻¹ x y->h'.objs.size=s⁻¹+1->
   (∀c o,c≠z->c≠TO->c≠i1->c≠i2->s.heap.get? c=some o->h'.get? c=some o)->Q (.ref s⁻¹) {s with heap:=h',toks:=tk}):
  wpAny (model prog w) A (Builtin.«zip.__next__» ⟨[.ref z],[]⟩) (fun fin s'=>∃v,fin=.done (.ret v)/\Q v s') E s:=by
 have g:∀c∈cq,c≠z:=fun c hc e=>D.z1 (e▸hc);have J:∀c∈cn,c≠z:=fun c hc e=>D.z2 (e▸hc);have L:∀c∈cq,c≠TO:=fun c hc e=>D.o1 (e▸hc);have M:∀c∈cn,c≠TO:=fun c hc e=>D.o2 (e▸hc);have j4:∀c∈cn,c≠i1:=fun c hc e=>D.x12 (e▸hc);have BP:∀c∈cq,c≠i2:=fun c hc e=>D.x21 (e▸hc);have mO:i1≠z:=g _ D.m1;have oW:i2≠z:=J _ D.m2;have iX:TO≠i1:=(L _ D.m1).symm;have pq:TO≠i2:=(M _ D.m2).symm;show wpAny _ _ (field (.ref z) 2 >>= _) _ _ _;refine Aa (AR hz rfl (x:=.bool false) rfl ?_);show wpAny _ _ (field (.ref z) 3 >>= _) _ _ _;refine Aa (AR hz rfl (x:=.ref TI) rfl ?_);refine Aa (wpAny_seqItems dR rfl ?_);show wpAny _ _ (Builtin.SmallTypes.ownedTupleIsFree (.ref z) >>= _) _ _ _;refine Aa ?_;unfold Builtin.SmallTypes.ownedTupleIsFree;refine Aa (AR hz rfl (x:=.none) rfl (Ad ?_));simp only[if_true];refine Aa (wpAny_rule ?_);refine Aa (AR hz rfl (x:=.ref TO) rfl ?_);refine Aa (A2 hz (by simp) fun g1 d k1=>?_);replace d:IsZip g1 z TI TO .ellipsis:=d;refine Aa ?_;simp only[List.zipIdx_cons,List.zipIdx_nil,List.forIn_cons,List.forIn_nil];refine Aa (Aa (wpAny_onRaise ?_));show wpAny _ _ (Builtin.SmallTypes.nextOf (.ref i1) >>= _) _ _ _;refine Aa (D1.item i _ _ _ l1 (D1.frame _ _ _ h1 fun c hc o e=>k1.extBut c o (g c hc) e) fun x g2 mX W X k2=>Ad ?_);have N:IsPair g2 TO a b:=k2.extBut _ _ iX (k1.extBut _ _ D.TOz dQ);refine Aa (wpAny_seqItems N rfl ?_);refine Aa (wpAny_updateSeq_pair N fun g3 u k3=>?_);replace u:IsPair g3 TO x b:=u;refine Aa (wpAny_letGo (Ad ?_));refine Aa (Aa (wpAny_onRaise ?_));show wpAny _ _ (Builtin.SmallTypes.nextOf (.ref i2) >>= _) _ _ _;refine Aa (D2.item i _ _ _ l2 (D2.frame _ _ _ h2 fun c hc o e=>k3.extBut c o (M c hc) (k2.extBut c o (j4 c hc) (k1.extBut c o (J c hc) e))) fun y g4 CZ Y Z h=>Ad ?_);have O:IsPair g4 TO x b:=h.extBut _ _ pq u;refine Aa (wpAny_seqItems O rfl ?_);refine Aa (wpAny_updateSeq_pair O fun g5 l k5=>?_);replace l:IsPair g5 TO x y:=l;refine Aa (wpAny_letGo (Ad (Ad ?_)));refine Aa (wpAny_seqItems l rfl ?_);refine Aa (wpAny_newTuple ?_);have hsz:g5.objs.size=s⁻¹:=by rw[k5.1,h.1,k3.1,k2.1,k1.1]
 have P:IsZip g5 z TI TO .ellipsis:=k5.extBut _ _ D.TOz.symm (h.extBut _ _ oW.symm (k3.extBut _ _ D.TOz.symm (k2.extBut _ _ mO.symm d)));have kk:∀c o,c≠z->c≠TO->c≠i1->c≠i2->s.heap.get? c=some o->g5.get? c=some o:=fun c o f p C F e=>
  k5.extBut _ _ p (h.extBut _ _ F (k3.extBut _ _ p (k2.extBut _ _ C (k1.extBut _ _ f e))))
 have d1:S1 (i+1) g5:=D1.frame _ _ _ X fun c hc o e=>k5.extBut c o (L c hc) (h.extBut c o (BP c hc) (k3.extBut c o (L c hc) e));have d2:S2 (i+1) g5:=D2.frame _ _ _ Z fun c hc o e=>k5.extBut c o (M c hc) e;have S:z<g5.objs.size:=Ap P;have e1:∀c∈cq,∀o,g5.get? c=some o->c<g5.objs.size:=fun c _ o e=>Ap e;show wpAny _ _ (Builtin.SmallTypes.ownedTupleHandOut (.ref z) (.ref g5.objs.size) >>= _) _ _ _;refine Aa ?_;unfold Builtin.SmallTypes.ownedTupleHandOut;have z6:IsZip (g5.push {cls:=.type "tuple",data:=.seq #[x,y]}) z TI TO .ellipsis:=Ae _ P;refine Aa (A2 z6 (by simp) fun g7 G H=>?_);replace G:IsZip g7 z TI TO (rawInt g5.objs.size):=G;refine A2 G (by simp) fun j q I=>?_;replace q:IsZip j z TI TO (rawInt g5.objs.size):=q;have r:∀c o,c≠z->g5.get? c=some o->j.get? c=some o:=fun c o f e=>I.extBut _ _ f (H.extBut _ _ f (Ae _ e));have U:IsPair j g5.objs.size x y:=I.extBut _ _ (Nat.ne_of_gt S) (H.extBut _ _ (Nat.ne_of_gt S) (Aq _ rfl));have T:j.objs.size=g5.objs.size+1:=by rw[I.1,H.1,Heap.size_push]
 rw[hsz] at q U T;refine Ad ⟨_,rfl,?_⟩;show Q (.ref g5.objs.size) _;rw[hsz];exact hQ x y j _ W Y q (r _ _ D.TOz l) (D1.frame _ _ _ d1 fun c hc o e=>r c o (g c hc) e) (D2.frame _ _ _ d2 fun c hc o e=>r c o (J c hc) e) U T fun c o f p C F e=>r c o f (kk c o f p C F e)
def Lg{Q:Fin->Shared->Prop}(D1:Draws prog w A i1 cq n1 P1 S1)(D2:Draws prog w A i2 cn n2 P2 S2)(D:Apart z TI TO i1 i2 cq cn)(hz:IsZip s.heap z TI TO .none)(T:IsPair s.heap TI (.ref i1) (.ref i2))(U:IsPair s.heap TO a b)(h1:S1 i s.heap)(h2:S2 i s.heap)(J:i=n1\/(i<n1/\i=n2))(G:∀h' e tk,(∀c o,c≠z->c≠TO->c≠i1->c≠i2->s.heap.get? c=some o->h'.get? c=some o)->(∃o,h'.get? e=some o/\o.cls=.type "StopIteration")->E (.ref e) {s with heap:=h',toks:=tk}):wpAny (model prog w) A (Builtin.«zip.__next__» ⟨[.ref z],[]⟩) Q E s:=by
 have j:∀c∈cq,c≠z:=fun c hc e=>D.z1 (e▸hc);have v:∀c∈cn,c≠z:=fun c hc e=>D.z2 (e▸hc);have M:∀c∈cq,c≠TO:=fun c hc e=>D.o1 (e▸hc);have N:∀c∈cn,c≠TO:=fun c hc e=>D.o2 (e▸hc);have O:∀c∈cn,c≠i1:=fun c hc e=>D.x12 (e▸hc);have y:i1≠z:=j _ D.m1;have P:i2≠z:=v _ D.m2;have S:TO≠i1:=(M _ D.m1).symm;show wpAny _ _ (field (.ref z) 2 >>= _) _ _ _;refine Aa (AR hz rfl (x:=.bool false) rfl ?_);show wpAny _ _ (field (.ref z) 3 >>= _) _ _ _;refine Aa (AR hz rfl (x:=.ref TI) rfl ?_);refine Aa (wpAny_seqItems T rfl ?_);show wpAny _ _ (Builtin.SmallTypes.ownedTupleIsFree (.ref z) >>= _) _ _ _;refine Aa ?_;unfold Builtin.SmallTypes.ownedTupleIsFree;refine Aa (AR hz rfl (x:=.none) rfl (Ad ?_));simp only[if_true];refine Aa (wpAny_rule ?_);refine Aa (AR hz rfl (x:=.ref TO) rfl ?_);refine Aa (A2 hz (by simp) fun g1 d k1=>?_);replace d:IsZip g1 z TI TO .ellipsis:=d;refine Aa ?_;simp only[List.zipIdx_cons,List.zipIdx_nil,List.forIn_cons,List.forIn_nil];refine Aa (Aa (wpAny_onRaise ?_));have f1:=D1.frame _ _ _ h1 fun c hc o e=>k1.extBut c o (j c hc) e;rcases J with p|⟨L,p⟩
 ·show wpAny _ _ (Builtin.SmallTypes.nextOf (.ref i1) >>= _) _ _ _
  refine Aa (D1.done _ _ _ (p▸f1) fun g2 e k2 he=>?_);obtain⟨q,f,h⟩:=he;have z2:IsZip g2 z TI TO .ellipsis:=k2 _ _ y.symm d;have r:e≠z:=fun x=>by subst x;rw[z2] at f;cases f;simp at h
  refine A2 z2 (by simp) fun g3 _ k3=>G g3 e _ (fun c o g _ l _ x=>k3.extBut _ _ g (k2 _ _ l (k1.extBut _ _ g x))) ⟨q,k3.extBut _ _ r f,h⟩
 ·show wpAny _ _ (Builtin.SmallTypes.nextOf (.ref i1) >>= _) _ _ _
  refine Aa (D1.item i _ _ _ L f1 fun x g2 W X Y k2=>Ad ?_);have C:IsPair g2 TO a b:=k2.extBut _ _ S (k1.extBut _ _ D.TOz U);refine Aa (wpAny_seqItems C rfl ?_);refine Aa (wpAny_updateSeq_pair C fun g3 Z k3=>?_);refine Aa (wpAny_letGo (Ad ?_));refine Aa (Aa (wpAny_onRaise ?_));have f2:S2 i g3:=D2.frame _ _ _ h2 fun c hc o e=>k3.extBut c o (N c hc) (k2.extBut c o (O c hc) (k1.extBut c o (v c hc) e));show wpAny _ _ (Builtin.SmallTypes.nextOf (.ref i2) >>= _) _ _ _;refine Aa (D2.done _ _ _ (p▸f2) fun g4 e u he=>?_);obtain⟨q,f,h⟩:=he;have F:IsZip g4 z TI TO .ellipsis:=u _ _ P.symm (k3.extBut _ _ D.TOz.symm (k2.extBut _ _ y.symm d));have r:e≠z:=fun x=>by subst x;rw[F] at f;cases f;simp at h
  refine A2 F (by simp) fun g5 _ k5=>G g5 e _ (fun c o g H l I x=>k5.extBut _ _ g (u _ _ I (k3.extBut _ _ H (k2.extBut _ _ l (k1.extBut _ _ g x))))) ⟨q,k5.extBut _ _ r f,h⟩
end
def Lh{prog:Program}{w:World}{A:Around}{z TI TO i1 i2:Addr}{cq cn:List Addr}{n1 n2:Nat}{P1 P2:Nat->Value->Prop}{S1 S2:Nat->Heap->Prop}(D1:Draws prog w A.in1 i1 cq n1 P1 S1)(D2:Draws prog w A.in1 i2 cn n2 P2 S2)(D:Apart z TI TO i1 i2 cq cn):WalksT prog w A z (z::TI::TO::(cq++cn)) [z,TO,i1,i2] (min n1 n2) (fun i vals=>∃x y,P1 i x/\P2 i y/\vals=#[x,y])
   (fun i h=>IsZip h z TI TO .none/\IsPair h TI (.ref i1) (.ref i2)/\(∃a b,IsPair h TO a b)/\S1 i h/\S2 i h)
   (fun i T h=>IsZip h z TI TO (rawInt T)/\IsPair h TI (.ref i1) (.ref i2)/\(∃a b,IsPair h TO a b)/\S1 (i+1) h/\S2 (i+1) h/\T≠z/\T≠TO/\T≠i1/\T≠i2) where
 sub:=fun c hc=>by
  simp at hc ⊢;rcases hc with rfl|rfl|rfl|rfl
  ·simp
  ·simp
  ·exact .inr (.inr (.inr (.inl D.m1)))
  ·exact .inr (.inr (.inr (.inr D.m2)))
 frame:=fun i h h' d hk=>by
  obtain⟨hz,g,⟨a,b,j⟩,h1,h2⟩:=d;exact⟨hk z (by simp) _ hz,hk TI (by simp) _ g,⟨a,b,hk TO (by simp) _ j⟩,D1.frame _ _ _ h1 fun c hc o e=>hk c (by simp[hc]) o e,D2.frame _ _ _ h2 fun c hc o e=>hk c (by simp[hc]) o e⟩
 item:=fun i s Q E hi d l=>by
  obtain⟨hz,g,⟨a,b,j⟩,h1,h2⟩:=d;have f:s.TypeIs (.ref z) "zip":=⟨_,hz,rfl⟩;unfold pyNext;refine Aa (wpAny_attempt (wpAny_callSpecial?_slot (name:=Str.ofString "__next__") f F.slot_zip_next (A8 F.slot_zip_next f F.entry_zip_next
   (Lf D1 D2 D hz g j h1 h2 (AD hi (Nat.min_le_left ..)) (AD hi (Nat.min_le_right ..)) fun x y h' tk r u v C G H I X hk=>Ad ?_) (F.args_zip_next_1 _))))
  have lt:∀{c o},s.heap.get? c=some o->s⁻¹≠c:=fun e=>Nat.ne_of_gt (Ap e);obtain⟨Y,L⟩:=D1.live _ _ h1;obtain⟨Z,M⟩:=D2.live _ _ h2;exact l s⁻¹ #[x,y] h' tk ⟨_,_,r,u,rfl⟩ (Ag _) ⟨_,I,rfl,_,rfl⟩ ⟨v,hk _ _ D.TIz D.TITO D.TIi1 D.TIi2 g,⟨_,_,C⟩,G,H,lt hz,lt j,lt L,lt M⟩
   fun c o hc e=>hk c o (fun x=>hc (by simp[x])) (fun x=>hc (by simp[x])) (fun x=>hc (by simp[x])) (fun x=>hc (by simp[x])) e
 go:=fun aT k pos i T s Q E hm l=>by
  obtain⟨hz,g,⟨a,b,j⟩,h1,h2,_⟩:=hm;refine wpAny_letOwnedTupleGo_zip hz fun h' J p=>l h' ⟨J,p.extBut _ _ D.TIz g,⟨a,b,p.extBut _ _ D.TOz j⟩,
   D1.frame _ _ _ h1 fun c hc o e=>p.extBut c o (fun q=>D.z1 (q▸hc)) e,D2.frame _ _ _ h2 fun c hc o e=>p.extBut c o (fun q=>D.z2 (q▸hc)) e⟩ fun c o hc e=>p.extBut _ _ (fun x=>hc (by simp[x])) e
 apart:=fun i T h hm f=>by
  obtain⟨_,_,_,_,_,N,O,P,S⟩:=hm;simp at f;rcases f with rfl|rfl|rfl|rfl
  ·exact N rfl
  ·exact O rfl
  ·exact P rfl
  ·exact S rfl
 done:=fun s Q E d l=>by
  obtain⟨hz,g,⟨a,b,j⟩,h1,h2⟩:=d;have f:s.TypeIs (.ref z) "zip":=⟨_,hz,rfl⟩;have W:min n1 n2=n1\/(min n1 n2<n1/\min n1 n2=n2):=ω
  unfold pyNext;refine Aa (wpAny_attempt (wpAny_callSpecial?_slot (name:=Str.ofString "__next__") f F.slot_zip_next
   (A8 F.slot_zip_next f F.entry_zip_next (Lg D1 D2 D hz g j h1 h2 W fun h' e tk hk he=>?_) (F.args_zip_next_1 _))))
  obtain⟨o,U,hc⟩:=he;refine Aa (wpAny_isInstance (T:="StopIteration") (b:=true) ⟨o,U,hc⟩ isSubtype_stop ?_);exact Ad (l _ tk fun c o hc e=>hk c o (fun x=>hc (by simp[x])) (fun x=>hc (by simp[x])) (fun x=>hc (by simp[x])) (fun x=>hc (by simp[x])) e)
 self:=fun i s Q E d l=>wpAny_pyIter_zip d.1 l
end Zp
end
section
namespace L2
open PySem PySem.Spec PyProof.Rows
section
variable{X:Cx}{aa:Ψ}{σ:St}{H:Hp}{s:Shared}{h':Heap}
def Inv.turneds{t':Nat}{ch:List Addr}(I:Inv X aa σ H s)(hf:∀b∈ch,bW X aa H b)(k:∀b o,b∉ch->s.heap.get? b=some o->h'.get? b=some o):Inv X aa σ H {s with heap:=h',toks:=t'}:=by
 have a:∀b u,H b=some u->b∉ch:=fun b u e z=>by have:=(hf b z).1;rw[this] at e;cases e
 refine I.step (g':=s.gens) (d':=s.drawn) (ch:=ch) (fun b hb=>?_) (fun b o _ _ hc e _=>k b o hc e) (fun b o _ _ hc e _=>⟨o.slots,k b o hc e⟩) (fun _ _ _ _ n=>n)
  (fun b o hc e=>⟨o,k b o hc e⟩) (fun _ _ e=>e) (fun _ _ _ e=>e) (fun b ps e=>⟨#[],by rw[e];simp⟩) (fun m hm=>?_) (fun b u e=>?_) I.bare
 ·obtain⟨f0,f1,f2,f3,f4,f5⟩:=hf b hb
  exact⟨f3,f1,f4,f5⟩
 ·obtain⟨o,es,ep,d,r⟩:=hm
  exact⟨o,es,ep,k _ o (fun z=>(hf _ z).2.1 rfl) d,r⟩
 ·refine(I.hok b u e).stay (fun c v hc q=>k c v ?_ q) (fun _ q=>q) fun _ _ q=>q
  rcases hc with z|z
  ·rw[z];exact a b u e
  ·exact a c _ z
def Inv.adopt{a:Addr}{o:HO}(I:Inv X aa σ H s)(d:H a=none)(h1:X.s₀⁻¹<=a)(h2:a≠X.env.locals)(f:∀x c,X.env.cells.lookup x=some c->c≠a)(g:∀p∈X.pn++aa,p.1≠a)(new:zT X.prog X.w (upd H a o) s.heap a o):Inv X aa σ (upd H a o) s:=by
 refine I.step (h':=s.heap) (g':=s.gens) (t':=s.toks) (d':=s.drawn) (ch:=[a]) (fun b hb=>?_) (fun b o _ _ hc e _=>e) (fun b o _ _ hc e _=>⟨o.slots,e⟩) (fun b o hc e n=>?_)
  (fun b o hc e=>⟨o,e⟩) (fun b xs e=>?_) (fun b o u e=>?_) (fun b ps e=>⟨#[],?_⟩) (fun m hm=>hm) (fun b u e=>?_) I.bare
 ·have e:b=a:=by simpa using hb
  subst e;exact⟨.inr h1,h2,f,g⟩
 ·rw[au (fun z=>hc (by simp[z]))];exact n
 ·rw[au (zh e d)];exact e
 ·rw[au (zh e d)];exact e
 ·rw[au (zh e d),e];simp
 ·by_cases hb:b=a
  ·subst hb;rw[al] at e;cases e;exact new
  ·rw[au hb] at e
   exact(I.hok b u e).stay (fun _ _ _ q=>q) (fun c q=>by rw[au (zh q d)];exact q) fun c xs q=>by rw[au (zh q d)];exact q
def Inv.grown{t':Nat}{ch:List Addr}{a:Addr}{o:HO}(I:Inv X aa σ H s)(hf:∀b∈ch,bW X aa H b)(k:∀b o,b∉ch->s.heap.get? b=some o->h'.get? b=some o)(hp:s⁻¹<=a)(new:zT X.prog X.w (upd H a o) h' a o):Inv X aa σ (upd H a o) {s with heap:=h',toks:=t'}:=by
 have I1:Inv X aa σ H {s with heap:=h',toks:=t'}:=I.turneds hf k;obtain⟨f0,f1,f2,f3,f4,f5⟩:=I.fpOk hp (I.hok.fresh hp);exact I1.adopt f0 (AB I.sz hp) f1 f4 f5 new
def GQ{b t:Addr}{o:Obj}(I:Inv X aa σ H s)(f:bW X aa H b)(hk:X.K.lookup t=some o):t≠b:=by
 intro z;subst z;have e:=I.ok.mod.kin t o hk;rcases f.2.2.2.1 with q|q
 ·exact I.ok.noex t o e q
 ·exact absurd (AD (Ap (I.ok.bs t o e).1) q) (Nat.lt_irrefl _)
def GR{b t:Addr}{xs:List V}(I:Inv X aa σ H s)(f:bW X aa H b)(h:SqT X.K H t xs):t≠b:=by
 rcases h with (h|⟨o,h⟩)|⟨o,_,_,hk,_⟩
 ·exact zh h f.1
 ·exact zh h f.1
 ·exact GQ I f hk
def Li{b t:Addr}{xs:List V}(I:Inv X aa σ H s)(f:bW X aa H b)(h:SqL X.K H t xs):t≠b:=by
 rcases h with (h|⟨o,h⟩)|⟨o,_,_,hk,_⟩
 ·exact zh h f.1
 ·exact zh h f.1
 ·exact GQ I f hk
end
def GS{P:Program}{w:World}{K:Ac}{J:It}{fp wr:List Addr}{it:Addr}{a:Nat->Heap->Prop}{aT:List Expr}{k:Nat}{pos:Pos}(mem:it∈fp)(obj:∀i h,a i h->∀b∈fp,∃o,h.get? b=some o/\∀v,o.data≠.cell v)(keep:∀i h h',a i h->(∀b∈fp,∀o,h.get? b=some o->h'.get? b=some o)->a i h')(hw:∀b∈wr,b∈fp)(W:∀(X:Cx),X.prog=P->X.w=w->X.K=K->X.calm=true->∀(i:Nat)(aa:Ψ)(s:Shared)(σ:St)(H:Hp),Inv X aa σ H s->(∀b∈fp,bW X aa H b)->a i s.heap->(J.go i H\/J.stop i H)->
   ∃(y:List Addr)(n:Nat)(u:Nat->Array Value->Prop)(S:Nat->Heap->Prop)(z:Nat->Addr->Heap->Prop),WalksT P w X.A it y wr n u S z/\S i s.heap/\(∀j h,S j h->a j h)/\
    (J.go i H->i<n/\∀vals,u i vals->∃xs:List V,Vals xs vals.toList/\xs.length<=sizeLine/\∀p,H p=none->J.yld i H (.ref p) (upd H p (.tup xs)))/\(J.stop i H->i=n))
  (self:∀(A:Around)(i:Nat)(s:Shared)(Q:Ω)(E:Ω),a i s.heap->Q (.ref it) s->wpAny (model P w) A (pyIter (.ref it)) Q E s) :
  Turn P w K (.Tuple aT k pos) J fp it a where
 mem:=mem
 obj:=obj
 keep:=keep
 item:=by
  intro X c d f hc i aa s σ H E I hf st l;obtain⟨y,n,u,S,z,WT,C,D,g,_⟩:=W X c d f hc i aa s σ H I hf st (.inl l);obtain⟨hi,N⟩:=g l;subst c d f;refine WT.item i s _ _ hi C fun T vals h' tk hp x F hm hk=>⟨.ref T,rfl,?_⟩;obtain⟨xs,O,hz,hy⟩:=N vals hp;have I1:Inv X aa σ (upd H T (.tup xs)) {s with heap:=h',toks:=tk}:=I.grown (ch:=wr) (fun b hb=>hf b (hw b hb)) hk x (show zT X.prog X.w _ h' T (.tup xs) from⟨hz,vals.toList,O,by have q:IsTup h' T vals:=F;simpa using q⟩);have U:∀b∈fp,b≠T:=fun b hb=>by
   obtain⟨o,e,_⟩:=obj i _ st b hb;exact AA (AD (Ap e) x)
  have r:∀b∈fp,bW X aa (upd H T (.tup xs)) b:=fun b hb=>by
   obtain⟨f0,fr⟩:=hf b hb;exact⟨by rw[au (U b hb)];exact f0,fr⟩
  refine WT.go aT k pos i T _ _ _ hm fun G L M=>?_;have Y:Inv X aa σ (upd H T (.tup xs)) {s with heap:=G,toks:=tk}:=I1.turneds (s:={s with heap:=h',toks:=tk}) (t':=tk) (ch:=wr) (fun b hb=>r b (hw b hb)) M;exact⟨.ref T,_,Y,rfl,hy T (I.hok.fresh x),D _ _ L,fun b hb=>(r b hb).1⟩
 done:=by
  intro X c d f hc i aa s σ H E I hf st l;obtain⟨y,n,u,S,z,WT,C,D,_,g⟩:=W X c d f hc i aa s σ H I hf st (.inr l);subst c d f;have e:=g l;subst e;exact WT.done s _ _ C fun h' tk hk=>⟨rfl,I.turneds (ch:=wr) (fun b hb=>hf b (hw b hb)) hk⟩
 self:=self
def D6(K:Ac)(a c:Addr):It:=
 ⟨fun i H=>∃xs ys,SqT K H a xs/\SqT K H c ys/\i<min xs.length ys.length,
  fun i H v H'=>∃p x y,v=.ref p/\H p=none/\H'=upd H p (.tup [x,y])/\(∀xs,SqT K H a xs->xs[i]?=some x)/\∀ys,SqT K H c ys->ys[i]?=some y,
  fun i H=>∃xs ys,SqT K H a xs/\SqT K H c ys/\i=min xs.length ys.length⟩
def eA:(2:Nat)<=sizeLine:=by rw[sizeLine_eq];decide
def Lj{P:Program}{w:World}{K:Ac}{aT:List Expr}{k:Nat}{pos:Pos}(M N z TI TO i1 i2:Addr)(hd:TI≠z/\TO≠z/\TI≠TO/\TI≠i1/\TI≠i2/\z≠i1/\z≠i2/\TO≠i1/\TO≠i2/\i1≠i2):Turn P w K (.Tuple aT k pos) (D6 K M N) [z,TI,TO,i1,i2] z (fun i h=>IsZip h z TI TO .none/\IsPair h TI (.ref i1) (.ref i2)/\(∃a b,IsPair h TO a b)/\h.IsTupleIter i1 M i/\h.IsTupleIter i2 N i):=by
 obtain⟨d1,d2,d3,d4,d5,d6,d7,d8,d9,Y⟩:=hd;refine GS (wr:=[z,TO,i1,i2]) (by simp) (fun i h st b hb=>?_) (fun i h h' st c=>?_) (fun b hb=>?_) (fun X hP hw hK hc i aa s σ H I hf st n8=>?_) fun A i s Q E st h=>wpAny_pyIter_zip st.1 h
 ·obtain⟨d,l,⟨a,Z,q⟩,⟨o4,r,_,O⟩,⟨o5,C,_,e5⟩⟩:=st
  simp at hb;rcases hb with rfl|rfl|rfl|rfl|rfl
  ·exact⟨_,d,fun v z=>by cases z⟩
  ·exact⟨_,l,fun v z=>by cases z⟩
  ·exact⟨_,q,fun v z=>by cases z⟩
  ·exact⟨_,r,fun v z=>by rw[O] at z;cases z⟩
  ·exact⟨_,C,fun v z=>by rw[e5] at z;cases z⟩
 ·obtain⟨d,l,⟨a,Z,q⟩,r,C⟩:=st
  exact⟨c z (by simp) _ d,c TI (by simp) _ l,⟨a,Z,c TO (by simp) _ q⟩,r.at fun o e=>c i1 (by simp) o e,C.at fun o e=>c i2 (by simp) o e⟩
 ·simp at hb ⊢
  rcases hb with rfl|rfl|rfl|rfl<;>simp
 ·subst hP hw hK
  have hd:∃xs ys,SqT X.K H M xs/\SqT X.K H N ys:=by
   rcases n8 with ⟨xs,ys,a,b,_⟩|⟨xs,ys,a,b,_⟩
   ·exact⟨xs,ys,a,b⟩
   ·exact⟨xs,ys,a,b⟩
  obtain⟨xs,ys,q1,D⟩:=hd;obtain⟨us,r1,p1,_⟩:=I.tuple q1;obtain⟨ws,r2,p2,_⟩:=I.tuple D;have J:=r1.length;have L:=r2.length;have hh:=I.ok.hd hc;obtain⟨d,l,q,r,C⟩:=st;have f:=fun b hb=>GR I (hf b hb) q1;have S:=fun b hb=>GR I (hf b hb) D;have AP:Zp.Apart z TI TO i1 i2 [i1,M] [i2,N]:=by
   refine⟨?_,?_,?_,?_,by simp,by simp,?_,?_,d1,d2,d3,d4,d5⟩
   ·simp;exact⟨d6,(f z (by simp)).symm⟩
   ·simp;exact⟨d7,(S z (by simp)).symm⟩
   ·simp;exact⟨d8,(f TO (by simp)).symm⟩
   ·simp;exact⟨d9,(S TO (by simp)).symm⟩
   ·simp;exact⟨Y,(S i1 (by simp)).symm⟩
   ·simp;exact⟨Y.symm,(f i2 (by simp)).symm⟩
  have WZ:=Zp.Lh (prog:=X.prog) (w:=X.w) (A:=X.A) (Zp.GP (A:=X.A.in1) hh i1 M (f i1 (by simp)) us.toArray) (Zp.GP (A:=X.A.in1) hh i2 N (S i2 (by simp)) ws.toArray) AP;refine⟨_,_,_,_,_,WZ,⟨d,l,q,⟨r,p1⟩,⟨C,p2⟩⟩,fun j h st=>⟨st.1,st.2.1,st.2.2.1,st.2.2.2.1.1,st.2.2.2.2.1⟩,fun g=>?_,fun g=>?_⟩
  ·obtain⟨F,G,T,U,hi⟩:=g
   have e1:=I.tuple_inj T q1;have e2:=I.tuple_inj U D;subst e1 e2;refine⟨by simpa[<-J,<-L] using hi,fun vals hp=>?_⟩;obtain⟨x,y,px,py,rfl⟩:=hp;have oy:us[i]?=some x:=by simpa using px
   have W:ws[i]?=some y:=by simpa using py
   have lx:i<F.length:=ω
   have ly:i<G.length:=ω
   have gx:F[i]?=some F[i]:=by simp[lx]
   have gy:G[i]?=some G[i]:=by simp[ly]
   obtain⟨u,e3,ru⟩:=r1.get gx;obtain⟨u',O,fX⟩:=r2.get gy;rw[oy] at e3;cases e3;rw[W] at O;cases O;refine⟨[F[i],G[i]],.cons ru (.cons fX .nil),eA,fun p hp=>⟨p,_,_,rfl,hp,rfl,fun zs hz=>?_,fun zs hz=>?_⟩⟩
   ·rw[I.tuple_inj hz q1];exact gx
   ·rw[I.tuple_inj hz D];exact gy
  ·obtain⟨F,G,T,U,hi⟩:=g
   have e1:=I.tuple_inj T q1;have e2:=I.tuple_inj U D;subst e1 e2
   simpa[<-J,<-L] using hi
def Lk(e f:Addr)(xs ys:Array Value):Meets (Builtin.«zip.__new__» ⟨[.type "zip",.ref e,.ref f],[]⟩) (fun _ R s=>s.heap.IsTuple e xs/\s.heap.IsTuple f ys/\
   ∀h',IsZip h' (s⁻¹+4) (s⁻¹+2) (s⁻¹+3) .none->IsPair h' (s⁻¹+2) (.ref s⁻¹) (.ref (s⁻¹+1))->
   IsPair h' (s⁻¹+3) .none .none->h'.IsTupleIter s⁻¹ e 0->h'.IsTupleIter (s⁻¹+1) f 0->
   (∀c o,s.heap.get? c=some o->h'.get? c=some o)->R (.ok (.ret (.ref (s⁻¹+4)))) {s with heap:=h'}):=
 .of_wp fun prog w A R s h=>by
  obtain⟨hp,g,d,tk,os⟩:=s;obtain⟨i,j,h⟩:=h;have q:=sub_zip;have l:Heap.IsTuple (Shared.heap ⟨hp,g,d,tk,os⟩) e xs:=i;have p:Heap.IsTuple (Shared.heap ⟨hp.push {cls:=.type "tuple_iterator",data:=.fields #[.ref e,.int 0 0]},g,d,tk,os⟩) f ys:=Heap.IsTuple.push j _
  wp_walk using wpAny_pyIter_tuple l,wpAny_pyIter_tuple p
  refine⟨_,rfl,?_⟩;dsimp only at h ⊢;have a:∀(h:Heap)(o:Obj),(h.push o).objs.size=h.objs.size+1:=fun h o=>Heap.size_push ..;simp only[a,Nat.add_assoc,Nat.reduceAdd];refine h _ ?_ ?_ ?_ ?_ ?_ fun c o x=>Ae _ (Ae _ (Ae _ (Ae _ (Ae _ x))))
  ·exact Heap.get?_push_at (by simp only[a]) rfl
  ·exact Ae _ (Ae _ (Heap.get?_push_at (by simp only[a]) rfl))
  ·exact Ae _ (Heap.get?_push_at (by simp only[a]) rfl)
  ·exact⟨_,Ae _ (Ae _ (Ae _ (Ae _ (Aq _ rfl)))),rfl,rfl⟩
  ·exact⟨_,Ae _ (Ae _ (Ae _ (Heap.get?_push_at (by simp only[a]) rfl))),rfl,rfl⟩
section
variable{X:Cx}{aT:List Expr}{k:Nat}{cr:Pos}
def D7(K:Ac)(ta:TA):TI:=fun σ H R=>ta σ H fun vs H1=>∃a c,vs=[.ref a,.ref c]/\(∃xs,SqT K H1 a xs)/\(∃ys,SqT K H1 c ys)/\R (D6 K a c) H1
def Ll{a b:Expr}{ta:TA}{p pos:Pos}(G:Gl X "zip")(hm:X.mg "zip"=none)(J:AV "zip"=some (.type "zip"))(ha:PA X [a,b] ta)(hs:starEach [a,b] X.env=[(false,eval a X.env),(false,eval b X.env)]:=by rfl)(i:starEach [b] X.env=[(false,eval b X.env)]:=by rfl):PI X (.Tuple aT k cr) (.Call (.Name "zip" p) [a,b] [] pos) (D7 X.K ta):=by
 intro aa s σ H R I h;refine Call_ (hY I G hm J (PyProof.Rows.callWith_type1 (aX (ha pos aa s σ H _ I h) fun us c ⟨vs,H1,I1,j,q1⟩=>?_) (by rw[hs,i]) (by rw[i];rfl)));obtain⟨f,g,e,⟨xs,q1⟩,⟨ys,y⟩,q⟩:=q1;subst e;obtain⟨u,M,rfl,A,C⟩:=vals2 j;cases A;cases C;obtain⟨D,_,E,_⟩:=I1.tuple q1;obtain⟨CC,_,p2,_⟩:=I1.tuple y;refine callType_new F.called_zip ξ (F.typeCall_zip_2 _ _) (F.newCall_zip_2 _ _) (fun obj=>F.args_object_init_3 obj _ _) F.entry_zip_new (Lk f g D.toArray CC.toArray) ⟨E,p2,fun h' d l o r v x=>?_⟩;refine⟨⟨_,d,rfl⟩,wpAny_pyIter_zip d ?_⟩;have L:Inv X aa σ H1 {c with heap:=h'}:=I1.kept (t':=c.toks) x;refine⟨c⁻¹+4,[c⁻¹+4,c⁻¹+2,c⁻¹+3,c⁻¹,c⁻¹+1],_,_,H1,rfl,L,Lj f g _ _ _ _ _ (by refine⟨?_,?_,?_,?_,?_,?_,?_,?_,?_,?_⟩<;>(intro z;have N:(_:Nat)=_:=z;(first|lia|omega))),⟨d,l,⟨_,_,o⟩,r,v⟩,fun b hb=>?_,q⟩;have hb':c⁻¹<=b:=by
  simp only[List.mem_cons,List.not_mem_nil,or_false] at hb;rcases hb with rfl|rfl|rfl|rfl|rfl
  ·exact Nat.le_add_right _ _
  ·exact Nat.le_add_right _ _
  ·exact Nat.le_add_right _ _
  ·exact Ag _
  ·exact Nat.le_add_right _ _
 exact I1.fpOk hb' (I1.hok.fresh hb')
end
def nK(K:Ac)(a:Addr):It:=
 ⟨fun i H=>∃xs,SqL K H a xs/\i<xs.length,
  fun i H v H'=>∃p x,v=.ref p/\H p=none/\H'=upd H p (.tup [.int i,x])/\∀xs,SqL K H a xs->xs[i]?=some x,
  fun i H=>∃xs,SqL K H a xs/\i=xs.length⟩
def Ln{P:Program}{w:World}{K:Ac}{aT:List Expr}{k:Nat}{pos:Pos}(a e it:Addr)(hd:e≠it):Turn P w K (.Tuple aT k pos) (nK K a) [e,it] e (fun i h=>(∃d,IsEnum h e it i d)/\h.IsListIter it a i):=by
 refine GS (wr:=[e,it]) (by simp) (fun i h st b hb=>?_) (fun i h h' st F=>?_) (fun b hb=>hb) (fun X L hw M hc i aa s σ H I hf st N=>?_) fun A i s Q E st h=>?_
 ·obtain⟨⟨d,c⟩,⟨o4,l,_,O⟩⟩:=st
  simp at hb;rcases hb with rfl|rfl
  ·exact⟨_,c,fun v z=>by cases z⟩
  ·exact⟨_,l,fun v z=>by rw[O] at z;cases z⟩
 ·obtain⟨⟨d,c⟩,l⟩:=st
  exact⟨⟨d,F e (by simp) _ c⟩,l.at fun o q=>F it (by simp) o q⟩
 ·subst L hw M
  have D:∃xs,SqL X.K H a xs:=by
   rcases N with ⟨xs,q,_⟩|⟨xs,q,_⟩
   ·exact⟨xs,q⟩
   ·exact⟨xs,q⟩
  obtain⟨xs,q1⟩:=D;obtain⟨us,G,S,_⟩:=I.list q1;have r:=G.length;have W:=I.ok.hd hc;obtain⟨c,l⟩:=st;have f:=fun b hb=>Li I (hf b hb) q1;have Z:=WalksT.enumerateD (prog:=X.prog) (w:=X.w) (A:=X.A) (Draws.list (A:=X.A.in1) W it a (f it (by simp)) us.toArray) e hd (by simp;exact⟨hd,(f e (by simp)).symm⟩) (by simp);refine⟨_,_,_,_,_,Z,⟨c,l,S.isList⟩,fun j h st=>⟨st.1,st.2.1⟩,fun g=>?_,fun g=>?_⟩
  ·obtain⟨y,C,hi⟩:=g
   have e1:=I.list_inj C q1;subst e1;refine⟨by simpa[<-r] using hi,fun vals hp=>?_⟩;obtain⟨t,x,T,rfl⟩:=hp;have Y:us[i]?=some x:=by simpa using T
   have J:y[i]?=some y[i]:=by simp[hi]
   obtain⟨u,e3,U⟩:=G.get J;rw[Y] at e3;cases e3;refine⟨[.int i,y[i]],.cons ⟨_,rfl⟩ (.cons U .nil),eA,fun p hp=>⟨p,_,rfl,hp,rfl,fun zs hz=>?_⟩⟩;rw[I.list_inj hz q1];exact J
  ·obtain⟨y,C,hi⟩:=g
   have e1:=I.list_inj C q1;subst e1
   simpa[<-r] using hi
 ·obtain⟨⟨d,c⟩,_⟩:=st
  exact wpAny_pyIter_enum c h
section
variable{X:Cx}{aT:List Expr}{k:Nat}{cr:Pos}
def Lo(K:Ac)(ta:TA):TI:=fun σ H R=>ta σ H fun vs H1=>∃a,vs=[.ref a]/\(∃xs,SqL K H1 a xs)/\R (nK K a) H1
def GT{a:Expr}{ta:TA}{p pos:Pos}(r:Gl X "enumerate")(hm:X.mg "enumerate"=none)(v:AV "enumerate"=some (.type "enumerate"))(ha:PA X [a] ta)(hs:starEach [a] X.env=[(false,eval a X.env)]:=by rfl):PI X (.Tuple aT k cr) (.Call (.Name "enumerate" p) [a] [] pos) (Lo X.K ta):=by
 intro aa s σ H R I h;refine Call_ (hY I r hm v (PyProof.Rows.callWith_type1 (aX (ha pos aa s σ H _ I h) fun us c ⟨vs,H1,I1,f,q1⟩=>?_) hs rfl));obtain⟨j,e,⟨xs,q1⟩,q⟩:=q1;subst e;obtain⟨u,rfl,l⟩:=vals1 f;cases l;obtain⟨A,_,o,_⟩:=I1.list q1;refine call_enumerate_list o.isList fun h' d g y i=>?_;refine wpAny_pyIter_enum d ?_;have x:Inv X aa σ H1 {c with heap:=h'}:=I1.kept (t':=c.toks) i;refine⟨c⁻¹+1,[c⁻¹+1,c⁻¹],_,_,H1,rfl,x,Ln j _ _ (by intro z;have C:(_:Nat)=_:=z;(first|lia|omega)),⟨⟨_,d⟩,g⟩,fun b hb=>?_,q⟩;have hb':c⁻¹<=b:=by
  simp only[List.mem_cons,List.not_mem_nil,or_false] at hb;rcases hb with rfl|rfl
  ·exact Nat.le_add_right _ _
  ·exact Ag _
 exact I1.fpOk hb' (I1.hok.fresh hb')
def Lp{K:Ac}{a:Addr}{xs:List V}{g:TG}{tb:TS}{D:Ends}{σ:St}{H:Hp}(c:Nat->St->Hp->Prop)(s:c 0 σ H)(u:∀i σ H,i<=xs.length->c i σ H->SqL K H a xs)(hs:∀i x p σ H,xs[i]?=some x->c i σ H->H p=none->g (.ref p) σ (upd H p (.tup [.int i,x])) fun f H2=>tb {D with nx:=c (i+1),ct:=c (i+1),bk:=D.nx} f H2)(hd:∀σ H,c xs.length σ H->D.nx σ H):∃W:Nat->Nat->St->Hp->Prop,(∃m,W 0 m σ H)/\∀i m σ H,W i m σ H->
   ((nK K a).stop i H/\D.nx σ H)\/((nK K a).go i H/\∃N:St->Hp->Prop,(∀h H',N h H'->∃j,j<m/\W (i+1) j h H')/\∀x H',(nK K a).yld i H x H'->g x σ H' fun f H2=>tb {D with nx:=N,ct:=N,bk:=D.nx} f H2):=by
 refine⟨fun i m σ H=>m=xs.length-i/\i<=xs.length/\c i σ H,⟨xs.length,by simp,AY _,s⟩,?_⟩;rintro i m σ H ⟨rfl,hi,p⟩;have q:=u i σ H hi p
 by_cases d:i<xs.length
 ·refine .inr ⟨⟨xs,q,d⟩,c (i+1),fun h H' l=>⟨xs.length-(i+1),ω,rfl,d,l⟩,fun x H' y=>?_⟩
  obtain⟨o,r,rfl,hp,rfl,y⟩:=y;exact hs i r o σ _ (y xs q) p hp
 ·have e:i=xs.length:=ω
  subst e;exact .inl ⟨⟨xs,q,rfl⟩,hd σ H p⟩
def c_:∀{bs:List Bool}{us:List Value},Vals (bs.map V.bl) us->LSm.BoolsAre us bs
 |[],_,.nil=>.nil
 |b::bs,_,.cons r t=>by cases r;exact .cons b (c_ t)
def D8(hc:X.calm=true):fm X (.builtin "all") (fun xs H Q=>∃(l:Addr)(bs:List Bool),xs=[.ref l]/\SqL X.K H l (bs.map V.bl)/\Q (.bl (bs.all id)) H):=by
 intro aa s σ H xs us Q I r h;obtain⟨l,bs,rfl,hq,q⟩:=h;obtain⟨u,rfl,j⟩:=vals1 r;cases j;obtain⟨a,o,p,_⟩:=I.list hq;have x:=I.ok.hd hc;have c:=p.isList;have hb:=c_ o;have d:l<s⁻¹:=by obtain⟨_,e,_⟩:=c;exact Ap e
 refine call_all_walk (wpAny_pyIter_list c ?_);refine⟨s⁻¹,[s⁻¹,l],[s⁻¹],a.toArray.size,_,_,fun i=>(bs[i]?).getD true,rfl,Walks.list (A:=X.A.in1) x _ l (AA d) a.toArray,
  ⟨⟨_,Aq _ rfl,rfl,rfl⟩,c.push _⟩,fun i v s' y z g f=>?_,fun h' tk hk=>?_⟩
 ·obtain⟨b,e,rfl⟩:=hb.get i v (by simpa using g)
  simp only[e,Option.getD_some] at f;exact wpAny_truthy_bool f
 ·have e:((AQ a.toArray.size).all fun i=>(bs[i]?).getD true)=bs.all id:=by
   rw[Ai,hb.length];exact LSm.range_all bs
  rw[e];exact⟨.bl _,H,I.kept (LSm.kept_iter hk),rfl,q⟩
def GU(hc:X.calm=true):fm X (.builtin "any") (fun xs H Q=>∃(l:Addr)(bs:List Bool),xs=[.ref l]/\SqL X.K H l (bs.map V.bl)/\Q (.bl (bs.any id)) H):=by
 intro aa s σ H xs us Q I r h;obtain⟨l,bs,rfl,hq,q⟩:=h;obtain⟨u,rfl,j⟩:=vals1 r;cases j;obtain⟨a,o,p,_⟩:=I.list hq;have x:=I.ok.hd hc;have c:=p.isList;have hb:=c_ o;have d:l<s⁻¹:=by obtain⟨_,e,_⟩:=c;exact Ap e
 refine call_any_walk (wpAny_pyIter_list c ?_);refine⟨s⁻¹,[s⁻¹,l],[s⁻¹],a.toArray.size,_,_,fun i=>(bs[i]?).getD false,rfl,Walks.list (A:=X.A.in1) x _ l (AA d) a.toArray,
  ⟨⟨_,Aq _ rfl,rfl,rfl⟩,c.push _⟩,fun i v s' y z g f=>?_,fun h' tk hk=>?_⟩
 ·obtain⟨b,e,rfl⟩:=hb.get i v (by simpa using g)
  simp only[e,Option.getD_some] at f;exact wpAny_truthy_bool f
 ·have e:((AQ a.toArray.size).any fun i=>(bs[i]?).getD false)=bs.any id:=by
   rw[Ai,hb.length];exact LSm.range_any bs
  rw[e];exact⟨.bl _,H,I.kept (LSm.kept_iter hk),rfl,q⟩
end
section
variable{K:Ac}{a:Addr}{xs:List V}{g:TG}{tc:TT}{te:TE}{σ:St}{H1:Hp}{Q:VK}{D:Addr}
def D_(n:Nat)(a:Nat->St->List V->Hp->Prop)(i m:Nat)(σ:St)(H:Hp):Prop:=m=n-i/\i<=n/\∃ys,ys.length<=i/\a i σ ys H
def eB(n:Nat)(e:Nat->St->List V->Hp->Prop)(D:Addr)(i:Nat)(d:St):VK:=fun y c=>∃ys a,c D=some (.lst ys)/\ys.length<sizeLine/\a<n-i/\D_ n e (i+1) a d (upd c D (.lst (ys++[y])))
def db(n:Nat)(d:Nat->St->List V->Hp->Prop)(i:Nat)(c:St)(e:Hp):Prop:=∃a,a<n-i/\D_ n d (i+1) a c e
def ci{n:Nat}{d:Nat->St->List V->Hp->Prop}{i:Nat}{c:St}{ys:List V}{y:V}{a:Hp}(f:n<=sizeLine)(hi:i<n)(g:ys.length<=i)(e:a D=some (.lst ys))(p:d (i+1) c (ys++[y]) (upd a D (.lst (ys++[y])))):eB n d D i c y a:=
 ⟨ys,n-(i+1),e,ω,ω,rfl,hi,ys++[y],by simp;(first|lia|omega),p⟩
def e_{n:Nat}{c:Nat->St->List V->Hp->Prop}{i:Nat}{a:St}{ys:List V}{d:Hp}(hi:i<n)(e:ys.length<=i)(p:c (i+1) a ys d):db n c i a d:=
 ⟨n-(i+1),ω,rfl,hi,ys,ω,p⟩
def kt{J:It}(n:Nat)(a:Nat->St->List V->Hp->Prop)(l:a 0 σ [] (upd H1 D (.lst [])))(o:∀σ ys H,a n σ ys H->J.stop n H)(s:∀i σ ys H,i<n->a i σ ys H->J.go i H)(hs:∀i σ ys H x H',i<n->ys.length<=i->a i σ ys H->J.yld i H x H'->g x σ H' fun d q=>tc d q fun b h=>if b=true then te d h (eB n a D i d) else db n a i d h)(hd:∀σ ys H,a n σ ys H->Q (.ref D) H):c7 J g tc te σ H1 D Q:=by
 refine⟨D_ n a,⟨n,by simp,AY _,[],Ag _,l⟩,?_⟩;rintro i m f H2 ⟨rfl,hi,ys,j,p⟩
 by_cases c:i<n
 ·exact .inr ⟨s i f ys H2 c p,fun x r y=>hs i f ys H2 x r c j p y⟩
 ·have e:i=n:=ω
  subst e;exact .inl ⟨o f ys H2 p,hd f ys H2 p⟩
def z0(c:Nat->St->List V->Hp->Prop)(j:c 0 σ [] (upd H1 D (.lst [])))(f:∀i σ ys H,c i σ ys H->SqL K H a xs)(hs:∀i σ ys H x,xs[i]?=some x->i<xs.length->ys.length<=i->c i σ ys H->g x σ H fun d l=>tc d l fun b h=>if b=true then te d h (eB xs.length c D i d) else db xs.length c i d h)(hd:∀σ ys H,c xs.length σ ys H->Q (.ref D) H):c7 (eI K a) g tc te σ H1 D Q:=by
 refine kt xs.length c j (fun σ ys H p=>⟨xs,f _ _ _ _ p,Ag _⟩) (fun i σ ys H hi p=>⟨xs,xs[i],f _ _ _ _ p,by simp[hi]⟩) (fun i σ ys H x H' hi hy p y=>?_) hd;obtain⟨e,y⟩:=y;subst e;exact hs i σ ys _ x (y xs (f _ _ _ _ p)) hi hy p
def GV(c:Nat->St->List V->Hp->Prop)(j:c 0 σ [] (upd H1 D (.lst [])))(f:∀i σ ys H,c i σ ys H->SqT K H a xs)(hs:∀i σ ys H x,xs[i]?=some x->i<xs.length->ys.length<=i->c i σ ys H->g x σ H fun d l=>tc d l fun b h=>if b=true then te d h (eB xs.length c D i d) else db xs.length c i d h)(hd:∀σ ys H,c xs.length σ ys H->Q (.ref D) H):c7 (jl K a) g tc te σ H1 D Q:=by
 refine kt xs.length c j (fun σ ys H p=>⟨xs,f _ _ _ _ p,Ag _⟩) (fun i σ ys H hi p=>⟨xs,xs[i],f _ _ _ _ p,by simp[hi]⟩) (fun i σ ys H x H' hi hy p y=>?_) hd;obtain⟨e,y⟩:=y;subst e;exact hs i σ ys _ x (y xs (f _ _ _ _ p)) hi hy p
def GW{lo:Int}{n:Nat}(a:Nat->St->List V->Hp->Prop)(f:a 0 σ [] (upd H1 D (.lst [])))(hs:∀i σ ys H,i<n->ys.length<=i->a i σ ys H->g (.int (lo+i)) σ H fun c h=>tc c h fun b d=>if b=true then te c d (eB n a D i c) else db n a i c d)(hd:∀σ ys H,a n σ ys H->Q (.ref D) H):c7 (g0 lo n) g tc te σ H1 D Q:=by
 refine kt n a f (fun σ ys H p=>Ag _) (fun i σ ys H hi p=>hi) (fun i σ ys H x H' hi hy p y=>?_) hd;obtain⟨e,y⟩:=y;subst e y;exact hs i σ ys _ hi hy p
def Lq{e f:Addr}{ys:List V}(a:Nat->St->List V->Hp->Prop)(r:a 0 σ [] (upd H1 D (.lst [])))(c:∀i σ zs H,a i σ zs H->SqT K H e xs/\SqT K H f ys)(hs:∀i σ zs H p x y,xs[i]?=some x->ys[i]?=some y->i<min xs.length ys.length->zs.length<=i->a i σ zs H->H p=none->g (.ref p) σ (upd H p (.tup [x,y])) fun d s=>tc d s fun b h=>if b=true then te d h (eB (min xs.length ys.length) a D i d) else db (min xs.length ys.length) a i d h)(hd:∀σ zs H,a (min xs.length ys.length) σ zs H->Q (.ref D) H):c7 (D6 K e f) g tc te σ H1 D Q:=by
 refine kt (min xs.length ys.length) a r (fun σ zs H p=>⟨xs,ys,(c _ _ _ _ p).1,(c _ _ _ _ p).2,rfl⟩) (fun i σ zs H hi p=>⟨xs,ys,(c _ _ _ _ p).1,(c _ _ _ _ p).2,hi⟩) (fun i σ zs H v H' hi hy p y=>?_) hd;obtain⟨j,x,l,rfl,hp,rfl,o,q⟩:=y;exact hs i σ zs H j x l (o xs (c _ _ _ _ p).1) (q ys (c _ _ _ _ p).2) hi hy p hp
end
end L2
end
section
namespace Dk
open PySem PySem.Spec PyProof.Rows
def IsD(h:Heap)(d:Addr)(es:Array DictEntry)(ep:Nat):Prop:=∃o,h.get? d=some o/\o.ExactDict/\o.data=.dict es ep
def IsD.at{h h':Heap}{d:Addr}{es:Array DictEntry}{ep:Nat}(x:IsD h d es ep)(k:∀o,h.get? d=some o->h'.get? d=some o):IsD h' d es ep:=let ⟨o,ho,r⟩:=x;⟨o,k o ho,r⟩
def IsD.lt{h:Heap}{d:Addr}{es:Array DictEntry}{ep:Nat}(x:IsD h d es ep):d<h.objs.size:=let ⟨_,ho,_⟩:=x;Ap ho
section
variable{prog:Program}{w:World}{A:Around}{E:Ω}{s:Shared}{it d:Addr}{i ep:Nat}{es:Array DictEntry}
def IsD.typeIs(x:IsD s.heap d es ep):s.TypeIs (.ref d) "dict":=let ⟨o,ho,r⟩:=x;⟨o,ho,r.1.1⟩
def iter{Q:Ω}(hd:(d==sysModules)=false)(hm:IsD s.heap d es ep)(f:Q (.ref s⁻¹) {s with heap:=s.heap.push {cls:=.type "dict_keyiterator",data:=.fields #[.ref d,.int 0 0,.int es.size 0,.int ep 0]}}):wpAny (model prog w) A (pyIter (.ref d)) Q E s:=by
 have a:=hm.typeIs;obtain⟨o,c,hc,e⟩:=id hm;refine wpAny_pyIter_slot a PySem.F.slot_dict_iter (A8 PySem.F.slot_dict_iter a PySem.F.entry_dict_iter ?_ (PySem.F.args_dict_iter_1 _));unfold Builtin.«dict.__iter__»;refine Aa ?_;unfold Builtin.Dict.dictSlotNone;refine Aa (wpAny_notOrdered_dict a ?_);show wpAny _ _ (pure (Value.ref d)) _ _ s;refine Ad ?_;show wpAny _ _ (Builtin.Dict.showsAll d >>= _) _ _ s;unfold Builtin.Dict.showsAll;rw[if_neg (by rw[hd];exact Ak)];refine Aa (Ad ?_);refine Aa (wpAny_dictEntries c e ?_);refine Aa (wpAny_dictEpoch c e ?_);refine Aa (AW (Ad ⟨_,rfl,"dict_keyiterator",_,⟨_,Aq _ rfl,rfl⟩,PySem.F.slot_dict_keyiterator_next.lookup,?_⟩))
 simpa[rawInt] using f
def item{Q:Option Value->Shared->Prop}(a:s.heap.IsKeyIter it d i es.size ep)(hm:IsD s.heap d es ep)(hx:i<es.size)(j:∀h',h'.IsKeyIter it d (i+1) es.size ep->AS it s.heap h'->Q (some es[i].key) {s with heap:=h'}):wpAny (model prog w) A (pyNext (.ref it)) Q E s:=by
 obtain⟨o,c,hc,hd⟩:=id a;obtain⟨l,e,p,f⟩:=id hm;unfold pyNext;refine Aa (wpAny_attempt (wpAny_callSpecial?_slot (name:=Str.ofString "__next__") a.typeIs PySem.F.slot_dict_keyiterator_next
  (A8 PySem.F.slot_dict_keyiterator_next a.typeIs PySem.F.entry_dict_keyiterator_next ?_ (PySem.F.args_dict_keyiterator_next_1 _))))
 refine Aa (Ad ?_);refine Aa ?_;refine Aa ?_
 first|refine Aa (wpAny_typeNameOfWhole_keyiter a.typeIs (Ad ?_))|refine Aa (wpAny_typeNameOf_keyiter a.typeIs (Ad ?_))
 refine Aa (wpAny_fieldsOf c hd ?_);have h:Builtin.Dict_items.ownsTuple "dict_keyiterator"=false:=ξ
 simp only[h,Al,if_false];show wpAny _ _ (if(Value.ref d==Value.none)=true then _ else _) _ _ s;rw[if_neg (show ¬((Value.ref d==Value.none)=true) from Ak)];refine Aa (Ad ?_);refine Aa (wpAny_dictEntries e f ?_);rw[if_neg (by simp)];refine Aa (Ad ?_);refine Aa (wpAny_dictEpoch e f ?_);rw[if_neg (by simp)];refine Ad ?_;simp only[show ¬((i:Int)<0) from ω,if_false,Int.toNat_natCast,Array.getElem?_eq_getElem hx];refine Aa ?_
 first|refine Aa (wpAny_typeNameOfWhole_keyiter a.typeIs (Ad ?_))|refine Aa (wpAny_typeNameOf_keyiter a.typeIs (Ad ?_))
 refine Aa (wpAny_isOneOf_keyiter a.typeIs ?_);show wpAny _ _ (setField (.ref it) 1 (rawInt ((i:Int)+1)) >>= _) _ _ s;refine Aa (wpAny_setField c hd (by simp) ?_);have g:(s.heap.update it (Obj.mapFields (·.setIfInBounds 1 (rawInt ((i:Int)+1))))).IsKeyIter it d (i+1) es.size ep:=
  ⟨_,Heap.get?_update_self _ c (Obj.isFreed_of_fields (Obj.data_mapFields hd _)),(Obj.cls_mapFields ..).trans hc,by rw[Obj.data_mapFields hd];simp[rawInt]⟩
 refine Aa (A0 ?_);refine Aa (wpAny_isOneOf_keyiter (s:={s with heap:=s.heap.update it (Obj.mapFields (·.setIfInBounds 1 (rawInt ((i:Int)+1))))}) g.typeIs ?_);show wpAny _ _ (pure es[i].key) _ _ _;exact Ad (Ad ⟨_,rfl,Ad (j _ g (AX ..))⟩)
def done{Q:Option Value->Shared->Prop}(i:A.handled=none)(c:s.heap.IsKeyIter it d es.size es.size ep)(hm:IsD s.heap d es ep)(j:∀h',Heap.ExtBut it s.heap h'->Q none {s with heap:=h'}):wpAny (model prog w) A (pyNext (.ref it)) Q E s:=by
 obtain⟨o,e,hc,hd⟩:=id c;obtain⟨l,f,p,g⟩:=id hm;unfold pyNext;refine Aa (wpAny_attempt (wpAny_callSpecial?_slot (name:=Str.ofString "__next__") c.typeIs PySem.F.slot_dict_keyiterator_next
  (A8 PySem.F.slot_dict_keyiterator_next c.typeIs PySem.F.entry_dict_keyiterator_next ?_ (PySem.F.args_dict_keyiterator_next_1 _))))
 refine Aa (Ad ?_);refine Aa ?_;refine Aa ?_
 first|refine Aa (wpAny_typeNameOfWhole_keyiter c.typeIs (Ad ?_))|refine Aa (wpAny_typeNameOf_keyiter c.typeIs (Ad ?_))
 refine Aa (wpAny_fieldsOf e hd ?_);have h:Builtin.Dict_items.ownsTuple "dict_keyiterator"=false:=ξ
 simp only[h,Al,if_false];show wpAny _ _ (if(Value.ref d==Value.none)=true then _ else _) _ _ s;rw[if_neg (show ¬((Value.ref d==Value.none)=true) from Ak)];refine Aa (Ad ?_);refine Aa (wpAny_dictEntries f g ?_);rw[if_neg (by simp)];refine Aa (Ad ?_);refine Aa (wpAny_dictEpoch f g ?_);rw[if_neg (by simp)];refine Ad ?_;simp only[show ¬((es.size:Int)<0) from ω,if_false,Int.toNat_natCast,Array.getElem?_eq_none (Ag es.size)];refine Aa ?_
 first|refine Aa (wpAny_typeNameOfWhole_keyiter c.typeIs (Ad ?_))|refine Aa (wpAny_typeNameOf_keyiter c.typeIs (Ad ?_))
 show wpAny _ _ (setField (.ref it) 0 .none >>= _) _ _ s;refine Aa (wpAny_setField e hd (by simp) ?_);show wpAny _ _ (newExc (.type "StopIteration") [] >>= _) _ _ _;refine Aa ?_;simp only[newExc,newTuple];refine Aa (AW ?_ (by size_fits));refine Aa (m:=firstArgMember _ _) (wpAny_of_eq (a:=Value.none) (by first|rfl|(simp only[firstArgMember];rfl)) ?_);refine AW ?_ (by size_fits);simp only[raiseNew];refine Aa (wpAny_handled ?_);rw[show A.in1.handled=none from i];refine Aa (Ad (wpAny_throw ?_));refine Aa (wpAny_isInstance (T:="StopIteration") (b:=true) ⟨_,Aq _ rfl,rfl⟩ isSubtype_stop ?_);exact Ad (j _ (((AX ..).extBut.push _).push _))
def walks(l:A.handled=none)(I d:Addr)(c:d≠I)(es:Array DictEntry)(ep:Nat):Walks prog w A I [I,d] [I] es.size (fun i v=>∃e,es[i]?=some e/\v=e.key) (fun i h=>h.IsKeyIter I d i es.size ep/\IsD h d es ep) where
 sub:=fun b hb=>by simp at hb ⊢;exact .inl hb
 frame:=fun i h h' st k=>⟨let ⟨o,ho,r⟩:=st.1;⟨o,k I (by simp) o ho,r⟩,st.2.at fun o e=>k d (by simp) o e⟩
 item:=fun i s Q E hi st a=>item st.1 st.2 hi fun h' g f=>a _ h' s.toks ⟨es[i],by simp[hi],rfl⟩ ⟨g,st.2.at fun o e=>(f.2 d c).trans e⟩ fun b o hb e=>(f.2 b (fun z=>hb (by simp[z]))).trans e
 done:=fun s Q E st a=>done l st.1 st.2 fun h' j=>a h' s.toks fun b o hb e=>j b o (fun z=>hb (by simp[z])) e
 self:=fun i s Q E st a=>wpAny_pyIter_keyiter st.1 a
def src(lo:(d==sysModules)=false):PySem.W.KdlSrc prog w "dict" d d es.size (fun i v=>∃e,es[i]?=some e/\v=e.key) (fun h=>IsD h d es ep) where
 type:=fun _ hm=>hm.typeIs
 there:=fun _ hm=>⟨hm.lt,hm.lt⟩
 keep:=fun _ _ hm hk=>hm.at fun o e=>hk d (.inl rfl) o e
 notList:=ξ
 notTuple:=ξ
 hint:=fun _ _ _ _ hm hq=>PySem.W.kdl_hint_dict hm.typeIs hq
 iter:=fun _ s a hm=>⟨_,_,(fun _ _ hq=>iter lo hm hq),walks a _ d (AA hm.lt) es ep,⟨⟨_,Aq _ rfl,rfl,rfl⟩,hm.at fun o e=>Ae _ e⟩⟩
end
end Dk
namespace L2
open PySem PySem.Spec PyProof.Rows
section
variable{X:Cx}
def GX(hc:X.calm=true):fm X (.type "list") (fun xs H Q=>∃a kvs,xs=[.ref a]/\H a=some (.dT kvs)/\
  ∀(bs:List Addr),Paired (fun(p:List Key×V) b=>H b=some (.tup (p.1.map kV))) kvs bs->∀l,H l=none->Q (.ref l) (upd H l (.lst (bs.map V.ref)))):=by
 intro aa s σ H xs us Q I r h;obtain⟨a,kvs,rfl,hq,q⟩:=h;obtain⟨u,rfl,v⟩:=vals1 r;cases v;obtain⟨z,y,ys,c,o,es,ep,h1,h2,x,d,E⟩:=(show zT X.prog X.w H s.heap a (.dT kvs) from I.hok a _ hq);have f:es.size=kvs.length:=by
  have:=congrArg List.length d;rw[Ab,<-A1 c] at this
  simpa using this
 refine PySem.W.kdl_call (Dk.src (ep:=ep) (es:=es) y) (I.ok.hd hc) ⟨o,h1,h2,x⟩ (by rw[f];exact z) fun h' tk acc g j e it=>?_;obtain⟨n1,n2⟩:=it;have A:Paired (fun(p:List Key×V) b=>H b=some (.tup (p.1.map kV))) kvs (ys.map (·.2.1)):=by
  have:∀{l:List (List Key×V)}{m:List (List Key×Addr×Value)},KT H l m->Paired (fun(p:List Key×V) b=>H b=some (.tup (p.1.map kV))) l (m.map (·.2.1)):=by
   intro l m q
   induction q with
   |nil=>exact .nil
   |cons hq t ih=>exact .cons hq.2.1 ih
  exact this c
 have C:acc.toList=(ys.map (·.2.1)).map Value.ref:=by
  apply List.ext_getElem?;intro i;have hy:ys.length=acc.size:=by rw[n1,f];exact(A1 c).symm
  by_cases hi:i<acc.size
  ·obtain⟨e',g1,g2⟩:=n2 i acc[i] (by simp[hi])
   have g3:es.toList[i]?=some e':=by simpa using g1
   rw[d,Ao] at g3;have g4:ys[i]?=some ys[i]:=by simp[hy,hi]
   rw[g4] at g3;simp only[Option.map_some,Option.some.injEq] at g3;simp only[Ao,g4,Option.map_some,AH,Array.getElem?_eq_getElem hi];rw[g2,<-g3]
   rfl
  ·have g1:acc.toList.length<=i:=by simp;(first|lia|omega)
   have g2:((ys.map (·.2.1)).map Value.ref).length<=i:=by simp[hy];(first|lia|omega)
   rw[List.getElem?_eq_none g1,List.getElem?_eq_none g2]
 have D:Vals ((ys.map (·.2.1)).map V.ref) acc.toList:=by
  rw[C];generalize ys.map (·.2.1)=bs
  induction bs with
  |nil=>exact .nil
  |cons b bs ih=>exact .cons rfl ih
 refine⟨.ref s⁻¹,_,I.laid j (Ag _) (show zT X.prog X.w _ h' _ (.lst ((ys.map (·.2.1)).map V.ref)) from⟨?_,acc.toList,g,D,by simpa using e⟩),rfl,q _ A _ (I.hok.fresh (Ag _))⟩;simp only[Ab];rw[<-A1 c];exact z
end
end L2
end
section
namespace L2
open PySem PySem.Spec PyProof.Rows
def Tp(H:Hp)(a:Addr)(ps:List Int):Prop:=H a=some (.tup (ps.map V.int))
abbrev Tps(H:Hp)(as:List Addr)(pss:Ξ):Prop:=Paired (fun a ps=>Tp H a ps) as pss
def Same.tp{H H':Hp}{a:Addr}{ps:List Int}(e:Same H H')(h:Tp H a ps):Tp H' a ps:=e _ _ h
def Same.tps{H H':Hp}{as:List Addr}{pss:Ξ}(e:Same H H')(h:Tps H as pss):Tps H' as pss:=Paired.mapP h fun _ _ q=>e.tp q
def Same.new{H:Hp}{a:Addr}{o:HO}(h:H a=none):Same H (upd H a o):=fun b u e=>by rw[au (zh e h)];exact e
def Same.then{H H1:Hp}{a:Addr}{o:HO}(e:Same H H1)(h:H a=none):Same H (upd H1 a o):=fun b u q=>by rw[au (zh q h)];exact e b u q
def Tps.length{H:Hp}{as:List Addr}{pss:Ξ}(h:Tps H as pss):as.length=pss.length:=A1 h
def Tps.get{H:Hp}:∀{as:List Addr}{pss:Ξ}{i:Nat}{a:Addr},Tps H as pss->as[i]?=some a->∃ps,pss[i]?=some ps/\Tp H a ps
 |_,_,_,_,.nil,e=>by simp at e
 |_,_,0,_,.cons r _,e=>by simp at e;subst e;exact⟨_,rfl,r⟩
 |_,_,i+1,a,.cons _ t,e=>by
  obtain⟨u,h1,h2⟩:=Tps.get (i:=i) (a:=a) t (by simpa using e);exact⟨u,by simpa using h1,h2⟩
def Tps.snoc{H:Hp}{as:List Addr}{pss:Ξ}{a:Addr}{ps:List Int}(h:Tps H as pss)(q:Tp H a ps):Tps H (as++[a]) (pss++[ps]):=by
 induction h with
 |nil=>exact .cons q .nil
 |cons r t ih=>exact .cons r ih
def Tps.append{H:Hp}{as bs:List Addr}{pss a:Ξ}(h:Tps H as pss)(q:Tps H bs a):Tps H (as++bs) (pss++a):=by
 induction h with
 |nil=>exact q
 |cons r t ih=>exact .cons r ih
def Tps.take{H:Hp}:∀{as:List Addr}{pss:Ξ}(n:Nat),Tps H as pss->Tps H (as.take n) (pss.take n)
 |_,_,0,_=>.nil
 |_,_,_+1,.nil=>.nil
 |_,_,n+1,.cons r t=>.cons r (Tps.take n t)
def Tps.drop{H:Hp}:∀{as:List Addr}{pss:Ξ}(n:Nat),Tps H as pss->Tps H (as.drop n) (pss.drop n)
 |_,_,0,r=>r
 |_,_,_+1,.nil=>.nil
 |_,_,n+1,.cons _ t=>Tps.drop n t
def bw:∀{as:List Addr}{us:List Value},Vals (as.map V.ref) us->us=as.map Value.ref
 |[],_,.nil=>rfl
 |a::as,_,.cons r t=>by cases r;rw[bw t];rfl
def GY{c:Type}(f:c->Addr):∀l:List c,Vals (l.map fun q=>V.ref (f q)) (l.map fun q=>Value.ref (f q))
 |[]=>.nil
 |a::l=>.cons rfl (GY f l)
section
variable{X:Cx}
def GZ{prog:Program}{w:World}{h:Heap}{c:Addr}{a:List Value}{f:List Int}(hc:IsTup h c a.toArray)(hi:IntsAre a f):AU (zy prog w) h (f.map Sum.inl) c:=by
 obtain⟨o,e,g,k,d⟩:=hc;refine⟨o,a.toArray,k,e,g,d,?_⟩;have:∀{a:List Value}{f:List Int},IntsAre a f->ItemsAre (zy prog w) (f.map Sum.inl) a:=by
  intro a f hi
  induction hi with
  |nil=>exact .nil
  |cons n t h ih=>exact .cons (xS prog w n t) ih
 simpa using this hi
def f'{ps a:List Int}:(ps.map Sum.inl:List Key)=a.map Sum.inl↔ps=a:=
 ⟨fun z=>(List.map_inj_right (f:=(Sum.inl:Int->Key)) (fun x y h=>Sum.inl.inj h)).mp z,fun z=>by rw[z]⟩
def Lr{aa:Ψ}{σ:St}{H:Hp}{s:Shared}{A:Around}{a b:Addr}{ps c:List Int}(I:Inv X aa σ H s)(ha:Tp H a ps)(hb:Tp H b c)(hu:A.units<cLine):SeqAt.EqAt A s (.ref a) (.ref b) (decide (ps=c)):=by
 intro prog w E Q h;obtain⟨g,d,e,_⟩:=I.tuple (SqT.of ha);obtain⟨i,f,p2,_⟩:=I.tuple (SqT.of hb);refine wpAny_eqBool_tuple (knd:=zy prog w) hu (GZ e (intsAre_of d)) (GZ p2 (intsAre_of f)) ?_;rw[show decide ((ps.map Sum.inl:List Key)=c.map Sum.inl)=decide (ps=c) from by simp only[f']];exact h
def D':R2:=fun x y H Q=>∃a b xs ys,x=.ref a/\y=.ref b/\H a=some (.tup xs)/\H b=some (.tup ys)/\xs.length+ys.length<=sizeLine/\∀p H',Same H H'->H' p=some (.tup (xs++ys))->Q (.ref p) H'
def G0:cG X (binaryOp .Add) D':=by
 intro aa s σ H x y v u Q I l p h;obtain⟨a,b,xs,ys,rfl,rfl,ha,hb,hz,q⟩:=h;cases l;cases p;obtain⟨E,c,e,_⟩:=I.tuple (SqT.of ha);obtain⟨r,d,p2,_⟩:=I.tuple (SqT.of hb)
 by_cases hx:xs=[]
 ·subst hx
  have e1:=c.nil_iff.mpr rfl;subst e1;obtain⟨⟨cls,dd,data,A⟩,f,hc,n,hd⟩:=id e;obtain⟨⟨G,C,data2,D⟩,g,i,n2,j⟩:=id p2;simp only at hc hd i j;subst hc hd i j;exact concat_meets ⟨_,f,rfl⟩ ⟨_,g,rfl⟩ noFill_tuple_add seq_tuple_add PySem.F.slot_tuple_add PySem.F.entry_tuple_add (PySem.F.args_tuple_add_2 _ _)
   (tuple_addW0 a b (List.toArray []) r.toArray n n2 dd C A D (by simp)) ⟨f,g,.ref b,H,I,rfl,q b H (Same.refl H) (by simpa using hb)⟩
 ·refine HT.J7 e p2 (fun z=>hx (c.nil_iff.mp z)) (fun z=>⟨.ref a,H,I,rfl,q a H (Same.refl H) ?_⟩) (fun z=>?_) (by rw[<-c.length,<-d.length];exact hz)
  ·rw[d.nil_iff.mp z,AT];exact ha
  ·have hf:=I.hok.fresh (Ag s⁻¹)
   refine⟨.ref s⁻¹,_,I.laid (t':=s.toks) (o:=.tup (xs++ys)) (fun b ob q=>Ae _ q) (Ag _) ?_,rfl,q _ _ (Same.new hf) al⟩;exact⟨by rw[Af];exact hz,_,c.append d,IsTup.new _ _⟩
def ix(neg:Bool)(K:Ac):R2:=fun x y H Q=>∃a l ps as pss,x=.ref a/\y=.ref l/\Tp H a ps/\SqL K H l (as.map V.ref)/\Tps H as pss/\Q (.bl (if neg then !decide (ps∈pss) else decide (ps∈pss))) H
def gb(H:Hp)(ps:List Int)(u:Value):Bool:=match u with
 |.ref b=>(match H b with|some (.tup xs)=>decide (xs=ps.map V.int)|_=>false)
 |_=>false
def Lu{ps a:List Int}:(ps.map V.int:List V)=a.map V.int↔ps=a:=
 ⟨fun z=>(List.map_inj_right (f:=V.int) (fun x y h=>V.int.inj h)).mp z,fun z=>by rw[z]⟩
def G1{H:Hp}{b:Addr}{ps a:List Int}(h:Tp H b a):gb H ps (.ref b)=decide (a=ps):=by
 show(match H b with|some (.tup xs)=>decide (xs=ps.map V.int)|_=>false)=_;rw[show H b=some (.tup (a.map V.int)) from h];simp only[Lu]
def Ea{H:Hp}{ps:List Int}{as:List Addr}{pss:Ξ}(h:Tps H as pss):(as.map Value.ref).any (gb H ps)=decide (ps∈pss):=by
 induction h with
 |nil=>simp
 |@cons a qs as pss r t ih=>
  rw[AF,List.any_cons,ih,G1 r]
  by_cases e:qs=ps
  ·subst e;simp
  ·have:¬ps=qs:=fun z=>e z.symm
   simp[e,this]
def Eb{aa:Ψ}{σ:St}{H:Hp}{s:Shared}{A:Around}{a:Addr}{ps:List Int}(I:Inv X aa σ H s)(ha:Tp H a ps)(hu:A.units<cLine):∀{as:List Addr}{pss:Ξ},Tps H as pss->∀u∈as.map Value.ref,SeqAt.EqAt A s u (.ref a) (gb H ps u):=by
 intro as pss h
 induction h with
 |nil=>intro u hu;simp at hu
 |@cons b qs as pss r t ih=>
  intro u hm;rw[AF] at hm;rcases List.mem_cons.mp hm with rfl|hm
  ·rw[G1 r];exact Lr I r ha hu
  ·exact ih u hm
def G2(hu:X.A.in1.units<cLine):cG X (A6 .In) (ix false X.K):=by
 intro aa s σ H x y v u Q I c d h;obtain⟨a,l,ps,as,pss,rfl,rfl,ha,e,hp,q⟩:=h;cases c;cases d;obtain⟨g,r,f,hz⟩:=I.list e;obtain rfl:=bw r;refine SeqAt.in_listAt (gb H ps) f.isList (fun w hw=>Eb I ha hu hp w (by simpa using hw)) ⟨.bl _,H,I,rfl,?_⟩;rw[show(as.map Value.ref).toArray.any (gb H ps)=(as.map Value.ref).any (gb H ps) by simp,Ea hp];exact q
def Lv(hu:X.A.in1.units<cLine):cG X (A6 .NotIn) (ix true X.K):=by
 intro aa s σ H x y v u Q I c d h;obtain⟨a,l,ps,as,pss,rfl,rfl,ha,e,hp,q⟩:=h;cases c;cases d;obtain⟨g,r,f,hz⟩:=I.list e;obtain rfl:=bw r;refine SeqAt.notIn_listAt (gb H ps) f.isList (fun w hw=>Eb I ha hu hp w (by simpa using hw)) ⟨.bl _,H,I,rfl,?_⟩;rw[show(as.map Value.ref).toArray.any (gb H ps)=(as.map Value.ref).any (gb H ps) by simp,Ea hp];exact q
def pS{aa:Ψ}{σ:St}{H:Hp}{s:Shared}{a:Addr}{ps:List Int}(I:Inv X aa σ H s)(ha:Tp H a ps):Reads s.heap (.ref a) (.tuple (ps.map A7)) []:=by
 obtain⟨d,r,p,_⟩:=I.tuple (SqT.of ha);obtain⟨o,c,hc,n,hd⟩:=id p;exact .tuple c hc hd ((PySem.W.ke_carried (intsAre_of r)).reads s.heap)
def Lw{aa:Ψ}{σ:St}{H:Hp}{s:Shared}(I:Inv X aa σ H s):∀{as:List Addr}{pss:Ξ},Tps H as pss->ReadsAll s.heap (as.map Value.ref) (pss.map fun ps=>PyData.tuple (ps.map A7)) []:=by
 intro as pss h
 induction h with
 |nil=>exact .nil
 |cons r t ih=>exact .cons (as:=[]) (bs:=[]) (pS I r) ih
def tt{aa:Ψ}{σ:St}{H:Hp}{s:Shared}{l:Addr}{as:List Addr}{pss:Ξ}(I:Inv X aa σ H s)(c:SqL X.K H l (as.map V.ref))(h:Tps H as pss):Reads s.heap (.ref l) (.list (pss.map fun ps=>PyData.tuple (ps.map A7))) [l]:=by
 obtain⟨d,r,p,_⟩:=I.list c;obtain rfl:=bw r;obtain⟨o,a,hc,n,hd⟩:=p.isList;exact .list a hc hd (by simpa using Lw I h)
def G3(ps:List Int):PyData.canLay0 (.tuple (ps.map A7))=true:=by simp[PyData.canLay0,PySem.W.ke_canLayAll0]
def G4(ps:List Int):PyData.depth (.tuple (ps.map A7))=1:=by simp[PyData.depth,PySem.W.ke_depthAll]
def tD(ps:List Int):SeqAt.shaped (.tuple (ps.map A7))=true:=by
 simp[SeqAt.shaped,G3,G4]
def G5:∀pss:Ξ,PyData.canLayAll0 (pss.map fun ps=>PyData.tuple (ps.map A7))=true
 |[]=>rfl
 |ps::r=>by rw[AF,PyData.canLayAll0,G3,G5 r];rfl
def G6:∀pss:Ξ,PyData.depthAll (pss.map fun ps=>PyData.tuple (ps.map A7))<=1
 |[]=>AY _
 |ps::r=>by rw[AF,PyData.depthAll,G4];exact Nat.max_le.mpr ⟨Ag _,G6 r⟩
def tH(pss:Ξ):SeqAt.shaped (.list (pss.map fun ps=>PyData.tuple (ps.map A7)))=true:=by
 have:=G6 pss;have e:PyData.depth (.list (pss.map fun ps=>PyData.tuple (ps.map A7)))<=64:=by rw[PyData.depth];(first|lia|omega)
 unfold SeqAt.shaped;rw[decide_eq_true e,PyData.canLay0,G5]
 rfl
def Ec:∀pss c:Ξ,sameAll (pss.map fun ps=>PyData.tuple (ps.map A7)) (c.map fun ps=>PyData.tuple (ps.map A7))=decide (pss=c)
 |[],[]=>by simp[sameAll]
 |[],_::_=>by simp[sameAll]
 |_::_,[]=>by simp[sameAll]
 |a::r,b::t=>by
  simp only[AF,sameAll,same,PySem.W.ke_sameAll,Ec r t]
  by_cases h:a=b<;>by_cases h':r=t<;>simp[h,h']
def tI(ps:List Int):(Shape.tuples .int).has (.tuple (ps.map A7))=true:=by simp[Shape.has]
def tL(pss:Ξ):(Shape.list (.tuples .int)).has (.list (pss.map fun ps=>PyData.tuple (ps.map A7)))=true:=by simp[Shape.has]
def ku(neg:Bool)(K:Ac):R2:=fun x y H Q=>(∃a b ps c,x=.ref a/\y=.ref b/\Tp H a ps/\Tp H b c/\Q (.bl (if neg then !decide (ps=c) else decide (ps=c))) H) \/
 (∃l m as bs pss d,x=.ref l/\y=.ref m/\SqL K H l (as.map V.ref)/\Tps H as pss/\SqL K H m (bs.map V.ref)/\Tps H bs d/\Q (.bl (if neg then !decide (pss=d) else decide (pss=d))) H)
def G7(hu:X.A.units+64<cLine):cG X (A6 .Eq) (ku false X.K):=by
 intro aa s σ H x y v u Q I e f h;rcases h with ⟨a,b,ps,c,rfl,rfl,ha,hb,q⟩|⟨l,m,as,bs,pss,d,rfl,rfl,g,hp,hm,hq,q⟩
 ·cases e
  cases f;refine eq_dataH_same (pS I ha) (pS I hb) (tD _) (tD _) hu (SeqAt.noMix_of_shape (.tuples .int) rfl _ _ (tI _) (tI _)) ?_;rw[show same (.tuple (ps.map A7)) (.tuple (c.map A7))=decide (ps=c) from by simp only[same];exact PySem.W.ke_sameAll ps c];exact⟨.bl _,H,I,rfl,q⟩
 ·cases e
  cases f;refine eq_dataH_same (tt I g hp) (tt I hm hq) (tH _) (tH _) hu (SeqAt.noMix_of_shape (.list (.tuples .int)) rfl _ _ (tL _) (tL _)) ?_;rw[show same (.list (pss.map fun ps=>PyData.tuple (ps.map A7))) (.list (d.map fun ps=>PyData.tuple (ps.map A7)))=decide (pss=d) from by simp only[same];exact Ec pss d];exact⟨.bl _,H,I,rfl,q⟩
def Lx(hu:X.A.units+64<cLine):cG X (A6 .NotEq) (ku true X.K):=by
 intro aa s σ H x y v u Q I e f h;rcases h with ⟨a,b,ps,c,rfl,rfl,ha,hb,q⟩|⟨l,m,as,bs,pss,d,rfl,rfl,g,hp,hm,hq,q⟩
 ·cases e
  cases f;refine ne_dataH_same (pS I ha) (pS I hb) (tD _) (tD _) hu (SeqAt.noMix_of_shape (.tuples .int) rfl _ _ (tI _) (tI _)) ?_;rw[show same (.tuple (ps.map A7)) (.tuple (c.map A7))=decide (ps=c) from by simp only[same];exact PySem.W.ke_sameAll ps c];exact⟨.bl _,H,I,rfl,q⟩
 ·cases e
  cases f;refine ne_dataH_same (tt I g hp) (tt I hm hq) (tH _) (tH _) hu (SeqAt.noMix_of_shape (.list (.tuples .int)) rfl _ _ (tL _) (tL _)) ?_;rw[show same (.list (pss.map fun ps=>PyData.tuple (ps.map A7))) (.list (d.map fun ps=>PyData.tuple (ps.map A7)))=decide (pss=d) from by simp only[same];exact Ec pss d];exact⟨.bl _,H,I,rfl,q⟩
def zlh:V->List V->Hp->VK->Prop:=fun x vs H Q=>∃l xs i y,x=.ref l/\vs=[.int i,y]/\H l=some (.lst xs)/\0<=i/\i<=xs.length/\xs.length<sizeLine/\Q .non (upd H l (.lst (xs.take i.toNat++y::xs.drop i.toNat)))
def G8:ka X "list.insert" zlh:=by
 intro aa s σ H x vs v us Q I f g h;obtain⟨l,xs,i,y,rfl,rfl,c,p,hi,hz,q⟩:=h;cases f;obtain⟨u,d,rfl,j,o⟩:=g.two;obtain⟨t,rfl⟩:=j;obtain⟨z,a,n,r,A,e⟩:=I.lstM c;have C:sizeLine<2 ^ 62:=by rw[sizeLine_eq];decide
 have hf:Builtin.List.listFitsIndex i=true:=by
  unfold Builtin.List.listFitsIndex;simp only[AL,decide_eq_true_eq];constructor<;>(first|lia|omega)
 refine call_meets F.slot_list_insert ⟨_,e,rfl⟩ F.entry_list_insert (F.args_list_insert_3 _ _ _) (PySem.AutoSeq1.list_insert_list_int_val_1 l a.toArray n i t d (by simp[hf]) (by rw[Ai];(first|lia|omega))) ⟨e,?_⟩;refine⟨.non,_,I.lset (its':=a.take i.toNat++d::a.drop i.toNat) (t':=s.toks) c e ?_ ((r.take _).append (.cons o (r.drop _))) ?_,rfl,q⟩
 ·have hk:(if i<0 then(i+(a.toArray.size:Int)).toNat else min i.toNat a.toArray.size)=i.toNat:=by
   rw[if_neg ω,Ai];(first|lia|omega)
  dsimp only;rw[hk];simp;exact Au (by rw[List.length_drop];exact Ag _)
 ·rw[Af,Am,Av,List.length_drop]
  (first|lia|omega)
def Ly:fm X (.type "int") (fun xs H Q=>∃x n,xs=[.str x]/\PySem.intText? x=some n/\x.length<=640/\Q (.int n) H):=by
 intro aa s σ H xs us Q I r h;obtain⟨x,n,rfl,a,c,q⟩:=h;obtain⟨u,rfl,t,rfl⟩:=vals1 r;exact PySem.W.KIN.call_text a c ⟨.int n,H,I.tok _,⟨_,rfl⟩,q⟩
end
end L2
end
section
namespace L2
open PySem PySem.Spec PyProof.Rows
section
variable{X:Cx}{aa:Ψ}{σ:St}{H:Hp}{s:Shared}
def Lz{A:Around}(h:A.units+64<cLine):A.in1.in1.units<cLine:=by show A.units+1+1<cLine;(first|lia|omega)
def in1_units{A:Around}(h:A.units+64<cLine):A.in1.units<cLine:=by show A.units+1<cLine;(first|lia|omega)
def Ed(H:Hp)(p:Addr)(l:List Int):Prop:=∃n b ps,l=n::ps/\H p=some (.tup [.int n,.ref b])/\Tp H b ps
def LA{p:Addr}{l:List Int}(I:Inv X aa σ H s)(h:Ed H p l):ck.IsPr s.heap (.ref p) l:=by
 obtain⟨n,b,ps,rfl,h1,h2⟩:=h;obtain⟨g,a,c,_⟩:=I.tuple (SqT.of (K:=X.K) h1);obtain⟨u,i,rfl,⟨t,rfl⟩,d⟩:=vals2 a;cases d;obtain⟨e,f,p2,_⟩:=I.tuple (SqT.of (K:=X.K) h2);exact⟨p,b,n,t,e,ps,rfl,rfl,c,p2,intsAre_of f⟩
def Ee{a c:Type}{R:a->c->Prop}{l:List a}{m:List c}(p:Paired R l m):∀(i:Nat) x y,l[i]?=some x->m[i]?=some y->R x y:=by
 induction p with
 |nil=>intro i x y h;simp at h
 |cons r t ih=>
  intro i x y h1 h2;cases i with
  |zero=>simp at h1 h2;subst h1 h2;exact r
  |succ i=>exact ih i x y (by simpa using h1) (by simpa using h2)
def addrOf:Value->Addr
 |.ref a=>a
 |_=>0
def tQ:Sp:=fun vs H Q _=>∃a ps,vs=[.ref a]/\Tp H a ps/\∀p,H p=none->Q (.ref p) (upd H p (.tup [.int ps.length,.ref a]))
def G9{b:Addr}(h:bW X aa H b):∀c∈[b],bW X aa H c:=fun c hc=>by rw[List.mem_singleton.mp hc];exact h
def pW{H':Hp}{b:Addr}(f:bW X aa H b)(a:H' b=none):bW X aa H' b:=⟨a,f.2⟩
def G_{b:Addr}(I:Inv X aa σ H s)(f:bW X aa H b):b∉frs X.stack:=fun hb=>by
 rcases List.mem_cons.mp (I.stkSub b hb) with e|e
 ·exact f.2.1 e
 ·exact f.2.2.1 e
def LB{k:Nat}{f l:Addr}{fd:FuncData}{as:List Addr}{pss:Ξ}{x:Str}{Q:Ω}(F:FnOk X.prog X.w X.K X.mg X.base aR k f fd [x] tQ)(hr:Room (k+2) X.A)(hb:Binds X.K fd [x] [])(I:Inv X aa σ H s)(hl:SqL X.K H l (as.map V.ref))(ht:Tps H as pss)(dC:pss.length<1000)(h:∀D H'(C:List (List Int×Addr)) s',Inv X aa σ H' s'->Same H H'->H D=none->H' D=some (.lst (C.map fun q=>V.ref q.2))->C.Perm (pss.zip as)->
   C.Pairwise (fun a b=>HT.lexLt ((b.1.length:Int)::b.1) ((a.1.length:Int)::a.1)=false)->Q (.ref D) s'):
  wpAny (model X.prog X.w) X.A (call (.builtin "sorted") [.ref l] [(Str.ofString "key",.ref f)]) Q X.xe s:=by
 have hu:X.A.units+64<cLine:=hr.units;obtain⟨ah,r1,p1,hz⟩:=I.list hl;have W:=r1.length;obtain rfl:=bw r1;have aJ:=ht.length;rw[Ab] at W hz;have O:(as.map Value.ref).length<=sizeLine:=by rw[Ab];exact hz
 generalize hvs:as.map Value.ref=vs at p1 O;have qU:vs.length=as.length:=by rw[<-hvs,Ab]
 refine call_function_entry_kw kind_sorted plain_sorted entry_sorted (ksk_s1 _ _) ?_;unfold Builtin.«sorted»;refine Aa (m:=checkCount "sorted" 1 1 _) (Ad ?_);refine Aa (collect_list p1.isList ?_ O);refine Aa (wpAny_newList ?_ O);have hsz:((s.heap.push (seqObj "list" #[] 0)).update s⁻¹ (AO (·++vs.toArray))).objs.size=s⁻¹+1:=by
  rw[Heap.size_update,size_push']
 have g:(((s.heap.push (seqObj "list" #[] 0)).update s⁻¹ (AO (·++vs.toArray))).push (seqObj "list" vs.toArray 0)).get? (s⁻¹+1)=some (seqObj "list" vs.toArray 0):=by
  rw[<-hsz];exact Aq _ rfl
 have keep:∀b o,s.heap.get? b=some o->(((s.heap.push (seqObj "list" #[] 0)).update s⁻¹ (AO (·++vs.toArray))).push (seqObj "list" vs.toArray 0)).get? b=some o:=fun b o q=>by
  have J:b<s⁻¹:=Ap q;rw[Heap.get?_push_ne _ _ _ (by rw[hsz];exact AA (Nat.lt_succ_of_lt J)),Heap.get?_update_ne _ _ _ _ (AA J),Heap.get?_push_ne _ _ _ (AA J)];exact q
 show wpAny _ _ _ _ _ {s with heap:=((s.heap.push (seqObj "list" #[] 0)).update s⁻¹ (AO (·++vs.toArray))).push (seqObj "list" vs.toArray 0)};rw[hsz];generalize hA:((s.heap.push (seqObj "list" #[] 0)).update s⁻¹ (AO (·++vs.toArray))).push (seqObj "list" vs.toArray 0)=d at g keep ⊢;have I1:Inv X aa σ H {s with heap:=d}:=I.kept (t':=s.toks) keep;have P:bW X aa H (s⁻¹+1):=I.fpOk (Nat.le_succ _) (I.hok.fresh (Nat.le_succ _));generalize hD:s⁻¹+1=D at g P ⊢;have BI:D<d.objs.size:=Ap g;refine Aa (A0 (wpAny_call_entry_kw slot_list_sort ⟨_,g,rfl⟩ entry_list_sort ?body (ksk_l1 _ _)))
 case body=>
  show wpAny (model X.prog X.w) X.A.in1.in1 (Builtin.«list.sort» ⟨[.ref D],[(Str.ofString "key",.ref f)]⟩) _ _ _;rw[ksk_t1];unfold ksk_tree;refine Aa (listItems_at g rfl ?_);refine Aa (listUpdate_at g rfl ?_ (by rw[Ai];exact O) (AY _));obtain⟨e1,kN⟩:∃e1,(d.update D (AO fun _=>(#[]:Array Value))).get? D=some (seqObj "list" #[] e1):=⟨_,get?_update_seq g fun _=>#[]⟩;refine Aa (seqEpoch_at kN rfl ?_);refine Aa (wpAny_newTuple ?_ (by show vs.length<=_;exact O));refine Aa (wpAny_newList ?_ (AY _));refine A0 ?_;have I2:Inv X aa σ H {s with heap:=d.update D (AO fun _=>(#[]:Array Value))}:=
   Inv.turneds (s:={s with heap:=d}) (t':=s.toks) (ch:=[D]) I1 (G9 P) fun b o hb q=>by rw[Heap.get?_update_ne _ _ _ _ (fun z=>hb (by simp[z]))];exact q
  have I3:Inv X aa σ H {s with heap:=((d.update D (AO fun _=>(#[]:Array Value))).push (seqObj "tuple" vs.toArray 0))}:=I2.kept (t':=s.toks) fun b u q=>Ae _ q;have mM:bW X aa H ((d.update D (AO fun _=>(#[]:Array Value))).push (seqObj "tuple" vs.toArray 0)).objs.size:=I3.fpOk (Ag _) (I3.hok.fresh (Ag _));have uM:((d.update D (AO fun _=>(#[]:Array Value))).push (seqObj "tuple" vs.toArray 0)).objs.size≠D:=by
   rw[size_push',Heap.size_update];(first|lia|omega)
  have I4:Inv X aa σ H {s with heap:=(((d.update D (AO fun _=>(#[]:Array Value))).push (seqObj "tuple" vs.toArray 0)).push (seqObj "list" #[] 0))}:=I3.kept (t':=s.toks) fun b u q=>Ae _ q;have vR:(((d.update D (AO fun _=>(#[]:Array Value))).push (seqObj "tuple" vs.toArray 0)).push (seqObj "list" #[] 0)).get? ((d.update D (AO fun _=>(#[]:Array Value))).push (seqObj "tuple" vs.toArray 0)).objs.size=some (seqObj "list" #[] 0):=Aq _ rfl;have aZ:(((d.update D (AO fun _=>(#[]:Array Value))).push (seqObj "tuple" vs.toArray 0)).push (seqObj "list" #[] 0)).get? D=some (seqObj "list" #[] e1):=Ae _ (Ae _ kN);show wpAny (model X.prog X.w) X.A.in1.in1 (ksk_rest D (.ref f) false vs.toArray e1 (.ref ((d.update D (AO fun _=>(#[]:Array Value))).push (seqObj "tuple" vs.toArray 0)).objs.size)) _ _ {s with heap:=((d.update D (AO fun _=>(#[]:Array Value))).push (seqObj "tuple" vs.toArray 0)).push (seqObj "list" #[] 0)};generalize ((d.update D (AO fun _=>(#[]:Array Value))).push (seqObj "tuple" vs.toArray 0)).objs.size=kS at *;generalize ((d.update D (AO fun _=>(#[]:Array Value))).push (seqObj "tuple" vs.toArray 0)).push (seqObj "list" #[] 0)=gH at *;unfold ksk_rest;refine Aa (wpAny_rule ?_)
  first
   |rw[List.forIn_toArray]
   |(rw[<-Array.forIn_toList];simp only[List.toList_toArray])
  refine Aa (ksk_fold (fun i s'=>∃y E e ks,Inv X aa σ y s'/\Same H y/\y D=none/\y kS=none/\s'.heap.get? kS=some (seqObj "list" E e)/\s'.heap.get? D=some (seqObj "list" #[] e1)/\E.toList=ks.map Value.ref/\ks.length=i/\
    ∀(j:Nat) p,ks[j]?=some p->∃a ps,as[j]?=some a/\pss[j]?=some ps/\y p=some (.tup [.int ps.length,.ref a])) vs 0 _
   ⟨H,#[],0,[],I4,Same.refl H,P.1,mM.1,vR,aZ,rfl,rfl,fun j p e=>by simp at e⟩ ?step ?done)
  case step=>
   rintro j v s' hv ⟨y,E,e,ks,Ik,M,N,ld,S,Y,Z,G,fT⟩;simp only[Nat.zero_add] at G ⊢;have iH:j<as.length:=by rw[<-qU];exact(List.getElem?_eq_some_iff.mp hv).1
   have U:as[j]?=some as[j]:=Aj iH;obtain⟨ps,bX,bS⟩:=ht.get U;have ev:v=.ref as[j]:=by
    rw[<-hvs,Ao,U] at hv;exact(As hv).symm
   subst ev;refine Aa (wpAny_attempt (wpAny_call (codeAny_mono (F.run X.A.in1.in1 X.stack s' y ⟨[.ref as[j]],[]⟩ [.ref as[j]] [.ref as[j]] (fun v H'=>∃p,v=.ref p/\y p=none/\H'=upd y p (.tup [.int ps.length,.ref as[j]])) E0
    (Room.in1 (Room.in1 hr)) Ik.env0.in1.in1 (hb s' [.ref as[j]] Ik.kIn rfl) (.cons rfl .nil) ⟨as[j],ps,rfl,M.tp bS,fun p hp=>⟨p,rfl,hp,rfl⟩⟩) fun r L hq=>?_)))
   cases r with
   |error e=>exact False.elim hq
   |ok fl=>
    cases fl with
    |next=>exact False.elim hq
    |brk=>exact False.elim hq
    |cont=>exact False.elim hq
    |ret u=>
     obtain⟨v,H',os,T,un,hok,ru,p,rfl,hp,rfl⟩:=hq;cases ru;have I5:Inv X aa σ (upd y p (.tup [.int ps.length,.ref as[j]])) L:=Ik.call' os un hok T (fun b z=>nomatch z);have fD:=pW P N;have fK:=pW mM ld;have vX:=un.keep D _ Y N (G_ Ik fD) (by simp);have rX:=un.keep kS _ S ld (G_ Ik fK) (by simp);have qS:=un.free D _ Y N (by simp);have sy:=un.free kS _ S ld (by simp)
     try dsimp only
     have hkz:E.size=j:=by rw[<-Ax,Z,Ab,G]
     obtain⟨c2,cx⟩:∃c2,(L.heap.update kS (AO (·.push (.ref p)))).get? kS=some (seqObj "list" (E.push (.ref p)) c2):=⟨_,get?_update_seq rX (·.push (.ref p))⟩;have s1:=AX L.heap kS (AO (·.push (.ref p)));have yC:=pW mM sy;have I6:Inv X aa σ (upd y p (.tup [.int ps.length,.ref as[j]])) {L with heap:=L.heap.update kS (AO (·.push (.ref p)))}:=
      I5.turneds (t':=L.toks) (ch:=[kS]) (G9 yC) fun b o hb q=>(s1.2 b (fun z=>hb (by simp[z]))).trans q
     refine Aa (listUpdate_at rX rfl ?_ ω (AB (Nat.le_of_eq (Array.size_push ..)) ω));refine Ad ⟨rfl,_,E.push (.ref p),c2,ks++[p],I6,M.then (by exact M.free hp),qS,sy,cx,(s1.2 D uM.symm).trans vX,by rw[Array.toList_push,Z,Ah];rfl,by rw[Af,G];rfl,fun i p' e'=>?_⟩
     by_cases hi:i<ks.length
     ·rw[List.getElem?_append_left hi] at e'
      obtain⟨a,cB,x1,x2,x3⟩:=fT i p' e';exact⟨a,cB,x1,x2,by rw[au (zh x3 hp)];exact x3⟩
     ·rw[List.getElem?_append_right ω] at e'
      have h0:i-ks.length=0:=by
       rcases Nat.eq_zero_or_pos (i-ks.length) with z|z
       ·exact z
       ·rw[List.getElem?_eq_none (by simp only[Am,List.length_nil];(first|lia|omega))] at e';cases e'
      rw[h0] at e';obtain rfl:p=p':=by simpa using e'
      have hij:i=j:=ω
      subst hij;exact⟨_,ps,U,bX,al⟩
  case done=>
   rintro s' ⟨y,E,e,ks,Ik,M,N,ld,S,Y,Z,G,fT⟩;simp only[Nat.zero_add] at G
   try dsimp only
   refine Aa (listItems_at S rfl ?_);unfold ksk_end
   try dsimp only
   simp only[Al,if_false];have xH:E=(ks.map Value.ref).toArray:=by rw[<-Z,Array.toArray_toList]
   subst xH;have jF:∀(i:Nat) u l,(ks.map Value.ref)[i]?=some u->(pss.map fun ps=>(ps.length:Int)::ps)[i]?=some l->ck.IsPr s'.heap u l:=fun i u l h1 h2=>by
    rw[Ao] at h1 h2;cases ek:ks[i]? with
    |none=>rw[ek] at h1;simp at h1
    |some p=>
     obtain⟨a,ps,x1,x2,x3⟩:=fT i p ek;rw[ek] at h1;rw[x2] at h2;obtain rfl:=As h1;obtain rfl:=As h2;obtain⟨cB,y1,y2⟩:=ht.get x1;rw[x2] at y1;obtain rfl:=As y1;exact LA Ik ⟨_,a,ps,rfl,x3,M.tp y2⟩
   refine ck.K8 (us:=ks.map Value.ref) (vs:=vs) (ls:=pss.map fun ps=>(ps.length:Int)::ps) (good:=fun h=>h=s'.heap) (ck.K6 (by rw[Ab,Ab,G,qU];exact aJ) (Lz hu) ⟨_,rfl⟩ (by rintro h rfl;exact jF)) (by rw[Ab,G]) ω rfl fun ag ho hst hf=>?_;refine ck.K9 (ls:=pss.map fun ps=>(ps.length:Int)::ps) (vs:=vs) S Y uM (by rw[Ai,Ab];(first|lia|omega)) ho hst O hf fun h' out c kk mB Di pF B1=>⟨_,rfl,?_⟩;refine Ad ⟨_,rfl,?_⟩;obtain⟨ps,gK,iq,hs⟩:=pF;subst hvs;have I7:Inv X aa σ y {s' with heap:=h'}:=Ik.turneds (t':=s'.toks) (ch:=[kS,D]) (fun b hb=>by
     simp only[List.mem_cons,List.not_mem_nil,or_false] at hb;rcases hb with rfl|rfl
     ·exact pW mM ld
     ·exact pW P N) fun b o hb q=>kk b o (fun z=>hb (by simp[z])) (fun z=>hb (by simp[z])) q
   have all:∀p∈ps,∃a C,p.2=Value.ref a/\p.1=((C:List Int).length:Int)::C:=fun p cu=>by
    obtain⟨h1,h2⟩:=List.of_mem_zip (gK.mem_iff.mp cu:(p.1,p.2)∈_);obtain⟨a,_,U⟩:=List.mem_map.mp h2;obtain⟨C,_,eq⟩:=List.mem_map.mp h1;exact⟨a,C,U.symm,eq.symm⟩
   have pm:(ps.map fun p=>(p.1.tail,addrOf p.2)).Perm (pss.zip as):=by
    have h1:=gK.map (fun p:List Int×Value=>(p.1.tail,addrOf p.2));have e:((pss.map fun ps=>(ps.length:Int)::ps).zip (as.map Value.ref)).map (fun p:List Int×Value=>(p.1.tail,addrOf p.2))=pss.zip as:=by
     rw[List.zip_map,AC];exact(List.map_congr_left fun p _=>rfl).trans (List.map_id' _)
    rw[e] at h1;exact h1
   have ex:out.toList=((ps.map fun p=>(p.1.tail,addrOf p.2)).map fun q=>Value.ref q.2):=by
    rw[iq,AC];refine List.map_congr_left fun p cu=>?_;obtain⟨a,C,e1,_⟩:=all p cu;show p.2=Value.ref (addrOf p.2);rw[e1];rfl
   have vv:Vals ((ps.map fun p=>(p.1.tail,addrOf p.2)).map fun q=>V.ref q.2) out.toList:=by
    rw[ex];exact GY (fun q:List Int×Addr=>q.2) _
   obtain⟨f0,f1,f2,f3,f4,f5⟩:=P;have Bu:X.s₀⁻¹<=D:=by rw[<-hD];exact AB I.sz (Nat.le_succ _)
   have I8:Inv X aa σ (upd y D (.lst ((ps.map fun p=>(p.1.tail,addrOf p.2)).map fun q=>V.ref q.2))) {s' with heap:=h'}:=by
    refine I7.adopt N Bu f1 f4 f5 ⟨?_,out.toList,c,vv,?_⟩
    ·rw[Ab,pm.length_eq,List.length_zip];(first|lia|omega)
    ·simpa using mB
   refine h D _ _ _ I8 (M.then f0) f0 al pm ?_;rw[List.pairwise_map];refine hs.imp_of_mem fun{p q} h1 h2 h3=>?_;obtain⟨_,C,_,e1⟩:=all p h1;obtain⟨_,Bo,_,e2⟩:=all q h2;rw[e1,e2] at h3;rw[e1,e2];exact h3
end
section
variable{X:Cx}{a:Expr}{ta:TA}{p p2 pos kj:Pos}{k:Nat}{f:Addr}{fd:FuncData}{x y:Str}
def LC(K:Ac)(ta:TA):TE:=fun σ H Q=>ta σ H fun vs H1=>∃(l:Addr)(as:List Addr)(pss:Ξ),vs=[.ref l]/\SqL K H1 l (as.map V.ref)/\Tps H1 as pss/\pss.length<1000/\
 ∀D H2(c:List (List Int×Addr)),Same H1 H2->H1 D=none->H2 D=some (.lst (c.map fun q=>V.ref q.2))->c.Perm (pss.zip as)->c.Pairwise (fun a b=>HT.lexLt ((b.1.length:Int)::b.1) ((a.1.length:Int)::a.1)=false)->Q (.ref D) H2
def LD(F:FnOk X.prog X.w X.K X.mg X.base aR k f fd [x] tQ)(hr:Room (k+2) X.A)(hb:Binds X.K fd [x] [])(C:Gl X "sorted")(hm:X.mg "sorted"=none)(E:AV "sorted"=some (.builtin "sorted"))(G:Gl X y)(J:X.mg y=some (.ref f))(ha:PA X [a] ta)(L:(y==("__debug__":Str))=false:=by decide)(he:starEach [a] X.env=[(false,eval a X.env)]:=by rfl):PE X (.Call (.Name "sorted" p) [a] [⟨some "key",.Name y p2,kj⟩] pos) (LC X.K ta):=by
 intro aa s σ H Q I h;refine wpAny_Call_Name_kw (hY I C hm E ?_);refine callWith_kw ?_ (by rw[he];rfl) (by rw[he];rfl) rfl rfl;refine aX (ha pos aa s σ H _ I h) fun us d ⟨vs,H1,c,e,q1⟩=>?_;obtain⟨l,as,pss,rfl,r,ht,v,q⟩:=q1;obtain⟨u,rfl,z⟩:=vals1 e;cases z;refine kws_cons (oO c G J (kws_nil ?_) L);show wpAny (model X.prog X.w) X.A (call (.builtin "sorted") [.ref l] [(Str.ofString "key",.ref f)]) _ _ d;exact LB F hr hb c r ht v fun D H' g s' M i j o hp hs=>⟨.ref D,H',M,rfl,q D H' g i j o hp hs⟩
end
end L2
end
section
namespace STb
open PySem PySem.SetTable
def Ris(xs:Array Nat):Prop:=∀(i j a b:Nat),xs[i]?=some a->xs[j]?=some b->i<j->a<b
def Ris.inj{xs:Array Nat}(h:Ris xs){i j a:Nat}(h1:xs[i]?=some a)(h2:xs[j]?=some a):i=j:=by
 rcases Nat.lt_trichotomy i j with q|q|q
 ·exact absurd (h i j a a h1 h2 q) (Nat.lt_irrefl _)
 ·exact q
 ·exact absurd (h j i a a h2 h1 q) (Nat.lt_irrefl _)
def Ef{xs:Array Nat}{j:Nat}(hr:Ris xs):∀(fuel lo hi:Nat),hi-lo<=fuel->lo<=hi->hi<=xs.size->(∀i a,xs[i]?=some a->i<lo->a<j)->(∀i a,xs[i]?=some a->hi<=i->j<=a)->
  below.go xs j fuel lo hi<=xs.size/\(∀i a,xs[i]?=some a->i<below.go xs j fuel lo hi->a<j)/\(∀i a,xs[i]?=some a->below.go xs j fuel lo hi<=i->j<=a)
 |0,lo,hi,h0,h1,h2,h3,h4=>by
  have e:lo=hi:=ω
  subst e;exact⟨h2,h3,h4⟩
 |fuel+1,lo,hi,h0,h1,h2,h3,h4=>by
  have f:below.go xs j (fuel+1) lo hi=if lo<hi then(if xs.getD ((lo+hi) / 2) j<j then below.go xs j fuel ((lo+hi) / 2+1) hi else below.go xs j fuel lo ((lo+hi) / 2)) else lo:=rfl;rw[f]
  by_cases d:lo<hi
  ·rw[if_pos d]
   have hm:(lo+hi) / 2<xs.size:=ω
   have em:xs[(lo+hi) / 2]?=some xs[(lo+hi) / 2]:=getElem?_pos xs _ hm;have g:xs.getD ((lo+hi) / 2) j=xs[(lo+hi) / 2]:=by simp[Array.getD,hm]
   rw[g]
   by_cases hc:xs[(lo+hi) / 2]<j
   ·rw[if_pos hc]
    refine Ef hr fuel _ _ ω ω h2 (fun i a e c=>?_) h4;rcases Nat.lt_or_eq_of_le (Nat.lt_succ_iff.mp c) with q|q
    ·exact Nat.lt_trans (hr _ _ _ _ e em q) hc
    ·subst q;rw[em] at e;cases e;exact hc
   ·rw[if_neg hc]
    refine Ef hr fuel _ _ ω ω ω h3 (fun i a e c=>?_);rcases Nat.lt_or_eq_of_le c with q|q
    ·have:=hr _ _ _ _ em e q
     (first|lia|omega)
    ·subst q;rw[em] at e;cases e;(first|lia|omega)
  ·rw[if_neg d]
   have e:lo=hi:=ω
   subst e;exact⟨h2,h3,h4⟩
def Eg{xs:Array Nat}(hr:Ris xs)(j:Nat):below xs j<=xs.size/\(∀i a,xs[i]?=some a->i<below xs j->a<j)/\(∀i a,xs[i]?=some a->below xs j<=i->j<=a):=
 Ef hr xs.size 0 xs.size ω ω (Ag _) (fun _ _ _ h=>absurd h (Nat.not_lt_zero _)) (fun i a e h=>by have:=(Array.getElem?_eq_some_iff.mp e).1;(first|lia|omega))
def below_at{xs:Array Nat}(hr:Ris xs){i j:Nat}(e:xs[i]?=some j):below xs j=i:=by
 obtain⟨h1,h2,a⟩:=Eg hr j;rcases Nat.lt_trichotomy (below xs j) i with q|q|q
 ·have hb:below xs j<xs.size:=Nat.lt_trans q (Array.getElem?_eq_some_iff.mp e).1
  have e2:=getElem?_pos xs (below xs j) hb;have c:=a _ _ e2 (Ag _);have d:=hr _ _ _ _ e2 e q;(first|lia|omega)
 ·exact q
 ·exact absurd (h2 i j e q) (Nat.lt_irrefl _)
def ft{a:Type}(xs:Array a)(p:Nat)(x:a)(hp:p<=xs.size)(i:Nat):(insertAt xs p x)[i]?=if i<p then xs[i]? else if i=p then some x else xs[i-1]?:=by
 unfold insertAt;have hs:((xs.extract 0 p).push x).size=p+1:=by rw[Array.size_push,Array.size_extract];(first|lia|omega)
 by_cases h1:i<p
 ·rw[if_pos h1,Array.getElem?_append_left ω,Array.getElem?_push_lt (by rw[Array.size_extract];(first|lia|omega))]
  simp[Array.getElem_extract,h1]
 ·rw[if_neg h1]
  by_cases h2:i=p
  ·subst h2
   rw[if_pos rfl,Array.getElem?_append_left ω];have e:(xs.extract 0 i).size=i:=by rw[Array.size_extract];(first|lia|omega)
   have:=Array.getElem?_push_size (xs:=xs.extract 0 i) (x:=x);rw[e] at this;exact this
  ·rw[if_neg h2,Array.getElem?_append_right ω,hs,Array.getElem?_extract]
   by_cases c:i-(p+1)<xs.size-p
   ·rw[if_pos ω]
    congr 1
    (first|lia|omega)
   ·rw[if_neg ω]
    exact(Array.getElem?_eq_none ω).symm
def tZ{a:Type}(xs:Array a)(p:Nat)(x:a)(hp:p<=xs.size):(insertAt xs p x).size=xs.size+1:=by
 unfold insertAt;rw[Array.size_append,Array.size_push,Array.size_extract,Array.size_extract];(first|lia|omega)
def LF{xs:Array Nat}(hr:Ris xs){j:Nat}(p:∀i:Nat,xs[i]?≠some j):Ris (insertAt xs (below xs j) j):=by
 obtain⟨h1,h2,o⟩:=Eg hr j;intro a b x y d c l;rw[ft _ _ _ h1] at d c
 by_cases e:a<below xs j
 ·rw[if_pos e] at d
  by_cases f:b<below xs j
  ·rw[if_pos f] at c;exact hr _ _ _ _ d c l
  ·rw[if_neg f] at c
   by_cases g:b=below xs j
   ·rw[if_pos g] at c;cases c;exact h2 _ _ d e
   ·rw[if_neg g] at c;exact hr _ _ _ _ d c ω
 ·rw[if_neg e] at d
  rw[if_neg ω] at c
  by_cases h:a=below xs j
  ·rw[if_pos h] at d;cases d
   rw[if_neg ω] at c;have:=o _ _ c ω;rcases Nat.lt_or_eq_of_le this with q|q
   ·exact q
   ·subst q;exact absurd c (p _)
  ·rw[if_neg h] at d
   rw[if_neg ω] at c;exact hr _ _ _ _ d c ω
def fB(mask:Nat)(p:Probe):Probe:=
 if p.more>0 then {p with j:=p.j+1,more:=p.more-1} else
 {p with j:=(leap mask p.i p.perturb).1,more:=runEnd mask (leap mask p.i p.perturb).1-(leap mask p.i p.perturb).1,i:=(leap mask p.i p.perturb).1,perturb:=(leap mask p.i p.perturb).2}
def first(mask:Nat)(h:Int):Probe:={j:=bits h%(mask+1),more:=runEnd mask (bits h%(mask+1))-bits h%(mask+1),i:=bits h%(mask+1),perturb:=bits h,dummy:=none}
def pr(mask:Nat)(h:Int):Nat->Probe
 |0=>first mask h
 |n+1=>fB mask (pr mask h n)
def pos(mask:Nat)(h:Int)(n:Nat):Nat:=(pr mask h n).j
def G'(mask:Nat)(h:Int):∀n,(pr mask h n).dummy=none
 |0=>rfl
 |n+1=>by
  show(fB mask (pr mask h n)).dummy=none;unfold fB;split<;>exact G' mask h n
def lp(mask:Nat)(h:Int):Nat->Nat×Nat
 |0=>(bits h%(mask+1),bits h)
 |r+1=>leap mask (lp mask h r).1 (lp mask h r).2
def LG(mask i:Nat):runEnd mask i-i<=9:=by unfold runEnd;split<;>(first|lia|omega)
def uc(mask:Nat)(h:Int){n r:Nat}(e:pr mask h n={j:=(lp mask h r).1,more:=runEnd mask (lp mask h r).1-(lp mask h r).1,i:=(lp mask h r).1,perturb:=(lp mask h r).2,dummy:=none}):∀k,k<=runEnd mask (lp mask h r).1-(lp mask h r).1->pr mask h (n+k)={j:=(lp mask h r).1+k,more:=runEnd mask (lp mask h r).1-(lp mask h r).1-k,i:=(lp mask h r).1,perturb:=(lp mask h r).2,dummy:=none}
 |0,_=>e
 |k+1,hk=>by
  have a:=uc mask h e k ω;show fB mask (pr mask h (n+k))=_;rw[a];unfold fB;rw[if_pos (by show runEnd mask (lp mask h r).1-(lp mask h r).1-k>0;(first|lia|omega))]
  congr 1
def Ha(mask:Nat)(h:Int):∀r,∃n,n<=10*r/\pr mask h n={j:=(lp mask h r).1,more:=runEnd mask (lp mask h r).1-(lp mask h r).1,i:=(lp mask h r).1,perturb:=(lp mask h r).2,dummy:=none}
 |0=>⟨0,Ag _,rfl⟩
 |r+1=>by
  obtain⟨n,a,e⟩:=Ha mask h r;have c:=LG mask (lp mask h r).1;refine⟨n+(runEnd mask (lp mask h r).1-(lp mask h r).1)+1,ω,?_⟩;show fB mask (pr mask h (n+(runEnd mask (lp mask h r).1-(lp mask h r).1)))=_;rw[uc mask h e _ (Ag _)];unfold fB;rw[if_neg (by show ¬(runEnd mask (lp mask h r).1-(lp mask h r).1-(runEnd mask (lp mask h r).1-(lp mask h r).1)>0);(first|lia|omega))]
  rfl
def LH(h:Int):bits h<2 ^ 64:=by
 unfold bits;have h1:(0:Int)<=h%(2 ^ 64:Int):=Int.emod_nonneg _ ξ;have h2:h%(2 ^ 64:Int)<2 ^ 64:=Int.emod_lt_of_pos _ ξ;(first|lia|omega)
def Hb(mask:Nat)(h:Int):∀r,(lp mask h r).2=bits h / 32 ^ r
 |0=>by simp[lp]
 |r+1=>by
  show(lp mask h r).2 / 32=_;rw[Hb mask h r,Nat.div_div_eq_div_mul,Nat.pow_succ]
def LI(mask:Nat)(h:Int){r:Nat}(hr:13<=r):(lp mask h r).2=0:=by
 rw[Hb];have h1:=LH h;have h2:32 ^ 13<=32 ^ r:=Nat.pow_le_pow_right ξ hr;exact Nat.div_eq_of_lt (AD h1 (AB ξ h2))
def Hc(mask:Nat)(h:Int):∀r,(lp mask h r).1<=mask
 |0=>Nat.lt_succ_iff.mp (Nat.mod_lt _ (Nat.succ_pos _))
 |r+1=>Nat.lt_succ_iff.mp (Nat.mod_lt _ (Nat.succ_pos _))
def f5(mask x:Nat):Nat:=(x*5+1)%(mask+1)
def fc(mask:Nat):Nat->Nat->Nat
 |0,x=>x
 |k+1,x=>f5 mask (fc mask k x)
def Eh(mask:Nat)(h:Int):∀k,(lp mask h (13+k)).1=fc mask k (lp mask h 13).1
 |0=>rfl
 |k+1=>by
  show((lp mask h (13+k)).1*5+1+(lp mask h (13+k)).2 / 32)%(mask+1)=f5 mask (fc mask k (lp mask h 13).1);rw[LI mask h ω,Eh mask h k]
  rfl
def fE(mask:Nat):Prop:=∀i s,i<=mask->s<=mask->∃k,k<=mask/\fc mask k i=s
def nO(mask:Nat):Nat->Nat->List Nat
 |0,_=>[]
 |n+1,x=>x::nO mask n (f5 mask x)
def Hd(mask:Nat):∀(n x k:Nat),k<n->(nO mask n x)[k]?=some (fc mask k x)
 |0,_,_,h=>absurd h (Nat.not_lt_zero _)
 |n+1,x,0,_=>rfl
 |n+1,x,k+1,h=>by
  have a:=Hd mask n (f5 mask x) k ω;show(nO mask n (f5 mask x))[k]?=_;rw[a]
  congr 1
  have c:∀k x,fc mask k (f5 mask x)=f5 mask (fc mask k x):=by
   intro k
   induction k with
   |zero=>intro x;rfl
   |succ k a=>intro x;show f5 mask (fc mask k (f5 mask x))=_;rw[a];rfl
  exact c k x
def Ei(mask:Nat):∀n x,(nO mask n x).length=n
 |0,_=>rfl
 |n+1,x=>by show(nO mask n (f5 mask x)).length+1=_;rw[Ei mask n]
def ue(mask:Nat):∀(a b x:Nat),fc mask (a+b) x=fc mask a (fc mask b x)
 |0,b,x=>by rw[Nat.zero_add];rfl
 |a+1,b,x=>by
  rw[Nat.add_right_comm];show f5 mask (fc mask (a+b) x)=_;rw[ue mask a b x]
  rfl
def pX{mask:Nat}(h:((AQ (mask+1)).all fun s=>(nO mask (mask+1) 0).contains s)=true)(hp:fc mask (mask+1) 0=0):fE mask:=by
 have all:∀s,s<=mask->∃k,k<=mask/\fc mask k 0=s:=fun s hs=>by
  have h2:=List.all_eq_true.mp h s (List.mem_range.mpr ω);obtain⟨k,hk,e⟩:=List.mem_iff_getElem.mp (List.contains_iff_mem.mp h2);rw[Ei] at hk;refine⟨k,ω,?_⟩;have e2:=Hd mask (mask+1) 0 k hk;rw[Aj (by rw[Ei];exact hk),e] at e2;exact(As e2).symm
 intro i s hi hs;obtain⟨a,ha,c⟩:=all i hi;obtain⟨b,hb,d⟩:=all s hs;rcases Nat.lt_or_ge b a with q|q
 ·refine⟨mask+1-a+b,ω,?_⟩
  rw[<-c,<-ue,show mask+1-a+b+a=b+(mask+1) from ω,ue,hp,d]
 ·refine⟨b-a,ω,?_⟩
  rw[<-c,<-ue,show b-a+a=b from ω,d]
def Ej:fE 7:=pX δ δ
def pY:fE 31:=pX δ δ
def p3:fE 63:=pX δ δ
def kx:fE 255:=pX δ δ
def ky:fE 127:=pX δ δ
def p5{mask:Nat}(hc:fE mask)(h:Int){x:Nat}(hx:x<=mask):∃n,n<10*turns mask/\pos mask h n=x:=by
 obtain⟨k,hk,e⟩:=hc (lp mask h 13).1 x (Hc mask h 13) hx;obtain⟨n,a,e2⟩:=Ha mask h (13+k);refine⟨n,by unfold turns;(first|lia|omega),?_⟩;show(pr mask h n).j=x;rw[e2];show(lp mask h (13+k)).1=x;rw[Eh,e]
def eO(mask:Nat)(h:Int)(n:Nat):pos mask h n<=mask:=by
 have key:∀n,(pr mask h n).i<=mask/\(pr mask h n).j+(pr mask h n).more<=mask:=by
  intro n;have a:∀i,i<=mask->i+(runEnd mask i-i)<=mask:=fun i hi=>by unfold runEnd;split<;>(first|lia|omega)
  induction n with
  |zero=>
   have q:bits h%(mask+1)<=mask:=Nat.lt_succ_iff.mp (Nat.mod_lt _ (Nat.succ_pos _));exact⟨q,a _ q⟩
  |succ n ih=>
   show(fB mask (pr mask h n)).i<=mask/\(fB mask (pr mask h n)).j+(fB mask (pr mask h n)).more<=mask;unfold fB;split
   ·exact⟨ih.1,by show(pr mask h n).j+1+((pr mask h n).more-1)<=mask;(first|lia|omega)⟩
   ·have q:(leap mask (pr mask h n).i (pr mask h n).perturb).1<=mask:=Nat.lt_succ_iff.mp (Nat.mod_lt _ (Nat.succ_pos _))
    exact⟨q,a _ q⟩
 have:=(key n).2;unfold pos;(first|lia|omega)
end STb
end
section
namespace STb
open PySem PySem.SetTable
structure Tb(t:SetTable)(hs:Array Int):Prop where
 ris:Ris t.place
 dum:t.dummies=#[]
 size:t.place.size=hs.size
 le:∀(i j:Nat),t.place[i]?=some j->j<=t.mask
 cov:fE t.mask
 odd:t.mask%2=1
 room:hs.size<=t.mask
 path:∀(k j:Nat)(h:Int),hs[k]?=some h->t.place[k]?=some j->∃n,pos t.mask h n=j/\∀m,m<n->∃k':Nat,t.place[k']?=some (pos t.mask h m)
def fe(t:SetTable)(j:Nat):Prop:=∃i:Nat,t.place[i]?=some j
section
variable{t:SetTable}{hs:Array Int}
def nP(T:Tb t hs){i j:Nat}(e:t.place[i]?=some j):t.slot j=.live i:=by
 show(if(t.place[below t.place j]?==some j)=true then Slot.live (below t.place j) else _)=_;rw[below_at T.ris e,e,if_pos (by simp)]
def LJ(T:Tb t hs){j:Nat}(e:¬fe t j):t.slot j=.empty:=by
 show(if(t.place[below t.place j]?==some j)=true then Slot.live (below t.place j) else if has t.dummies j=true then Slot.dummy else Slot.empty)=_;have h1:¬(t.place[below t.place j]?==some j)=true:=by
  intro q;exact e ⟨_,eq_of_beq q⟩
 have h2:has t.dummies j=false:=by
  unfold has;rw[T.dum]
  rfl
 rw[if_neg h1,h2]
 rfl
def LK(T:Tb t hs):∃x,x<=t.mask/\¬fe t x:=by
 apply Classical.byContradiction;intro a;have all:∀x,x<=t.mask->fe t x:=fun x hx=>Classical.byContradiction fun q=>a ⟨x,hx,q⟩;have sub:AQ (t.mask+1) ⊆ t.place.toList:=fun x hx=>by
  obtain⟨i,e⟩:=all x (Nat.lt_succ_iff.mp (List.mem_range.mp hx));rw[<-AH] at e;exact An e
 have:=(List.nodup_range (n:=t.mask+1)).length_le_of_subset sub;rw[List.length_range,Ax,T.size] at this;have:=T.room;(first|lia|omega)
def least{P:Nat->Prop}(n:Nat)(h:P n):∃m,m<=n/\P m/\∀k,k<m->¬P k:=by
 induction n using Nat.strongRecOn with
 |ind n ih=>
  by_cases q:∃k,k<n/\P k
  ·obtain⟨k,hk,a⟩:=q
   obtain⟨m,h1,h2,c⟩:=ih k hk a;exact⟨m,ω,h2,c⟩
  ·exact⟨n,Ag _,h,fun k hk a=>q ⟨k,hk,a⟩⟩
def LM(T:Tb t hs)(h:Int):∃ne,ne<10*turns t.mask/\¬fe t (pos t.mask h ne)/\∀m,m<ne->fe t (pos t.mask h m):=by
 obtain⟨x,hx,fx⟩:=LK T;obtain⟨n,c,e⟩:=p5 T.cov h hx;obtain⟨m,h1,h2,a⟩:=least (P:=fun m=>¬fe t (pos t.mask h m)) n (by rw[e];exact fx);exact⟨m,ω,h2,fun k hk=>Classical.byContradiction fun q=>a k hk q⟩
def Ek(T:Tb t hs){hashAt:Nat->Int}{h:Int}:∀(d fuel n:Nat),(∀m,n<=m->m<n+d->∃i:Nat,t.place[i]?=some (pos t.mask h m)/\hashAt i≠h)->probe.go t hashAt h (fuel+d) (pr t.mask h n)=probe.go t hashAt h fuel (pr t.mask h (n+d))
 |0,fuel,n,_=>rfl
 |d+1,fuel,n,hm=>by
  obtain⟨i,e1,e2⟩:=hm n (Ag _) ω;have es:t.slot (pr t.mask h n).j=.live i:=nP T e1;have a:=Ek T d fuel (n+1) (fun m h1 h2=>hm m ω ω);rw[show fuel+(d+1)=(fuel+d)+1 from ω,show n+(d+1)=n+1+d from ω,<-a];show(match t.slot (pr t.mask h n).j with
   |.empty=>some (Met.empty (pr t.mask h n).j (pr t.mask h n).dummy)
   |.dummy=>probe.go t hashAt h (fuel+d) (t.advance {(pr t.mask h n) with dummy:=some (pr t.mask h n).j})
   |.live i=>if hashAt i==h then some (Met.candidate (pr t.mask h n).j i (t.advance (pr t.mask h n))) else probe.go t hashAt h (fuel+d) (t.advance (pr t.mask h n)))=_
  rw[es];dsimp only;rw[if_neg (by simpa using e2)]
  rfl
def probe_spec(T:Tb t hs){hashAt:Nat->Int}{h:Int}{ne n:Nat}(v:ne<10*turns t.mask)(he:¬fe t (pos t.mask h ne))(hm:∀m,m<ne->fe t (pos t.mask h m))(x:n<=ne):(t.probe hashAt h (pr t.mask h n)=some (.empty (pos t.mask h ne) none)/\∀m i,n<=m->m<ne->t.place[i]?=some (pos t.mask h m)->hashAt i≠h) \/
  ∃(N i:Nat),n<=N/\N<ne/\t.place[i]?=some (pos t.mask h N)/\hashAt i=h/\t.probe hashAt h (pr t.mask h n)=some (.candidate (pos t.mask h N) i (pr t.mask h (N+1)))/\∀m f,n<=m->m<N->t.place[f]?=some (pos t.mask h m)->hashAt f≠h:=by
 by_cases q:∃N,n<=N/\N<ne/\∃i:Nat,t.place[i]?=some (pos t.mask h N)/\hashAt i=h
 ·right
  obtain⟨p,r⟩:=q;obtain⟨N,h1,⟨h2,s,i,l,o⟩,u⟩:=least (P:=fun N=>n<=N/\N<ne/\∃i:Nat,t.place[i]?=some (pos t.mask h N)/\hashAt i=h) p r;have g:∀m f,n<=m->m<N->t.place[f]?=some (pos t.mask h m)->hashAt f≠h:=fun m f a b c d=>u m b ⟨a,ω,f,c,d⟩;refine⟨N,i,h2,s,l,o,?_,g⟩;obtain⟨fuel,hf⟩:∃fuel,10*turns t.mask=(fuel+1)+(N-n):=⟨10*turns t.mask-(N-n)-1,ω⟩;unfold SetTable.probe;rw[hf,Ek T (N-n) (fuel+1) n (fun m a b=>?_),show n+(N-n)=N from ω]
  ·show(match t.slot (pr t.mask h N).j with
    |.empty=>some (Met.empty (pr t.mask h N).j (pr t.mask h N).dummy)
    |.dummy=>probe.go t hashAt h fuel (t.advance {(pr t.mask h N) with dummy:=some (pr t.mask h N).j})
    |.live i=>if hashAt i==h then some (Met.candidate (pr t.mask h N).j i (t.advance (pr t.mask h N))) else probe.go t hashAt h fuel (t.advance (pr t.mask h N)))=_
   rw[show t.slot (pr t.mask h N).j=.live i from nP T l];dsimp only;rw[if_pos (by simpa using o)]
   rfl
  ·obtain⟨f,e⟩:=hm m ω
   exact⟨f,e,g m f a ω e⟩
 ·left
  have g:∀m i,n<=m->m<ne->t.place[i]?=some (pos t.mask h m)->hashAt i≠h:=fun m i a b c d=>q ⟨m,a,b,i,c,d⟩;refine⟨?_,g⟩;obtain⟨fuel,hf⟩:∃fuel,10*turns t.mask=(fuel+1)+(ne-n):=⟨10*turns t.mask-(ne-n)-1,ω⟩;unfold SetTable.probe;rw[hf,Ek T (ne-n) (fuel+1) n (fun m a b=>?_),show n+(ne-n)=ne from ω]
  ·show(match t.slot (pr t.mask h ne).j with
    |.empty=>some (Met.empty (pr t.mask h ne).j (pr t.mask h ne).dummy)
    |.dummy=>probe.go t hashAt h fuel (t.advance {(pr t.mask h ne) with dummy:=some (pr t.mask h ne).j})
    |.live i=>if hashAt i==h then some (Met.candidate (pr t.mask h ne).j i (t.advance (pr t.mask h ne))) else probe.go t hashAt h fuel (t.advance (pr t.mask h ne)))=_
   rw[show t.slot (pr t.mask h ne).j=.empty from LJ T he];dsimp only;rw[G']
   rfl
  ·obtain⟨f,e⟩:=hm m ω
   exact⟨f,e,g m f a ω e⟩
def LN(T:Tb t hs){h:Int}{ne k j:Nat}(he:¬fe t (pos t.mask h ne))(hk:hs[k]?=some h)(a:t.place[k]?=some j):∃N,N<ne/\pos t.mask h N=j:=by
 obtain⟨n,e,hm⟩:=T.path k j h hk a;refine⟨n,?_,e⟩;rcases Nat.lt_trichotomy n ne with q|q|q
 ·exact q
 ·subst q;exact absurd ⟨k,by rw[e];exact a⟩ he
 ·exact absurd (hm ne q) he
def LO(T:Tb t hs){h:Int}{ne:Nat}(he:¬fe t (pos t.mask h ne))(hm:∀m,m<ne->fe t (pos t.mask h m))(hr:hs.size+1<=t.mask):(t.put (pos t.mask h ne)).2<=hs.size/\(t.put (pos t.mask h ne)).1.mask=t.mask/\Tb (t.put (pos t.mask h ne)).1 (insertAt hs (t.put (pos t.mask h ne)).2 h):=by
 have r:∀i:Nat,t.place[i]?≠some (pos t.mask h ne):=fun i e=>he ⟨i,e⟩;obtain⟨f,s,u⟩:=Eg T.ris (pos t.mask h ne);have hb:below t.place (pos t.mask h ne)<=hs.size:=by rw[<-T.size];exact f
 have g:(t.put (pos t.mask h ne)).1.place=insertAt t.place (below t.place (pos t.mask h ne)) (pos t.mask h ne):=rfl;have mk:(t.put (pos t.mask h ne)).1.mask=t.mask:=rfl;have d:∀j,fe t j->∃p:Nat,(t.put (pos t.mask h ne)).1.place[p]?=some j:=fun j ⟨i,e⟩=>by
  by_cases q:i<below t.place (pos t.mask h ne)
  ·exact⟨i,by rw[g,ft _ _ _ f,if_pos q];exact e⟩
  ·exact⟨i+1,by rw[g,ft _ _ _ f,if_neg ω,if_neg ω,Nat.add_sub_cancel];exact e⟩
 refine⟨hb,mk,⟨?_,?_,?_,fun i j e=>?_,T.cov,T.odd,?_,fun k j h' e1 e2=>?_⟩⟩
 ·rw[g];exact LF T.ris r
 ·show(if has t.dummies (pos t.mask h ne)=true then _ else t.dummies)=#[]
  rw[T.dum]
  rfl
 ·rw[g,tZ _ _ _ f]
  show _=(insertAt hs (below t.place (pos t.mask h ne)) h).size;rw[tZ _ _ _ hb,T.size]
 ·rw[g,ft _ _ _ f] at e
  rw[mk]
  by_cases q1:i<below t.place (pos t.mask h ne)
  ·rw[if_pos q1] at e;exact T.le _ _ e
  ·rw[if_neg q1] at e
   by_cases o:i=below t.place (pos t.mask h ne)
   ·rw[if_pos o] at e;cases e;exact eO _ _ _
   ·rw[if_neg o] at e;exact T.le _ _ e
 ·show(insertAt hs (below t.place (pos t.mask h ne)) h).size<=t.mask
  rw[tZ _ _ _ hb];exact hr
 ·have c:(insertAt hs (below t.place (pos t.mask h ne)) h)[k]?=some h':=e1
  rw[ft _ _ _ hb] at c;rw[g,ft _ _ _ f] at e2;rw[mk]
  by_cases q1:k<below t.place (pos t.mask h ne)
  ·rw[if_pos q1] at c e2
   obtain⟨n,a,b⟩:=T.path k j h' c e2;exact⟨n,a,fun m l=>d _ (b m l)⟩
  ·rw[if_neg q1] at c e2
   by_cases o:k=below t.place (pos t.mask h ne)
   ·rw[if_pos o] at c e2
    cases c;cases e2;exact⟨ne,rfl,fun m l=>d _ (hm m l)⟩
   ·rw[if_neg o] at c e2
    obtain⟨n,a,b⟩:=T.path (k-1) j h' c e2;exact⟨n,a,fun m l=>d _ (b m l)⟩
end
def LQ(finger moves:Nat)(led:Bool):Tb (SetTable.fresh finger moves led) #[]:=
 ⟨fun i j a b h=>by simp[SetTable.fresh] at h,rfl,rfl,fun i j h=>by simp[SetTable.fresh] at h,Ej,show 7%2=1 from rfl,show 0<=7 from AY _,fun k j h e=>by simp at e⟩
end STb
end
section
namespace STb
open PySem PySem.SetTable
def Own(a:Array (Option Nat))(j:Nat):Prop:=∃q,a[j]?=some (some q)
def dh(mask:Nat)(h:Int):Nat->Nat
 |0=>0
 |r+1=>dh mask h r+(runEnd mask (lp mask h r).1-(lp mask h r).1)+1
def LR(mask:Nat)(h:Int){r R:Nat}(hr:r<=R):dh mask h r<=dh mask h R:=by
 induction hr with
 |refl=>exact Ag _
 |step _ ih=>exact AB ih (by show _<=dh mask h _+_+1;(first|lia|omega))
def El(mask:Nat)(h:Int):∀r,pr mask h (dh mask h r)={j:=(lp mask h r).1,more:=runEnd mask (lp mask h r).1-(lp mask h r).1,i:=(lp mask h r).1,perturb:=(lp mask h r).2,dummy:=none}
 |0=>rfl
 |r+1=>by
  show fB mask (pr mask h (dh mask h r+(runEnd mask (lp mask h r).1-(lp mask h r).1)))=_;rw[uc mask h (El mask h r) _ (Ag _)];unfold fB;rw[if_neg (by show ¬(runEnd mask (lp mask h r).1-(lp mask h r).1-(runEnd mask (lp mask h r).1-(lp mask h r).1)>0);(first|lia|omega))]
  rfl
def Em{a:Array (Option Nat)}{mask j:Nat}(hz:a.size=mask+1)(f:j<=mask):(a.getD j (some 0)).isNone=true↔¬Own a j:=by
 have d:j<a.size:=ω
 have e:a.getD j (some 0)=a[j]:=by simp[Array.getD,d]
 have e2:a[j]?=some a[j]:=getElem?_pos a j d;rw[e];constructor
 ·intro h ⟨q,hq⟩
  rw[e2] at hq;rw[As hq] at h;cases h
 ·intro h
  cases c:a[j] with
  |none=>rfl
  |some q=>exact absurd ⟨q,by rw[e2,c]⟩ h
def LS{mask:Nat}{a:Array (Option Nat)}(hz:a.size=mask+1)(h:Int){ne R:Nat}(he:¬Own a (pos mask h ne))(hm:∀m,m<ne->Own a (pos mask h m))(hR:ne<=dh mask h R):∀(fuel r:Nat),dh mask h r<=ne->R<r+fuel->layClean.free mask a fuel (lp mask h r).1 (lp mask h r).2=some (pos mask h ne):=by
 intro fuel
 induction fuel with
 |zero=>
  intro r h1 h2;have q:=LR mask h (r:=R+1) (R:=r) ω;have:dh mask h (R+1)=dh mask h R+(runEnd mask (lp mask h R).1-(lp mask h R).1)+1:=rfl;(first|lia|omega)
 |succ fuel ih=>
  intro r i hr;have walk:=uc mask h (El mask h r);have d:∀k,k<=runEnd mask (lp mask h r).1-(lp mask h r).1->pos mask h (dh mask h r+k)=(lp mask h r).1+k:=fun k hk=>by
   unfold pos;rw[walk k hk]
  have f:(lp mask h r).1<=runEnd mask (lp mask h r).1:=by unfold runEnd;split<;>(first|lia|omega)
  have c:∀k,k<=runEnd mask (lp mask h r).1-(lp mask h r).1->(lp mask h r).1+k<=mask:=fun k hk=>by rw[<-d k hk];exact eO _ _ _
  show(match (AQ (runEnd mask (lp mask h r).1+1-(lp mask h r).1)).find? (fun k=>(a.getD ((lp mask h r).1+k) (some 0)).isNone) with
   |some k=>some ((lp mask h r).1+k)
   |none=>layClean.free mask a fuel (leap mask (lp mask h r).1 (lp mask h r).2).1 (leap mask (lp mask h r).1 (lp mask h r).2).2)=_
  by_cases g:ne<=dh mask h r+(runEnd mask (lp mask h r).1-(lp mask h r).1)
  ·have e:(AQ (runEnd mask (lp mask h r).1+1-(lp mask h r).1)).find? (fun k=>(a.getD ((lp mask h r).1+k) (some 0)).isNone)=some (ne-dh mask h r):=by
    rw[List.find?_range_eq_some];refine⟨?_,List.mem_range.mpr ω,fun k hk=>?_⟩
    ·show(a.getD ((lp mask h r).1+(ne-dh mask h r)) (some 0)).isNone=true
     rw[Em hz (c _ ω),<-d _ ω,show dh mask h r+(ne-dh mask h r)=ne from ω];exact he
    ·have q:¬(a.getD ((lp mask h r).1+k) (some 0)).isNone=true:=by
      rw[Em hz (c _ ω),<-d k ω];exact fun z=>z (hm _ ω)
     rw[Bool.not_eq_true] at q;rw[q]
     rfl
   rw[e];dsimp only;rw[<-d _ ω,show dh mask h r+(ne-dh mask h r)=ne from ω]
  ·have e:(AQ (runEnd mask (lp mask h r).1+1-(lp mask h r).1)).find? (fun k=>(a.getD ((lp mask h r).1+k) (some 0)).isNone)=none:=by
    rw[List.find?_eq_none];intro k hk;have hk':=List.mem_range.mp hk;rw[Em hz (c _ ω),<-d k ω];exact fun z=>z (hm _ ω)
   rw[e];dsimp only;refine ih (r+1) ?_ ω;show dh mask h r+(runEnd mask (lp mask h r).1-(lp mask h r).1)+1<=ne;(first|lia|omega)
structure Lay(mask:Nat)(ai:List Int)(af:Array (Option Nat))(k:Nat):Prop where
 size:af.size=mask+1
 all:∀q:Nat,q<k->∃j:Nat,af[j]?=some (some q)
 back:∀j q:Nat,af[j]?=some (some q)->q<k
 one:∀(i j q:Nat),af[i]?=some (some q)->af[j]?=some (some q)->i=j
 path:∀(j q:Nat)(h:Int),af[j]?=some (some q)->ai[q]?=some h->∃n,pos mask h n=j/\∀m,m<n->Own af (pos mask h m)
def Lay.room{mask:Nat}{h:List Int}{c:Array (Option Nat)}{k:Nat}(L:Lay mask h c k)(hk:k<=mask):∃x,x<=mask/\¬Own c x:=by
 apply Classical.byContradiction;intro f;have all:∀x,x<=mask->∃q,q<k/\c[x]?=some (some q):=fun x hx=>by
  have:Own c x:=Classical.byContradiction fun q=>f ⟨x,hx,q⟩;obtain⟨q,e⟩:=this;exact⟨q,L.back x q e,e⟩
 have sub:((AQ (mask+1)).map fun x=>(c.getD x none).getD 0) ⊆ AQ k:=fun y hy=>by
  obtain⟨x,hx,e⟩:=List.mem_map.mp hy;obtain⟨q,hq,e2⟩:=all x (Nat.lt_succ_iff.mp (List.mem_range.mp hx));rw[Array.getD_eq_getD_getElem?,e2] at e;subst e;exact List.mem_range.mpr hq
 have g:((AQ (mask+1)).map fun x=>(c.getD x none).getD 0).Nodup:=by
  refine List.nodup_iff_pairwise_ne.mpr (List.pairwise_map.mpr ?_);refine List.Pairwise.imp_of_mem ?_ (List.nodup_iff_pairwise_ne.mp (List.nodup_range (n:=mask+1)));intro a b ha hb d e;obtain⟨q,_,e1⟩:=all a (Nat.lt_succ_iff.mp (List.mem_range.mp ha));obtain⟨p,_,e2⟩:=all b (Nat.lt_succ_iff.mp (List.mem_range.mp hb));simp only[Array.getD_eq_getD_getElem?,e1,e2,Option.getD_some] at e;subst e;exact d (L.one a b q e1 e2)
 have:=g.length_le_of_subset sub;rw[Ab,List.length_range,List.length_range] at this;(first|lia|omega)
def LU{a:Array (Option Nat)}{mask j k:Nat}(hz:a.size=mask+1)(c:j<=mask)(i:Nat):(a.setIfInBounds j (some k))[i]?=if i=j then some (some k) else a[i]?:=by
 by_cases q:i=j
 ·subst q
  rw[if_pos rfl,Array.getElem?_setIfInBounds_self_of_lt ω]
 ·rw[if_neg q,Array.getElem?_setIfInBounds_ne (Ne.symm q)]
def Lay.step{mask:Nat}{f:List Int}{c:Array (Option Nat)}{k:Nat}{h:Int}(hc:fE mask)(L:Lay mask f c k)(hk:k<=mask)(s:f[k]?=some h):∃j,layClean.free mask c (turns mask) (bits h%(mask+1)) (bits h)=some j/\Lay mask f (c.setIfInBounds j (some k)) (k+1):=by
 obtain⟨x,hx,fx⟩:=L.room hk;obtain⟨d,hd,e⟩:=hc (lp mask h 13).1 x (Hc mask h 13) hx;have p:pos mask h (dh mask h (13+d))=x:=by
  unfold pos;rw[El];show(lp mask h (13+d)).1=x;rw[Eh,e]
 obtain⟨ne,h1,h2,o⟩:=least (P:=fun m=>¬Own c (pos mask h m)) (dh mask h (13+d)) (by rw[p];exact fx);have hm:∀m,m<ne->Own c (pos mask h m):=fun m q=>Classical.byContradiction fun z=>o m q z;refine⟨pos mask h ne,LS L.size h h2 hm h1 (turns mask) 0 (AY _) (by unfold turns;(first|lia|omega)),?_⟩;have r:pos mask h ne<=mask:=eO _ _ _;have sg:=LU (k:=k) L.size r;have own:∀i,Own c i->Own (c.setIfInBounds (pos mask h ne) (some k)) i:=fun i ⟨q,e⟩=>by
  by_cases z:i=pos mask h ne
  ·exact⟨k,by rw[sg,if_pos z]⟩
  ·exact⟨q,by rw[sg,if_neg z];exact e⟩
 refine⟨by rw[Array.size_setIfInBounds];exact L.size,fun q hq=>?_,fun j q e=>?_,fun i j q e1 e2=>?_,fun j q h' e1 e2=>?_⟩
 ·by_cases z:q=k
  ·exact⟨pos mask h ne,by rw[sg,if_pos rfl,z]⟩
  ·obtain⟨j,g⟩:=L.all q ω
   refine⟨j,?_⟩;rw[sg,if_neg fun w=>h2 ⟨q,by rw[<-w];exact g⟩];exact g
 ·rw[sg] at e
  by_cases z:j=pos mask h ne
  ·rw[if_pos z] at e;cases e;(first|lia|omega)
  ·rw[if_neg z] at e;have:=L.back j q e;(first|lia|omega)
 ·rw[sg] at e1 e2
  by_cases l:i=pos mask h ne
  ·rw[if_pos l] at e1;cases e1
   by_cases z2:j=pos mask h ne
   ·(first|lia|omega)
   ·rw[if_neg z2] at e2;have:=L.back j k e2;(first|lia|omega)
  ·rw[if_neg l] at e1
   by_cases z2:j=pos mask h ne
   ·rw[if_pos z2] at e2;cases e2;have:=L.back i k e1;(first|lia|omega)
   ·rw[if_neg z2] at e2;exact L.one i j q e1 e2
 ·rw[sg] at e1
  by_cases z:j=pos mask h ne
  ·rw[if_pos z] at e1;cases e1
   rw[s] at e2;cases e2;exact⟨ne,z.symm,fun m q=>own _ (hm m q)⟩
  ·rw[if_neg z] at e1
   obtain⟨n,a,b⟩:=L.path j q h' e1 e2;exact⟨n,a,fun m q=>own _ (b m q)⟩
def Lay.nil(mask:Nat)(c:List Int):Lay mask c (Array.replicate (mask+1) none) 0:=by
 have a:∀(j q:Nat),(Array.replicate (mask+1) (none:Option Nat))[j]?=some (some q)->False:=fun j q e=>by
  rw[Array.getElem?_replicate] at e;split at e<;>cases e
 exact⟨by simp,fun q h=>absurd h (Nat.not_lt_zero _),fun j q e=>(a j q e).elim,fun i j q e=>(a i q e).elim,fun j q h e=>(a j q e).elim⟩
def LV{mask:Nat}(hc:fE mask)(d:Array Int)(hk:d.size<=mask+1):∃c,layClean mask d=some c/\Lay mask d.toList c d.size:=by
 have go:∀(rest:List Int)(c:Array (Option Nat))(k:Nat),Lay mask d.toList c k->d.toList.drop k=rest->
   ∃g,(rest.foldl (fun acc h=>do
    let (c,k) <-acc
    let j <-layClean.free mask c (turns mask) (bits h%(mask+1)) (bits h)
    pure (c.setIfInBounds j (some k),k+1)) (some (c,k)))=some (g,k+rest.length)/\Lay mask d.toList g (k+rest.length):=by
  intro rest
  induction rest with
  |nil=>intro c k L _;exact⟨c,rfl,L⟩
  |cons h rest ih=>
   intro c k L e;have f:k<d.toList.length:=by
    rcases Nat.lt_or_ge k d.toList.length with q|q
    ·exact q
    ·rw[List.drop_eq_nil_of_le q] at e;cases e
   have l:d.toList[k]?=some h:=by
    rw[List.drop_eq_getElem_cons f] at e;injection e with e1 _
    rw[Aj f,e1]
   have p:d.toList.drop (k+1)=rest:=by
    rw[List.drop_eq_getElem_cons f] at e;injection e
   rw[Ax] at f;obtain⟨j,i,r⟩:=L.step hc ω l;obtain⟨o',a,b⟩:=ih (c.setIfInBounds j (some k)) (k+1) r p;refine⟨o',?_,?_⟩
   ·rw[List.foldl_cons]
    show List.foldl _ (layClean.free mask c (turns mask) (bits h%(mask+1)) (bits h) >>= fun j=>pure (c.setIfInBounds j (some k),k+1)) rest=_;rw[i];show List.foldl _ (some (c.setIfInBounds j (some k),k+1)) rest=_;rw[a,Am,show k+1+rest.length=k+(rest.length+1) from ω]
   ·rw[Am,show k+(rest.length+1)=k+1+rest.length from ω]
    exact b
 obtain⟨o,a,b⟩:=go d.toList _ 0 (Lay.nil mask _) rfl;rw[Nat.zero_add,Ax] at a b;refine⟨o,?_,b⟩;unfold layClean;rw[<-Array.foldl_toList,a]
 rfl
def c9(a:Array (Option Nat))(n:Nat):List (Nat×Nat):=(AQ n).filterMap fun j=>(a.getD j none).map (j,·)
def jy{a:Array (Option Nat)}{n:Nat}{x:Nat×Nat}:x∈c9 a n↔x.1<n/\a[x.1]?=some (some x.2):=by
 unfold c9;rw[List.mem_filterMap];constructor
 ·rintro⟨j,d,e⟩
  rw[Option.map_eq_some_iff] at e;obtain⟨q,e1,rfl⟩:=e;refine⟨List.mem_range.mp d,?_⟩;rw[Array.getD_eq_getD_getElem?] at e1;cases c:a[j]? with
  |none=>rw[c] at e1;cases e1
  |some v=>rw[c] at e1;simp only[Option.getD_some] at e1;rw[e1]
 ·rintro⟨h1,h2⟩
  refine⟨x.1,List.mem_range.mpr h1,?_⟩;rw[Array.getD_eq_getD_getElem?,h2]
  rfl
def He(c:Array (Option Nat))(n:Nat):(c9 c n).Pairwise fun x y=>x.1<y.1:=by
 unfold c9;refine List.Pairwise.filterMap (S:=fun x y:Nat×Nat=>x.1<y.1) _ ?_ (List.pairwise_lt_range (n:=n));intro a d h b hb e hb';rw[Option.map_eq_some_iff] at hb hb';obtain⟨_,_,rfl⟩:=hb;obtain⟨_,_,rfl⟩:=hb';exact h
def LW{mask:Nat}{r:List Int}{c:Array (Option Nat)}{k:Nat}(L:Lay mask r c k):(c9 c (mask+1)).length=k/\((c9 c (mask+1)).map (·.2)).Nodup:=by
 have f:((c9 c (mask+1)).map (·.2)).Nodup:=by
  refine List.nodup_iff_pairwise_ne.mpr (List.pairwise_map.mpr ?_);refine List.Pairwise.imp_of_mem ?_ (He c (mask+1));intro a b ha hb g e;have h1:=(jy.mp ha).2;have h2:=(jy.mp hb).2;rw[<-e] at h2;have:=L.one _ _ _ h1 h2;(first|lia|omega)
 refine⟨?_,f⟩;have h:(c9 c (mask+1)).map (·.2) ⊆ AQ k:=fun q hq=>by
  obtain⟨x,hx,rfl⟩:=List.mem_map.mp hq;exact List.mem_range.mpr (L.back _ _ (jy.mp hx).2)
 have i:AQ k ⊆ (c9 c (mask+1)).map (·.2):=fun q hq=>by
  obtain⟨j,d⟩:=L.all q (List.mem_range.mp hq);have l:j<mask+1:=by rw[<-L.size];exact(Array.getElem?_eq_some_iff.mp d).1
  exact List.mem_map.mpr ⟨(j,q),jy.mpr ⟨l,d⟩,rfl⟩
 have o:=f.length_le_of_subset h;have p:=(List.nodup_range (n:=k)).length_le_of_subset i;rw[Ab,List.length_range] at o;rw[List.length_range,Ab] at p;(first|lia|omega)
def LX{mask:Nat}(hc:fE mask)(G:mask%2=1)(finger moves:Nat)(led plain:Bool)(d:Array Int)(hk:d.size<=mask):∃t f,laid mask finger moves led plain d=some (t,f)/\t.mask=mask/\t.led=led/\t.plain=plain/\f.size=d.size/\f.toList.Nodup/\(∀q∈f.toList,q<d.size)/\
   Tb t (f.map fun q=>(d[q]?).getD 0):=by
 obtain⟨c,e,L⟩:=LV hc d ω;obtain⟨u,v⟩:=LW L;refine⟨_,_,by unfold laid;rw[e];exact rfl,rfl,rfl,rfl,?_,?_,?_,?_⟩
 ·show((c9 c (mask+1)).map (·.2)).toArray.size=_
  rw[Ai,Ab,u]
 ·exact v
 ·intro q hq
  obtain⟨x,hx,rfl⟩:=List.mem_map.mp (show q∈(c9 c (mask+1)).map (·.2) from hq);exact L.back _ _ (jy.mp hx).2
 ·have g:∀i:Nat,(((c9 c (mask+1)).map (·.1)).toArray)[i]?=((c9 c (mask+1))[i]?).map (·.1):=fun i=>by
   rw[List.getElem?_toArray,Ao]
  have C:∀i:Nat,(((c9 c (mask+1)).map (·.2)).toArray)[i]?=((c9 c (mask+1))[i]?).map (·.2):=fun i=>by
   rw[List.getElem?_toArray,Ao]
  have r:∀j,Own c j->∃i:Nat,(((c9 c (mask+1)).map (·.1)).toArray)[i]?=some j:=fun j ⟨q,l⟩=>by
   have p:j<mask+1:=by rw[<-L.size];exact(Array.getElem?_eq_some_iff.mp l).1
   obtain⟨i,hi,z⟩:=List.mem_iff_getElem.mp (jy.mpr ⟨p,l⟩:(j,q)∈c9 c (mask+1));exact⟨i,by rw[g,Aj hi,z];rfl⟩
  refine⟨fun i j a b ha hb o=>?_,rfl,?_,fun i j l=>?_,hc,G,?_,fun k j h e1 e2=>?_⟩
  ·have ha':((c9 c (mask+1))[i]?).map (·.1)=some a:=by rw[<-g];exact ha
   have hb':((c9 c (mask+1))[j]?).map (·.1)=some b:=by rw[<-g];exact hb
   obtain⟨x,ex,rfl⟩:=Option.map_eq_some_iff.mp ha';obtain⟨y,A,rfl⟩:=Option.map_eq_some_iff.mp hb';obtain⟨hi,rfl⟩:=List.getElem?_eq_some_iff.mp ex;obtain⟨p,rfl⟩:=List.getElem?_eq_some_iff.mp A;exact List.pairwise_iff_getElem.mp (He c (mask+1)) i j hi p o
  ·show((c9 c (mask+1)).map (·.1)).toArray.size=(Array.map _ ((c9 c (mask+1)).map (·.2)).toArray).size
   rw[Array.size_map,Ai,Ai,Ab,Ab]
  ·have D:((c9 c (mask+1))[i]?).map (·.1)=some j:=by rw[<-g];exact l
   obtain⟨x,ex,rfl⟩:=Option.map_eq_some_iff.mp D;exact Nat.lt_succ_iff.mp (jy.mp (An ex)).1
  ·show(Array.map _ ((c9 c (mask+1)).map (·.2)).toArray).size<=mask
   rw[Array.size_map,Ai,Ab,u];exact hk
  ·have E:((c9 c (mask+1))[k]?).map (·.1)=some j:=by rw[<-g];exact e2
   obtain⟨x,ex,rfl⟩:=Option.map_eq_some_iff.mp E;have s:(Array.map (fun q=>(d[q]?).getD 0) ((c9 c (mask+1)).map (·.2)).toArray)[k]?=some h:=e1;rw[Array.getElem?_map,C,ex] at s;have hx:=(jy.mp (An ex)).2;have hq:=L.back _ _ hx;have F:d.toList[x.2]?=some h:=by
    rw[AH];have:d[x.2]?=some d[x.2]:=getElem?_pos d x.2 hq;simp only[Option.map_some,this,Option.getD_some] at s;rw[this,As s]
   obtain⟨n,a,b⟩:=L.path x.1 x.2 h hx F;exact⟨n,a,fun m hm=>r _ (b m hm)⟩
end STb
end
section
namespace STb
open PySem PySem.SetTable
section
variable{prog:Program}{w:World}{K:Type}[DecidableEq K]{knd:KeyKind prog w K}{A:Around}{E:Ω}{s:Shared}
def fits_of{t:SetTable}{es:Array (Int×Value)}(T:Tb t (es.map (·.1))):t.fits es.size=true:=by
 have h1:=T.size;have h2:=T.room;rw[Array.size_map] at h1 h2;unfold SetTable.fits SetTable.fill;rw[T.dum,h1];simp;exact h2
def LY(n:Nat){v:Value}(h:carriedByValue v=true):ofAClassStatement n v=pure false:=by
 cases v with
 |ref a=>simp[carriedByValue] at h
 |_=>cases n<;>rfl
def Hf{ks:List K}{b:Addr}{Q:Bool->Shared->Prop}(hk:AU knd s.heap ks b)(h:Q false s):wpAny (model prog w) A (ofAClassStatement 8 (.ref b)) Q E s:=by
 have f:=hk.typeIs;obtain⟨o,d,n,e,_,hd,hi⟩:=hk;unfold ofAClassStatement;refine Aa (wpAny_typeOf f ?_);show wpAny _ _ ((if("tuple" == "tuple")=true then pure true else isSubtype (.type "tuple") (.type "tuple")) >>= _) _ _ s;rw[if_pos ξ];refine Aa (Ad ?_);simp only[Bool.not_true,Al,if_false];refine Aa (wpAny_seqItems e hd ?_);refine Aa ?_;show wpAny _ _ (forIn d _ _) _ _ s;rw[<-Array.forIn_toList];refine wpAny_forIn_list _ (fun rest r s'=>r.1=none/\s'=s/\∀v∈rest,carriedByValue v=true) _ ?_ ?_ _ _ ⟨rfl,rfl,hi.byValue⟩
 ·rintro v rest r s' ⟨hr,rfl,a⟩
  rw[LY _ (a v Ar)];refine Aa (Ad ?_);simp only[Al,if_false];exact Ad ⟨rfl,rfl,fun u c=>a u (At _ c)⟩
 ·rintro⟨g,i⟩ s' ⟨hr,rfl,_⟩
  simp only at hr;subst hr;exact Ad h
def LZ{ks:List K}{b:Addr}{ys:List Value}{Q:Bool->Shared->Prop}(hk:AU knd s.heap ks b)(hy:∀y∈ys,∃d c,y=.ref c/\AU knd s.heap d c)(h:Q false s):wpAny (model prog w) A (searchCouldBeSeen (.ref b) ys) Q E s:=by
 unfold searchCouldBeSeen;refine Aa ?_;refine wpAny_forIn_list _ (fun rest r s'=>r.1=none/\s'=s/\∀y∈rest,∃d c,y=.ref c/\AU knd s.heap d c) _ ?_ ?_ _ _ ⟨rfl,rfl,hy⟩
 ·rintro v rest r s' ⟨hr,rfl,a⟩
  obtain⟨d,c,rfl,hc⟩:=a v Ar;have nx:∀u∈rest,∃d c,u=.ref c/\AU knd s'.heap d c:=fun u e=>a u (At _ e);dsimp only;split
  ·exact Ad ⟨rfl,rfl,nx⟩
  ·refine Aa (wpAny_eqIsQuiet_tuple hk ?_)
   simp only[Bool.not_true,Al,if_false];refine Aa (wpAny_eqIsQuiet_tuple hc ?_);simp only[Bool.not_true,Al,if_false];refine Aa (Hf hk ?_);simp only[Al,if_false];refine Aa (Hf hc ?_);simp only[Al,if_false];exact Ad ⟨rfl,rfl,nx⟩
 ·rintro⟨f,g⟩ s' ⟨hr,rfl,_⟩
  simp only at hr;subst hr;exact Ad h
structure TS(knd:KeyKind prog w K)(h:Heap)(S:Addr)(o:Obj)(es:Array (Int×Value))(ep:Nat)(t:SetTable)(ks:List (List K))(B:List Addr):Prop where
 at_:h.get? S=some o
 ex:o.ExactSet
 dt:o.data=.set es ep t
 tb:Tb t (es.map (·.1))
 sz:es.size=ks.length
 nd:ks.Nodup
 el:∀e∈es.toList,∃k b,k∈ks/\e=(Ay knd k,Value.ref b)/\AU knd h k b
 ke:∀k∈ks,∃b,(Ay knd k,Value.ref b)∈es.toList/\AU knd h k b
 msk:(t.mask=7/\es.size<=4)\/(t.mask=31/\es.size<=18)\/(t.mask=127/\es.size<=76)\/(t.mask=15/\es.size<=8)\/(t.mask=63/\es.size<=37)\/(t.mask=255/\es.size<=152)
 ad:∀e∈es.toList,∃b∈B,e.2=Value.ref b
 wk:w.params.followText "set-order"=true\/(t.led=true/\t.plain=true)
def L3{B:List Addr}{S:Addr}{o:Obj}{es:Array (Int×Value)}{ep:Nat}{t:SetTable}{ks:List (List K)}(X:TS knd s.heap S o es ep t ks B)(hu:A.units<cLine){k:List K}{b:Addr}(hk:AU knd s.heap k b){ne:Nat}(F:ne<10*turns t.mask)(he:¬fe t (pos t.mask (Ay knd k) ne))(hm:∀m,m<ne->fe t (pos t.mask (Ay knd k) m)){add:Bool}{Q:SetFound->Shared->Prop}(h1:k∈ks->∀r:Option Nat,(add=false->r.isSome=true)->Q (.there r) s)(h2:k∉ks->Q (.free (pos t.mask (Ay knd k) ne) false) s):∀(fuel n:Nat)(f:Option Probe),ne<n+fuel->n<=ne->f.getD (t.probeStart (Ay knd k))=pr t.mask (Ay knd k) n->
   (∀(m i:Nat)(c:Addr),m<n->t.place[i]?=some (pos t.mask (Ay knd k) m)->es[i]?=some (Ay knd k,Value.ref c)->¬AU knd s.heap k c)->
   wpAny (model prog w) A (setSearchFrom S (.ref b) (Ay knd k) add fuel f) Q E s:=by
 have T:=X.tb;have v:=fits_of T;have Z:∀i:Nat,(es.map (·.1))[i]?=(es[i]?).map (·.1):=fun i=>Array.getElem?_map ..;intro fuel
 induction fuel with
 |zero=>intro n f L G _ _;(first|lia|omega)
 |succ fuel ih=>
  intro n f L G M H;unfold setSearchFrom;refine Aa (wpAny_setState_of X.at_ X.dt v ?_);dsimp only;have gw:t.gaveWay=false:=by
   unfold SetTable.gaveWay;rw[T.odd]
   rfl
  rw[gw];simp only[Al,if_false];rw[M];rcases probe_spec T (hashAt:=fun i=>((es[i]?).map (·.1)).getD 0) F he hm G with ⟨ep1,none_⟩|⟨N,i,b1,b2,b3,b4,b5,b6⟩
  ·have oZ:t.probe (fun i=>((es[i]?).map (·.1)).getD 0) (Ay knd k) (pr t.mask (Ay knd k) n)=some (.empty (pos t.mask (Ay knd k) ne) none):=ep1
   show wpAny _ _ (match t.probe (fun i=>((es[i]?).map (·.1)).getD 0) (Ay knd k) (pr t.mask (Ay knd k) n) with|some met=>_|_=>_) _ _ s;rw[oZ];dsimp only;refine Ad (h2 fun l=>?_);obtain⟨c,O,P⟩:=X.ke k l;obtain⟨i,hi,a⟩:=List.mem_iff_getElem.mp O;have x:es[i]?=some (Ay knd k,.ref c):=by
    rw[<-AH,Aj hi,a]
   have C:i<t.place.size:=by rw[T.size,Array.size_map];simpa using hi
   have D:t.place[i]?=some t.place[i]:=getElem?_pos t.place i C;obtain⟨N,U,J⟩:=LN T he (k:=i) (by rw[Z,x];rfl) D;rcases Nat.lt_or_ge N n with q|q
   ·exact H N i c q (by rw[J];exact D) x P
   ·exact none_ N i q U (by rw[J];exact D) (by show((es[i]?).map (·.1)).getD 0=_;rw[x];rfl)
  ·show wpAny _ _ (match t.probe (fun i=>((es[i]?).map (·.1)).getD 0) (Ay knd k) (pr t.mask (Ay knd k) n) with|some met=>_|_=>_) _ _ s
   rw[b5];dsimp only;have hi:i<es.size:=by
    have:=(Array.getElem?_eq_some_iff.mp b3).1;rw[T.size,Array.size_map] at this;exact this
   have a:es[i]?=some es[i]:=getElem?_pos es i hi;obtain⟨h,c,hk',W,hc⟩:=X.el es[i] (by simp);rw[W] at a;have eh:Ay knd h=Ay knd k:=by
    have:((es[i]?).map (·.1)).getD 0=Ay knd k:=b4;rw[a] at this;exact this
   rw[eh] at a;have j:t.sameMemory t.moves t.mask=some true:=by unfold SetTable.sameMemory;rw[if_pos (by simp)]
   have d:h≠k->wpAny (model prog w) A (setSearchFrom S (.ref b) (Ay knd k) add fuel (some (pr t.mask (Ay knd k) (N+1)))) Q E s:=fun eq=>by
    refine ih (N+1) _ ω ω rfl fun m i2 p q1 u g I=>?_;rcases Nat.lt_or_ge m n with z|z
    ·exact H m i2 p z u g I
    ·rcases Nat.lt_or_ge m N with z2|z2
     ·exact b6 m i2 z z2 u (by show((es[i2]?).map (·.1)).getD 0=_;rw[g];rfl)
     ·have:m=N:=ω
      subst this;have:=T.ris.inj u b3;subst this;rw[a] at g;cases g;exact eq (IsTupleKey.inj hc I)
   cases led:t.led
   all_goals simp only[Bool.not_true,Bool.not_false,Al,if_true,if_false]
   ·refine Aa (LZ hk (fun y hy=>?_) ?_)
    ·obtain⟨e,he',rfl⟩:=List.mem_map.mp hy
     rw[Array.toList_filter] at he';obtain⟨k2,p,_,e2,Y⟩:=X.el e (List.mem_filter.mp he').1;exact⟨k2,p,by rw[e2],Y⟩
    simp only[Al,if_false];rw[a];refine Aa (A0 (wpAny_eqBool_tuple hu hc hk ?_));refine Aa (wpAny_setState_of X.at_ X.dt v ?_)
    by_cases eq:h=k
    ·subst eq
     cases add
     ·simp only[decide_true,Bool.false_and,Al,if_false]
      rw[j];simp only[if_true];rw[nP T b3];dsimp only;rw[a];refine Aa (wpAny_isSame_ref_self (Aa (Ad ?_)));simp only[if_true];exact Ad (h1 hk' _ fun _=>rfl)
     ·simp only[decide_true,Bool.and_self,if_true]
      exact Ad (h1 hk' _ fun z=>by cases z)
    ·rw[decide_eq_false eq]
     simp only[Bool.and_false,Al,if_false];rw[j];simp only[if_true];rw[nP T b3];dsimp only;rw[a];refine Aa (wpAny_isSame_ref_self (Aa (Ad ?_)));simp only[if_true];exact d eq
   ·rw[a]
    refine Aa (A0 (wpAny_eqBool_tuple hu hc hk ?_));refine Aa (wpAny_setState_of X.at_ X.dt v ?_)
    by_cases eq:h=k
    ·subst eq
     cases add
     ·simp only[decide_true,Bool.false_and,Al,if_false]
      rw[j];simp only[if_true];rw[nP T b3];dsimp only;rw[a];refine Aa (wpAny_isSame_ref_self (Aa (Ad ?_)));simp only[if_true];exact Ad (h1 hk' _ fun _=>rfl)
     ·simp only[decide_true,Bool.and_self,if_true]
      exact Ad (h1 hk' _ fun z=>by cases z)
    ·rw[decide_eq_false eq]
     simp only[Bool.and_false,Al,if_false];rw[j];simp only[if_true];rw[nP T b3];dsimp only;rw[a];refine Aa (wpAny_isSame_ref_self (Aa (Ad ?_)));simp only[if_true];exact d eq
end
end STb
end
section
namespace STb
open PySem PySem.SetTable
section
variable{prog:Program}{w:World}{K:Type}[DecidableEq K]{knd:KeyKind prog w K}{A:Around}{E:Ω}{s:Shared}
def kA{h h':Heap}{S b:Addr}{k:List K}{o:Obj}{es ep t}(hk:AU knd h k b)(f:h.get? S=some o)(hd:o.data=.set es ep t)(hs:AS S h h'):AU knd h' k b:=by
 obtain⟨o',e,n,c,hc,a,hi⟩:=hk;have d:b≠S:=by
  rintro rfl;obtain rfl:o'=o:=As (c.symm.trans f);rw[hd] at a;exact nomatch a
 exact⟨o',e,n,(hs.2 b d).trans c,hc,a,hi⟩
def L4{ks:List K}{b:Addr}{Q:Bool->Shared->Prop}(g:∀k v n,knd.is k v=true->hashByValue n v=pure true)(hk:AU knd s.heap ks b)(h:Q true s):wpAny (model prog w) A (hashByValue 8 (.ref b)) Q E s:=by
 have f:=hk.typeIs;obtain⟨o,d,n,e,_,hd,hi⟩:=hk;unfold hashByValue;refine Aa (wpAny_specialOf f F.slot_tuple_hash.lookup ?_);dsimp only;refine Aa (wpAny_seqItems e hd ?_);refine Aa ?_;show wpAny _ _ (forIn d _ _) _ _ s;rw[<-Array.forIn_toList];refine wpAny_forIn_list _ (fun rest r s'=>r.1=none/\s'=s/\∃c,ItemsAre knd c rest) _ ?_ ?_ _ _ ⟨rfl,rfl,ks,hi⟩
 ·rintro v rest r s' ⟨hr,rfl,c,a⟩
  cases a with
  |@cons k _ ks'' _ h1 h2=>
   rw[g k v 7 h1];refine Aa (Ad ?_);simp only[Bool.not_true,Al,if_false];exact Ad ⟨rfl,rfl,ks'',h2⟩
 ·rintro⟨i,j⟩ s' ⟨hr,rfl,_⟩
  simp only at hr;subst hr;exact Ad h
def Hg{h:Heap}{S:Addr}{o:Obj}{es:Array (Int×Value)}{ep:Nat}{t:SetTable}{a:Array (Int×Value)}{t':SetTable}(c:h.get? S=some o)(hd:o.data=.set es ep t):(h.update S (Obj.putSet a t')).get? S=some {o with data:=.set a (ep+1) t'}:=by
 have:=Heap.get?_update_self (Obj.putSet a t') c (by rw[putSet_of a t' hd];rfl);rw[putSet_of a t' hd] at this;exact this
def Hh{c:Type}{es:Array c}:∀{l:List Nat},(∀q∈l,q<es.size)->∃a:List c,l.filterMap (es[·]?)=a/\a.length=l.length/\(∀x∈a,x∈es.toList)/\(∀(i q:Nat),l[i]?=some q->a[i]?=es[q]?)
 |[],_=>⟨[],rfl,rfl,(fun x hx=>by cases hx),(fun i q e=>by cases i<;>simp at e)⟩
 |q::l,h=>by
  obtain⟨a,e1,e2,e3,d⟩:=Hh (l:=l) fun x hx=>h x (At _ hx);have hq:=h q Ar;refine⟨es[q]::a,?_,by rw[Am,Am,e2],fun x hx=>?_,fun i p e=>?_⟩
  ·rw[List.filterMap_cons,getElem?_pos es q hq,e1]
  ·rcases List.mem_cons.mp hx with rfl|hx
   ·simp
   ·exact e3 x hx
  ·cases i with
   |zero=>simp at e;subst e;simp[getElem?_pos es q hq]
   |succ i=>simp at e ⊢;exact d i p e
def L5{B:List Addr}{S:Addr}{o:Obj}{es:Array (Int×Value)}{ep:Nat}{t:SetTable}{ks:List (List K)}{r a:Nat}(g:s.heap.get? S=some o)(hex:o.ExactSet)(hd:o.data=.set es ep t)(T:Tb t (es.map (·.1)))(hsz:es.size=ks.length)(X:ks.Nodup)(ad:∀e∈es.toList,∃b∈B,e.2=Value.ref b)(Y:∀e∈es.toList,∃k b,k∈ks/\e=(Ay knd k,Value.ref b)/\AU knd s.heap k b)(Z:∀k∈ks,∃b,(Ay knd k,Value.ref b)∈es.toList/\AU knd s.heap k b)(hw:SetTable.sizeAbove r-1=a)(gY:SetTable.sizeAbove r<=sizeLine)(hc:fE a)(ho:a%2=1)(hr:es.size<=a)(hz:es.size<=1000)(vN:(a=7/\es.size<=4)\/(a=31/\es.size<=18)\/(a=127/\es.size<=76)\/(a=15/\es.size<=8)\/(a=63/\es.size<=37)\/(a=255/\es.size<=152))(wk:w.params.followText "set-order"=true\/(t.led=true/\t.plain=true)){Q:Unit->Shared->Prop}(h:∀h' o' H I t',TS knd h' S o' H I t' ks B->AS S s.heap h'->Q () {s with heap:=h'}):wpAny (model prog w) A (setRelay S r) Q E s:=by
 have P:=fits_of T;unfold setRelay;refine Aa (wpAny_setState_of g hd P ?_);dsimp only;rw[if_neg (Nat.not_lt.mpr gY)];obtain⟨f,c,e1,e2,e3,J,u,L,j,M⟩:=LX hc ho t.finger (t.movedTo a) t.led t.plain (es.map (·.1)) (by rw[Array.size_map];exact hr);have U:t.relaid (es.map (·.1)) r=some (f,c):=by
  unfold SetTable.relaid;rw[hw];exact e1
 rw[Array.size_map] at u j;obtain⟨d,f1,f2,f3,f4⟩:=Hh (es:=es) j;have F:c.filterMap (es[·]?)=d.toArray:=by
  apply Array.toList_inj.mp;rw[Array.toList_filterMap,f1]
 have l:d.length=es.size:=by rw[f2,Ax,u]
 rw[U];refine Aa ?_;show wpAny _ _ (ite (((c.filterMap (es[·]?)).size != es.size)=true) _ _) _ _ _;rw[if_neg (by rw[F,Ai,l];simp),F];refine Ad ?_;dsimp only;have W:(d.toArray.map (·.1))=c.map fun q=>((es.map (·.1))[q]?).getD 0:=by
  apply Array.ext_getElem?;intro i;rw[Array.getElem?_map,Array.getElem?_map,List.getElem?_toArray];cases q:c[i]? with
  |none=>
   have:c.toList.length<=i:=by rw[Ax];exact Array.getElem?_eq_none_iff.mp q
   rw[List.getElem?_eq_none ω]
   rfl
  |some p=>
   have e:=f4 i p (by rw[AH];exact q);have hp:=j p (by rw[<-AH] at q;exact An q);rw[e,getElem?_pos es p hp];simp[hp]
 have T2:Tb f (d.toArray.map (·.1)):=by rw[W];exact M
 have C:∀q,q<es.size->q∈c.toList:=fun q hq=>Classical.byContradiction fun z=>by
  have D:(q::c.toList).Nodup:=List.nodup_cons.mpr ⟨z,L⟩;have sub:(q::c.toList) ⊆ AQ es.size:=fun x hx=>by
   rcases List.mem_cons.mp hx with rfl|hx
   ·exact List.mem_range.mpr hq
   ·exact List.mem_range.mpr (j x hx)
  have:=D.length_le_of_subset sub;rw[Am,Ax,u,List.length_range] at this;(first|lia|omega)
 refine wpAny_storeSet_of g hd ?_ (by rw[Ai,l,sizeLine_eq];(first|lia|omega));refine h _ {o with data:=.set d.toArray (ep+1) f} d.toArray (ep+1) f ?_ (AX ..);have G:AS S s.heap (s.heap.update S (Obj.putSet d.toArray f)):=AX ..;refine⟨Hg g hd,hex,rfl,T2,by rw[Ai,l];exact hsz,X,fun e he=>?_,fun k hk=>?_,?_,fun e he=>ad e (f3 e he),by rw[e3,J];exact wk⟩
 ·obtain⟨k,b,v,y,N⟩:=Y e (f3 e he)
  exact⟨k,b,v,y,kA N g hd G⟩
 ·obtain⟨b,v,y⟩:=Z k hk
  refine⟨b,?_,kA y g hd G⟩;obtain⟨q,hq,eq⟩:=List.mem_iff_getElem.mp v;rw[Ax] at hq;obtain⟨i,hi,O⟩:=List.mem_iff_getElem.mp (C q hq);have e:=f4 i q (by rw[Aj hi,O]);refine An (i:=i) ?_;rw[e,<-eq];simp[hq]
 ·rw[e2,Ai,l]
  exact vN
def ins_map{a c:Type}(f:a->c)(xs:Array a)(p:Nat)(x:a)(hp:p<=xs.size):(insertAt xs p x).map f=insertAt (xs.map f) p (f x):=by
 apply Array.ext_getElem?;intro i;rw[Array.getElem?_map,ft _ _ _ hp,ft _ _ _ (by rw[Array.size_map];exact hp),Array.getElem?_map,Array.getElem?_map]
 by_cases h1:i<p
 ·rw[if_pos h1,if_pos h1]
 ·rw[if_neg h1,if_neg h1]
  by_cases h2:i=p
  ·rw[if_pos h2,if_pos h2];rfl
  ·rw[if_neg h2,if_neg h2]
def ins_mem{a:Type}{xs:Array a}{p:Nat}{x y:a}(hp:p<=xs.size):y∈(insertAt xs p x).toList↔y=x\/y∈xs.toList:=by
 constructor
 ·intro h
  obtain⟨i,hi,e⟩:=List.mem_iff_getElem.mp h;have e2:(insertAt xs p x)[i]?=some y:=by rw[<-AH,Aj hi,e]
  rw[ft _ _ _ hp] at e2
  by_cases h1:i<p
  ·rw[if_pos h1,<-AH] at e2;exact .inr (An e2)
  ·rw[if_neg h1] at e2
   by_cases h2:i=p
   ·rw[if_pos h2] at e2;exact .inl (As e2).symm
   ·rw[if_neg h2,<-AH] at e2;exact .inr (An e2)
 ·rintro(rfl|h)
  ·refine An (i:=p) ?_
   rw[AH,ft _ _ _ hp,if_neg (Nat.lt_irrefl _),if_pos rfl]
  ·obtain⟨i,hi,e⟩:=List.mem_iff_getElem.mp h
   have e2:xs[i]?=some y:=by rw[<-AH,Aj hi,e]
   by_cases h1:i<p
   ·refine An (i:=i) ?_
    rw[AH,ft _ _ _ hp,if_pos h1];exact e2
   ·refine An (i:=i+1) ?_
    rw[AH,ft _ _ _ hp,if_neg ω,if_neg ω,Nat.add_sub_cancel];exact e2
def L6{B:List Addr}{S:Addr}{o:Obj}{es:Array (Int×Value)}{ep:Nat}{t:SetTable}{ks:List (List K)}(X:TS knd s.heap S o es ep t ks B)(hu:A.units<cLine)(hv:∀k v n,knd.is k v=true->hashByValue n v=pure true){k:List K}{b:Addr}(hk:AU knd s.heap k b)(qz:b∈B)(hn:ks.length<60){Q:Bool->Shared->Prop}(h:∀(r:Bool) h' o' aP cy t',TS knd h' S o' aP cy t' (if k∈ks then ks else ks++[k]) B->AS S s.heap h'->Q r {s with heap:=h'}):wpAny (model prog w) A (setAddHashed S (.ref b) (Ay knd k)) Q E s:=by
 unfold setAddHashed;refine A0 ?_;have T:=X.tb;have gU:=fits_of T;have X':TS knd s.heap S o es ep t ks B:=X;unfold setAddHashedIn;refine Aa (wpAny_setState_of (s:=s) X.at_ X.dt gU ?_);dsimp only;have nb:byScan (.ref b) es=false:=rfl;rw[nb];simp only[Al,if_false];obtain⟨ne,I,he,hm⟩:=LM T (Ay knd k);refine Aa ?_;unfold setSearch;refine L3 (s:=s) X' hu hk I he hm (fun W r0 _=>?_) (fun iq=>?_) 100000 0 none ?_ (AY _) rfl (fun m i c da=>absurd da (Nat.not_lt_zero _))
 ·dsimp only
  refine Ad (h false s.heap o es ep t ?_ (Heap.SameBut.refl ..));rw[if_pos W];exact X
 ·dsimp only
  refine Aa (wpAny_setState_of (s:=s) X.at_ X.dt gU ?_);dsimp only;have lq:(es.map (·.1)).size+1<=t.mask:=by
   rw[Array.size_map];rcases X.msk with ⟨a,b⟩|⟨a,b⟩|⟨a,b⟩|⟨a,b⟩|⟨a,b⟩|⟨a,b⟩<;>(first|lia|omega)
  obtain⟨F,p2,H⟩:=LO T he hm lq;rw[Array.size_map] at F;obtain⟨j,p,j_⟩:∃j p,t.put (pos t.mask (Ay knd k) ne)=(j,p):=⟨_,_,rfl⟩;rw[j_] at F p2 H ⊢;dsimp only at F p2 H ⊢;have im:k∉ks:=iq;have G:(insertAt es p (Ay knd k,Value.ref b)).size=es.size+1:=tZ _ _ _ F;have J:=X.sz;have hG:es.size<60:=ω
  have L:∀d:SetTable,Tb d (insertAt (es.map (·.1)) p (Ay knd k))->d.mask=t.mask->wpAny (model prog w) A (storeSet S (insertAt es p (Ay knd k,Value.ref b)) d)
    (fun _ s'=>∃h',s'={s with heap:=h'}/\h'.get? S=some {o with data:=.set (insertAt es p (Ay knd k,Value.ref b)) (ep+1) d}/\AS S s.heap h') E s:=fun d T2 m2=>
   wpAny_storeSet_of (s:=s) X.at_ X.dt ⟨_,rfl,Hg X.at_ X.dt,AX ..⟩ (by rw[G,sizeLine_eq];(first|lia|omega))
  have M:(insertAt es p (Ay knd k,Value.ref b)).map (·.1)=insertAt (es.map (·.1)) p (Ay knd k):=ins_map (·.1) es p _ F;have kM:(ks++[k]).Nodup:=by
   rw[AM];refine⟨X.nd,by simp,fun x hx y hy=>?_⟩;rw[List.mem_singleton.mp hy];exact fun z=>im (z▸hx)
  have N:∀h',AS S s.heap h'->∀e∈(insertAt es p (Ay knd k,Value.ref b)).toList,∃D u,D∈ks++[k]/\e=(Ay knd D,Value.ref u)/\AU knd h' D u:=fun h' g e he=>by
   rcases(ins_mem F).mp he with rfl|he
   ·exact⟨k,b,by simp,rfl,kA hk X.at_ X.dt g⟩
   ·obtain⟨D,u,Z,a2,a3⟩:=X.el e he
    exact⟨D,u,Aw _ Z,a2,kA a3 X.at_ X.dt g⟩
  have O:∀h',AS S s.heap h'->∀D∈ks++[k],∃u,(Ay knd D,Value.ref u)∈(insertAt es p (Ay knd k,Value.ref b)).toList/\AU knd h' D u:=fun h' g D hk'=>by
   rcases List.mem_append.mp hk' with hk'|hk'
   ·obtain⟨u,Z,a2⟩:=X.ke D hk'
    exact⟨u,(ins_mem F).mpr (.inr Z),kA a2 X.at_ X.dt g⟩
   ·rw[List.mem_singleton.mp hk']
    exact⟨b,(ins_mem F).mpr (.inl rfl),kA hk X.at_ X.dt g⟩
  have P:∀e∈(insertAt es p (Ay knd k,Value.ref b)).toList,∃u∈B,e.2=Value.ref u:=fun e he=>by
   rcases(ins_mem F).mp he with rfl|he
   ·exact⟨b,qz,rfl⟩
   ·exact X.ad e he
  have C:∀(d:SetTable)(h':Heap),Tb d (insertAt (es.map (·.1)) p (Ay knd k))->d.mask=t.mask->(w.params.followText "set-order"=true\/(d.led=true/\d.plain=true))->h'.get? S=some {o with data:=.set (insertAt es p (Ay knd k,Value.ref b)) (ep+1) d}->AS S s.heap h'->
    wpAny (model prog w) A (if(!false&&d.tooFull)=true then(setRelay S (SetTable.grown (es.size+1)) >>= fun _=>pure true) else pure true) Q E {s with heap:=h'}:=fun d h' T2 m2 tz hg g=>by
   have T2':Tb d ((insertAt es p (Ay knd k,Value.ref b)).map (·.1)):=by rw[M];exact T2
   have fl:d.fill=es.size+1:=by
    unfold SetTable.fill;rw[T2'.dum,T2'.size,Array.size_map,G]
    rfl
   have tf:d.tooFull=decide ((es.size+1)*5 ≥ t.mask*3):=by unfold SetTable.tooFull;rw[fl,m2]
   have lk:es.size+1=(ks++[k]).length:=by rw[Af,J];rfl
   have stay:((es.size+1)*5<t.mask*3)->((d.mask=7/\es.size+1<=4)\/(d.mask=31/\es.size+1<=18)\/(d.mask=127/\es.size+1<=76)\/(d.mask=15/\es.size+1<=8)\/(d.mask=63/\es.size+1<=37)\/(d.mask=255/\es.size+1<=152))->wpAny (model prog w) A (if(!false&&d.tooFull)=true then(setRelay S (SetTable.grown (es.size+1)) >>= fun _=>pure true) else pure true) Q E {s with heap:=h'}:=fun q mk=>by
    rw[tf,decide_eq_false ω];simp only[Bool.and_false,Al,if_false];refine Ad (h true h' {o with data:=.set (insertAt es p (Ay knd k,Value.ref b)) (ep+1) d} (insertAt es p (Ay knd k,Value.ref b)) (ep+1) d ?_ g);rw[if_neg im];exact⟨hg,X.ex,rfl,T2',by rw[G];exact lk,kM,N h' g,O h' g,by rw[G];exact mk,P,tz⟩
   have f:∀l n,es.size+1=n->((es.size+1)*5 ≥ t.mask*3)->SetTable.sizeAbove (SetTable.grown n)-1=l->SetTable.sizeAbove (SetTable.grown n)<=1000->fE l->l%2=1->es.size+1<=l->((l=7/\es.size+1<=4)\/(l=31/\es.size+1<=18)\/(l=127/\es.size+1<=76)\/(l=15/\es.size+1<=8)\/(l=63/\es.size+1<=37)\/(l=255/\es.size+1<=152))->
     wpAny (model prog w) A (if(!false&&d.tooFull)=true then(setRelay S (SetTable.grown (es.size+1)) >>= fun _=>pure true) else pure true) Q E {s with heap:=h'}:=fun l n en q w1 w2 c1 c2 c3 mk=>by
    rw[tf,decide_eq_true q];simp only[Bool.not_false,Bool.and_self,if_true];subst en;refine Aa (L5 (s:={s with heap:=h'}) (ks:=ks++[k]) hg X.ex rfl T2' (by rw[G];exact lk) kM P (N h' g) (O h' g) w1 (by rw[sizeLine_eq];(first|lia|omega)) c1 c2 (by rw[G];exact c3) (by rw[G];(first|lia|omega)) (by rw[G];exact mk) tz fun kX u_ pU o_ vG Bp pQ=>?_);refine Ad (h true kX u_ pU o_ vG ?_ (g.trans pQ));rw[if_neg im];exact Bp
   rcases X.msk with ⟨a,c⟩|⟨a,c⟩|⟨a,c⟩|⟨a,c⟩|⟨a,c⟩|⟨a,c⟩
   ·by_cases q:es.size+1<=4
    ·exact stay ω (.inl ⟨ω,q⟩)
    ·exact f 31 5 ω ω δ δ pY rfl ω (.inr (.inl ⟨rfl,ω⟩))
   ·by_cases q:es.size+1<=18
    ·exact stay ω (.inr (.inl ⟨ω,q⟩))
    ·exact f 127 19 ω ω δ δ ky rfl ω (.inr (.inr (.inl ⟨rfl,ω⟩)))
   ·exact stay ω (.inr (.inr (.inl ⟨ω,ω⟩)))
   ·by_cases q:es.size+1<=8
    ·exact stay ω (.inr (.inr (.inr (.inl ⟨ω,q⟩))))
    ·exact f 63 9 ω ω δ δ p3 rfl ω (.inr (.inr (.inr (.inr (.inl ⟨rfl,ω⟩)))))
   ·by_cases q:es.size+1<=37
    ·exact stay ω (.inr (.inr (.inr (.inr (.inl ⟨ω,q⟩)))))
    ·exact f 255 38 ω ω δ δ kx rfl ω (.inr (.inr (.inr (.inr (.inr ⟨rfl,ω⟩)))))
   ·exact stay ω (.inr (.inr (.inr (.inr (.inr ⟨ω,ω⟩)))))
  have U:w.params.followText "set-order"=true\/(j.led=true/\j.plain=true):=by
   have e1:j=(t.put (pos t.mask (Ay knd k) ne)).1:=by rw[j_]
   have e2:j.led=t.led:=by rw[e1];rfl
   have e3:j.plain=t.plain:=by rw[e1];rfl
   rw[e2,e3];exact X.wk
  cases hpl:j.plain with
  |true=>
   simp only[if_true];refine Aa (L4 (s:=s) hv hk ?_);simp only[if_true];refine Aa (wpAny_mono (L j H p2) (fun _ s' Y=>?_) fun _ _ e=>e);obtain⟨h',rfl,g1,g2⟩:=Y;exact C j h' H p2 U g1 g2
  |false=>
   simp only[Al,if_false];refine Aa (Ad ?_);simp only[if_true];refine Aa (wpAny_mono (L j H p2) (fun _ s' Y=>?_) fun _ _ e=>e);obtain⟨h',rfl,g1,g2⟩:=Y;exact C j h' H p2 U g1 g2
 ·have:t.mask<=255:=by rcases X.msk with ⟨a,_⟩|⟨a,_⟩|⟨a,_⟩|⟨a,_⟩|⟨a,_⟩|⟨a,_⟩<;>(first|lia|omega)
  unfold turns at I;(first|lia|omega)
def L7{B:List Addr}{S:Addr}{o:Obj}{es:Array (Int×Value)}{ep:Nat}{t:SetTable}{ks:List (List K)}(X:TS knd s.heap S o es ep t ks B)(hu:A.units<cLine)(a:∀k v n,knd.is k v=true->hashByValue n v=pure true){k:List K}{b:Addr}(hk:AU knd s.heap k b)(c:b∈B)(d:ks.length<60){Q:Bool->Shared->Prop}(h:∀(r:Bool) h' o' aP cy t',TS knd h' S o' aP cy t' (if k∈ks then ks else ks++[k]) B->AS S s.heap h'->Q r {s with heap:=h',toks:=s.toks+(k.length+1)}):wpAny (model prog w) A (setAdd S (.ref b)) Q E s:=by
 unfold setAdd;exact A0 (Aa (wpAny_pyHash_tuple hu hk (L6 (s:={s with toks:=s.toks+(k.length+1)}) X hu a hk c d h)))
end
end STb
end
section
namespace STb
def dd{a:Type}[DecidableEq a](l:List a):List a:=l.foldl (fun acc x=>if x∈acc then acc else acc++[x]) []
def ul{a:Type}[DecidableEq a](l:List a)(x:a):dd (l++[x])=if x∈dd l then dd l else dd l++[x]:=by unfold dd;rw[List.foldl_append];rfl
def p6{a:Type}[DecidableEq a](l:List a):(dd l).length<=l.length:=by
 have:∀(l acc:List a),(l.foldl (fun acc x=>if x∈acc then acc else acc++[x]) acc).length<=acc.length+l.length:=by
  intro l
  induction l with
  |nil=>intro acc;simp
  |cons x l ih=>
   intro acc;rw[List.foldl_cons];refine AB (ih _) ?_;split
   ·rw[Am];(first|lia|omega)
   ·rw[Af,Am,Am,List.length_nil];(first|lia|omega)
 simpa[dd] using this l []
def uo{a:Type}[DecidableEq a](l:List a)(x:a):x∈dd l↔x∈l:=by
 have:∀(l acc:List a),x∈(l.foldl (fun acc x=>if x∈acc then acc else acc++[x]) acc)↔x∈acc\/x∈l:=by
  intro l
  induction l with
  |nil=>intro acc;simp
  |cons y l ih=>
   intro acc;rw[List.foldl_cons,ih]
   by_cases h:y∈acc
   ·rw[if_pos h,List.mem_cons]
    constructor
    ·rintro(q|q)
     ·exact .inl q
     ·exact .inr (.inr q)
    ·rintro(q|q|q)
     ·exact .inl q
     ·subst q;exact .inl h
     ·exact .inr q
   ·rw[if_neg h,List.mem_append,List.mem_singleton,List.mem_cons]
    constructor
    ·rintro((q|q)|q)
     ·exact .inl q
     ·exact .inr (.inl q)
     ·exact .inr (.inr q)
    ·rintro(q|q|q)
     ·exact .inl (.inl q)
     ·exact .inl (.inr q)
     ·exact .inr q
 simpa[dd] using this l []
def L8{c:Type}[DecidableEq c](l:List c):(dd l).Nodup:=by
 have:∀(l acc:List c),acc.Nodup->(l.foldl (fun acc x=>if x∈acc then acc else acc++[x]) acc).Nodup:=by
  intro l
  induction l with
  |nil=>intro acc h;exact h
  |cons y l ih=>
   intro acc h;rw[List.foldl_cons]
   by_cases q:y∈acc
   ·rw[if_pos q];exact ih acc h
   ·rw[if_neg q]
    refine ih _ ?_;rw[AM];refine⟨h,by simp,fun a ha b hb e=>?_⟩;rw[List.mem_singleton] at hb;subst hb;subst e;exact q ha
 exact this l [] List.nodup_nil
def L9{a:Type}[DecidableEq a](l m:List a):(dd (l++m)).length<=(dd l).length+m.length:=by
 have:∀(m acc:List a),(m.foldl (fun acc x=>if x∈acc then acc else acc++[x]) acc).length<=acc.length+m.length:=by
  intro m
  induction m with
  |nil=>intro acc;simp
  |cons x l ih=>
   intro acc;rw[List.foldl_cons];refine AB (ih _) ?_;split
   ·rw[Am];(first|lia|omega)
   ·rw[Af,Am,Am,List.length_nil];(first|lia|omega)
 unfold dd;rw[List.foldl_append];exact this m _
def L_{a:Type}[DecidableEq a](l:List a)(h:∀(k:Nat) x,l[k]?=some x->x∉l.take k):dd l=l:=by
 have:∀k,k<=l.length->dd (l.take k)=l.take k:=by
  intro k
  induction k with
  |zero=>intro _;rfl
  |succ k ih=>
   intro hk;have hx:l[k]?=some l[k]:=Aj ω;rw[List.take_add_one,hx];show dd (l.take k++[l[k]])=_;rw[ul,ih ω,if_neg (h k _ hx)]
   rfl
 have q:=this l.length (Ag _);rw[Au (Ag _)] at q;exact q
def L'{a:Type}[DecidableEq a](l:List a){k:Nat}{x:a}(h:l[k]?=some x)(hx:x∈l.take k):(dd l).length<l.length:=by
 have hk:k<l.length:=(List.getElem?_eq_some_iff.mp h).1;have e:l=(l.take k++[x])++l.drop (k+1):=by
  have:=List.take_append_drop (k+1) l;rw[List.take_add_one,h] at this;exact this.symm
 have h1:=L9 (l.take k++[x]) (l.drop (k+1));rw[<-e,ul,if_pos ((uo _ _).mpr hx)] at h1;have h2:=p6 (l.take k);rw[Av] at h2;rw[List.length_drop] at h1;(first|lia|omega)
def Ma{a:Type}[DecidableEq a](l:List a):(dd l).length<l.length↔∃(k:Nat)(x:a),l[k]?=some x/\x∈l.take k:=by
 constructor
 ·intro h
  apply Classical.byContradiction;intro n;have:=L_ l fun k x e hx=>n ⟨k,x,e,hx⟩;rw[this] at h;exact Nat.lt_irrefl _ h
 ·rintro⟨k,x,e,hx⟩
  exact L' l e hx
end STb
end
section
set_option maxHeartbeats 3200000
namespace STb
open PySem PySem.SetTable PyProof.Rows
section
variable{prog:Program}{w:World}{K:Type}[DecidableEq K]{knd:KeyKind prog w K}{A:Around}{R:Result->Shared->Prop}{I:Addr}{fp wr:List Addr}{G:Array GenState->Array GenState->Prop}{n:Nat}{P:Nat->Value->Prop}{St:Nat->Shared->Prop}
def TS.moved{B:List Addr}{h h':Heap}{S:Addr}{o:Obj}{es:Array (Int×Value)}{ep:Nat}{t:SetTable}{ks:List (List K)}(X:TS knd h S o es ep t ks B)(a:h'.get? S=some o)(hk:∀k b,AU knd h k b->AU knd h' k b):TS knd h' S o es ep t ks B:=
 ⟨a,X.ex,X.dt,X.tb,X.sz,X.nd,fun e he=>let ⟨k,b,a1,a2,a3⟩:=X.el e he;⟨k,b,a1,a2,hk k b a3⟩,fun k hk'=>let ⟨b,a1,a2⟩:=X.ke k hk';⟨b,a1,hk k b a2⟩,X.msk,X.ad,X.wk⟩
def Mb{h h':Heap}{k:List K}{b:Addr}(hk:AU knd h k b)(e:∀o,h.get? b=some o->h'.get? b=some o):AU knd h' k b:=by
 obtain⟨o,a,n,c,r⟩:=hk;exact⟨o,a,n,e o c,r⟩
def Mc{B:List Addr}(W:WalksS prog w A.in1 I fp wr G n P St)(hu:A.in1.units<cLine)(hv:∀k v n,knd.is k v=true->hashByValue n v=pure true)(S:Addr)(l:S∉fp)(vals:List (List K))(adr:Nat->Addr)(hn:vals.length=n)(hB:∀i,i<n->adr i∈B)(hz:n<=59)(qv:∀i v,P i v->v=.ref (adr i))(hna:∀b o,(∃p m,o.cls=Value.type "tuple"/\o.data=.seq p m)->∀s i,St i s->s.heap.get? b=some o->b∉wr):∀(k i:Nat)(s:Shared),n-i=k->i<=n->St i s->(∃o es ep t,TS knd s.heap S o es ep t (dd (vals.take i)) B)->(∀(j:Nat)(x:List K),vals[j]?=some x->AU knd s.heap x (adr j))->
   (∀s',Moved (S::wr) G s s'->(∃o es ep t,TS knd s'.heap S o es ep t (dd vals) B)->R (.ok (.ret .none)) s')->codeAny (model prog w) A (.builtin "set.update.loop" ⟨[.ref S,.ref I],[]⟩) R s:=by
 have f:S∉wr:=fun h=>l (W.sub _ h);have M:∀b∈wr,b∈S::wr:=fun b hb=>At _ hb;have u:∀{i:Nat}{s s':Shared}{x:List K}{b:Addr},St i s->Moved wr G s s'->AU knd s.heap x b->AU knd s'.heap x b:=fun{i s s' x b} a hm hk=>by
  obtain⟨o,p,m,L,hc,hd,hi⟩:=id hk;exact⟨o,p,m,hm.heap b o (hna b o ⟨p,m,hc,hd⟩ s i a L) L,hc,hd,hi⟩
 intro k
 induction k with
 |zero=>
  intro i s hk hi a z C hR;have E:i=n:=ω
  subst E;refine codeAny_builtin F.entry_set_update_loop ?_;rw[Around.under_plainId F.plain_set_update_loop _];show wpAny _ A.in1 (pyNext (.ref I) >>= _) _ _ s;refine Aa (W.done s _ _ a fun s' hm=>?_);show wpAny _ A.in1 (ret Value.none) _ _ s';refine Ad (hR s' (hm.mono M) ?_);obtain⟨o,es,ep,t,X⟩:=z;rw[Au ω] at X;exact⟨o,es,ep,t,X.moved (hm.heap S _ f X.at_) fun k b hk=>u a hm hk⟩
 |succ k ih=>
  intro i s hk hi a z C hR;have c:i<n:=ω
  refine codeAny_builtin F.entry_set_update_loop ?_;rw[Around.under_plainId F.plain_set_update_loop _];show wpAny _ A.in1 (pyNext (.ref I) >>= _) _ _ s;refine Aa (W.item i s _ _ c a fun v s' O Q hm=>?_);obtain rfl:=qv i v O;obtain⟨o,es,ep,t,X⟩:=z;have X':TS knd s'.heap S o es ep t (dd (vals.take i)) B:=X.moved (hm.heap S _ f X.at_) fun k b hk=>u a hm hk;have hx:vals[i]?=some vals[i]:=Aj ω;have g:=p6 (vals.take i);rw[Av] at g;show wpAny _ A.in1 (holding [Value.ref (adr i)] (setAdd S (.ref (adr i))) >>= _) _ _ s';refine Aa (A0 (L7 X' hu hv (u a hm (C i _ hx)) (hB i c) ω fun r h' o' H J t' y D=>?_));have N:s'.toks<=s'.toks+(vals[i].length+1):=Nat.le_add_right _ _;have bR:St (i+1) {s' with heap:=h',toks:=s'.toks+(vals[i].length+1)}:=W.frame _ s' _ _ Q N fun b hb T e=>by
   rw[D.2 b (fun h:b=S=>l (by rw[<-h];exact hb))];exact e
  have d:vals.take (i+1)=vals.take i++[vals[i]]:=by rw[List.take_add_one,hx];rfl
  have X3:TS knd h' S o' H J t' (dd (vals.take (i+1))) B:=by
   rw[d,ul]
   by_cases q:vals[i]∈dd (vals.take i)
   ·rw[if_pos q] at y ⊢;exact y
   ·rw[if_neg q] at y ⊢;exact y
  refine Ad ⟨plainId_quiet F.plain_set_update_loop _,ih (i+1) _ ω c bR ⟨o',H,J,t',X3⟩ (fun j x U=>kA (u a hm (C j x U)) X'.at_ X'.dt D) fun Y Z cY=>?_⟩;refine hR Y (Moved.trans W.gtrans ((hm.mono M).then_heap N fun b T hb e=>?_) Z) cY;rw[D.2 b (fun h:b=S=>hb (by rw[h];exact Ar))];exact e
end
end STb
end
section
namespace STb
open PySem PySem.SetTable PyProof.Rows
section
variable{prog:Program}{w:World}{K:Type}[DecidableEq K]{knd:KeyKind prog w K}{A:Around}{E:Ω}{s:Shared}
def Md(a:Value){Q₁:Ω}(h:Q₁ (.ref s⁻¹) {s with heap:=s.heap.push {cls:=.type "set",dict:=none,data:=.set #[] 0 (.fresh 0 0 (!w.params.followText "set-order"))}}):codeAny (model prog w) A (.call (.builtin "set.__new__") ⟨[.type "set",a],[]⟩) (wants Q₁ E) s:=by
 refine codeAny_of_tree (show wpAny _ A.in1 (do checkBuiltinCall "set.__new__" ⟨[.type "set",a],[]⟩;again (.builtin "set.__new__" ⟨[.type "set",a],[]⟩)) _ _ s from Aa (wpAny_of_eq (F.newCall_set_1 a) (Ad ⟨plainId_quiet F.plain_set_new _,codeAny_builtin F.entry_set_new ?_⟩)));rw[Around.under_plainId F.plain_set_new _];unfold Builtin.«set.__new__» Builtin.Frozenset.newClass;have c:=sub_set_self;obtain⟨hp,g,d,tk,os⟩:=s;dsimp only;wp_walk;refine wpAny_askSetting (Ad ?_);dsimp only;simp only[newObj];exact Aa (wpAny_alloc (Ad (Ad h)))
def Me{B:List Addr}{l:Addr}{a:Array Value}{vals:List (List K)}{adr:Nat->Addr}{Q:Ω}(hh:A.handled=none)(hl:s.heap.IsList l a)(hu:A.units+64<cLine)(hv:∀k v n,knd.is k v=true->hashByValue n v=pure true)(hz:a.size<=59)(hn:vals.length=a.size)(hB:∀i,i<a.size->adr i∈B)(aB:∀(i:Nat) v,a[i]?=some v->v=.ref (adr i))(hT:∀(j:Nat) x,vals[j]?=some x->AU knd s.heap x (adr j))(h:∀h' tk,(∃o es ep t,TS knd h' s⁻¹ o es ep t (dd vals) B)->(∀b o,b<s⁻¹->s.heap.get? b=some o->h'.get? b=some o)->Q (.ref s⁻¹) {s with heap:=h',toks:=tk}):wpAny (model prog w) A (call (.type "set") [.ref l]) Q E s:=by
 obtain⟨c,tl,iL⟩:=F.called_set.mro;have kQ:=F.called_set.made;have bg:=F.called_set.sub;refine wpAny_call (codeAny_of_tree ?_);show wpAny _ _ (callAny (.type "set") _) _ _ _;refine Ad ⟨Code.quiet_builtin _ δ,codeAny_builtin F.entry_type_call ?_⟩;rw[Around.under_plain (weight_type_call_type "set" [.ref l] []) rfl];have h1:=F.called_set.notType;have h2:=F.called_set.canCreate;have tw:=F.typeCall_set_1 (.ref l)
 repeat(any_goals(first|assumption|wp_step))
 refine codeAny_mono (Md (.ref l) (E:=E) (Q₁:=fun obj D=>∃led:Bool,(w.params.followText "set-order"=true\/led=true)/\obj=.ref s⁻¹/\D={s with heap:=s.heap.push {cls:=.type "set",dict:=none,data:=.set #[] 0 (.fresh 0 0 led)}}) ⟨_,by cases w.params.followText "set-order" <;> simp,rfl,rfl⟩) fun r D hr=>?_;cases r with
 |error e=>exact hr
 |ok fl=>
  cases fl with
  |ret obj=>
   obtain⟨led,O,rfl,rfl⟩:=hr;have J:(s.heap.push {cls:=.type "set",dict:=none,data:=.set #[] 0 (.fresh 0 0 led)}).get? s⁻¹=some {cls:=.type "set",dict:=none,data:=.set #[] 0 (.fresh 0 0 led)}:=Aq _ rfl;have X:Shared.TypeIs {s with heap:=s.heap.push {cls:=.type "set",dict:=none,data:=.set #[] 0 (.fresh 0 0 led)}} (.ref s⁻¹) "set":=⟨_,J,rfl⟩;have yb:=F.called_set.init.lookup;have wC:=F.called_set.init.bind (.ref s⁻¹)
   repeat(any_goals(first|assumption|wp_step))
   refine codeAny_mono (codeAny_call_builtin (R:=wants (fun r G=>r=.none/\∃h' tk,G={s with heap:=h',toks:=tk}/\
     (∃o es ep t,TS knd h' s⁻¹ o es ep t (dd vals) B)/\
     (∀b o,b<s⁻¹->s.heap.get? b=some o->h'.get? b=some o)) E) F.called_set.init.plain F.entry_set_init (check_set_init_1 X ?_)) fun M G u=>?_
   ·obtain⟨P,hol,d,H,I⟩:=hl
    obtain⟨uZ,S,uy,T⟩:=P;simp only at d I;subst d;subst I;have Y:(s.heap.push {cls:=.type "set",dict:=none,data:=.set #[] 0 (.fresh 0 0 led)}).get? l=some {cls:=.type "list",dict:=S,data:=.seq a H,slots:=T}:=Ae _ hol;have xy:=F.sub_list_set;have vA:=F.sub_list_frozenset;have Z:(Value.type "list" == Value.type "dict")=false:=ξ
    have f:(s.heap.push {cls:=.type "set",dict:=none,data:=.set #[] 0 (.fresh 0 0 led)}).IsList l a:=⟨_,Y,rfl,H,rfl⟩;unfold Builtin.«set.__init__» noKeywords Builtin.Frozenset.updateFrom;generalize hPI:pyIter=PI
    wp_walk
    subst hPI;refine wpAny_pyIter_list f ?_;refine Aa (wpAny_runValue ?_);have L:l<s⁻¹:=Ap hol;have va:A.in1.in1.in1.handled=none:=by simp[hh]
    have g:l≠(s.heap.push {cls:=.type "set",dict:=none,data:=.set #[] 0 (.fresh 0 0 led)}).objs.size:=by
     rw[Heap.size_push];exact AA (Nat.lt_succ_of_lt L)
    have C:s⁻¹∉[(s.heap.push {cls:=.type "set",dict:=none,data:=.set #[] 0 (.fresh 0 0 led)}).objs.size,l]:=by
     rw[Heap.size_push];simp only[List.mem_cons,List.mem_singleton,List.not_mem_nil,or_false,not_or];exact⟨AA (Nat.lt_succ_self _),Nat.ne_of_gt L⟩
    refine Mc (knd:=knd) ((Walks.list va _ l g a).toS) (by show A.units+1+1+1<cLine;(first|lia|omega)) hv s⁻¹ C vals adr hn hB hz (fun i v q=>aB i v q) (fun b o N s' i st e hb=>?hna)
     (a.size-0) 0 _ ω (AY _) ⟨⟨_,Aq _ rfl,rfl,rfl⟩,(f.push _)⟩ ⟨{cls:=.type "set",dict:=none,data:=.set #[] 0 (.fresh 0 0 led)},#[],0,.fresh 0 0 led,?hS0⟩ (fun j x hx=>Mb (hT j x hx) fun o e=>Ae _ (Ae _ e)) ?hR
    case hna=>
     obtain⟨⟨oi,e1,e2,_⟩,_⟩:=st;obtain⟨ah,m,hc,_⟩:=N;simp only[List.mem_singleton] at hb;subst hb;have e3:=As (e1.symm.trans e);rw[<-e3,e2] at hc;exact absurd hc ξ
    case hS0=>
     have p:((s.heap.push {cls:=.type "set",dict:=none,data:=.set #[] 0 (.fresh 0 0 led)}).push {cls:=.type "list_iterator",data:=.fields #[.ref l,.int 0 0]}).get? s⁻¹
      =some {cls:=.type "set",dict:=none,data:=.set #[] 0 (.fresh 0 0 led)}:=Ae _ J
     exact⟨p,⟨rfl,rfl,rfl⟩,rfl,(by simpa using LQ 0 0 led),rfl,List.nodup_nil,fun e he=>by simp at he,fun k hk=>by simp[dd] at hk,.inl ⟨rfl,AY _⟩,(fun e he=>by simp at he),O.imp id fun z=>⟨z,rfl⟩⟩
    case hR=>
     intro s' hm y;obtain⟨h',g',d',U,W⟩:=s';have eg:g'=s.gens:=hm.gens;have ed:d'=s.drawn:=hm.drawn;have eo:W=s.os:=hm.os;subst eg;subst ed;subst eo;show wpAny _ _ _ _ _ _;refine Ad ?_;show wpAny _ _ (ret Value.none) _ _ _;refine Ad ⟨rfl,h',U,rfl,y,fun b o hb e=>?_⟩;have lF:b≠s⁻¹:=AA hb;have cH:b≠(s.heap.push {cls:=.type "set",dict:=none,data:=.set #[] 0 (.fresh 0 0 led)}).objs.size:=by
      rw[Heap.size_push];exact AA (Nat.lt_succ_of_lt hb)
     exact hm.heap b o (by simp only[List.mem_cons,List.mem_singleton,List.not_mem_nil,or_false,not_or];exact⟨lF,cH⟩) (Ae _ (Ae _ e))
   ·cases M with
    |error e=>exact u
    |ok fl₂=>
     cases fl₂ with
     |ret r=>
      obtain⟨rfl,h',tk,rfl,y,hk'⟩:=u
      repeat(any_goals(first|assumption|wp_step))
      exact h _ _ y hk'
     |_=>exact u.elim
  |_=>exact hr.elim
end
end STb
namespace L2
open PySem PySem.Spec PyProof.Rows
def gn(D:Addr)(n:Nat):HO:=.ext fun h=>∃o es ep t,h.get? D=some o/\o.ExactSet/\o.data=.set es ep t/\t.fits es.size=true/\es.size=n/\n<=100
section
variable{X:Cx}
def Mf{prog:Program}{w:World}:∀(k:Int)(v:Value)(n:Nat),(intKind prog w).is k v=true->hashByValue n v=pure true:=by
 intro k v n h;obtain⟨t,rfl⟩:=Value.isInt_shape h;cases n<;>rfl
def Mg{prog:Program}{w:World}{h:Heap}{c:Addr}{a:List Value}{f:List Int}(hc:IsTup h c a.toArray)(hi:IntsAre a f):AU (intKind prog w) h f c:=by
 obtain⟨o,e,g,k,d⟩:=hc;refine⟨o,a.toArray,k,e,g,d,?_⟩;have:∀{a:List Value}{f:List Int},IntsAre a f->ItemsAre (intKind prog w) f a:=by
  intro a f hi
  induction hi with
  |nil=>exact .nil
  |cons n t h ih=>exact .cons (by show Value.isInt n (.int n t)=true;simp[Value.isInt]) ih
 simpa using this hi
def Mh(hc:X.calm=true)(hu:X.A.units+64<cLine):fm X (.type "set") (fun xs H Q=>∃(l:Addr)(as:List Addr)(pss:Ξ),xs=[.ref l]/\SqL X.K H l (as.map V.ref)/\Tps H as pss/\pss.length<=59/\
  ∀D,H D=none->Q (.ref D) (upd H D (gn D (STb.dd pss).length))):=by
 intro aa s σ H xs us Q I r h;obtain⟨l,as,pss,rfl,hq,hp,hz,q⟩:=h;obtain⟨u,rfl,z⟩:=vals1 r;cases z;obtain⟨C,E,F,_⟩:=I.list hq;obtain rfl:=bw E;have J:=hp.length;refine STb.Me (B:=as) (knd:=intKind X.prog X.w) (vals:=pss) (adr:=fun i=>as.getD i 0) (I.ok.hd hc) F.isList hu Mf (by rw[Ai,Ab];(first|lia|omega)) (by rw[Ai,Ab];(first|lia|omega)) (fun i hi=>by rw[Ai,Ab] at hi;rw[List.getD_eq_getElem?_getD,Aj hi];exact List.getElem_mem hi)
  (fun i v e=>?_) (fun j x e=>?_) fun h' tk ⟨o,es,ep,t,T⟩ f=>?_
 ·have e':(as.map Value.ref)[i]?=some v:=by simpa using e
  rw[Ao] at e';cases c:as[i]? with
  |none=>rw[c] at e';simp at e'
  |some a=>
   rw[c] at e';rw[<-As e',List.getD_eq_getElem?_getD,c]
   rfl
 ·have L:j<as.length:=by rw[J];exact(List.getElem?_eq_some_iff.mp e).1
  have c:as[j]?=some as[j]:=Aj L;obtain⟨M,e1,e2⟩:=hp.get c;rw[e] at e1;obtain rfl:=As e1;obtain⟨C,G,p2,_⟩:=I.tuple (SqT.of (K:=X.K) e2);rw[List.getD_eq_getElem?_getD,c];exact Mg p2 (intsAre_of G)
 ·have d:=STb.p6 pss
  refine⟨.ref s⁻¹,_,I.laid (o:=gn s⁻¹ (STb.dd pss).length) (fun b u e=>f b u (Ap e) e) (Ag _) ?_,rfl,q _ (I.hok.fresh (Ag _))⟩;refine⟨⟨o,es,ep,t,T.at_,T.ex,T.dt,STb.fits_of T.tb,T.sz,ω⟩,⟨o,T.at_⟩,fun h1 h2 ⟨o',g,p,t',g1,g2⟩ y=>⟨o',g,p,t',y _ g1,g2⟩⟩
def Mi:fm X (.builtin "len") (fun xs H Q=>∃D n,xs=[.ref D]/\H D=some (gn D n)/\Q (.int n) H):=by
 intro aa s σ H xs us Q I r h;obtain⟨D,n,rfl,hq,q⟩:=h;obtain⟨u,rfl,a⟩:=vals1 r;cases a;obtain⟨⟨o,es,ep,t,h1,h2,c,d,e,f⟩,_⟩:=(show zT X.prog X.w H s.heap D (gn D n) from I.hok D _ hq);exact call_len_set h1 h2 c d ω ⟨.int n,H,I.tok _,⟨_,by rw[e]⟩,q⟩
end
end L2
end
section
namespace Spl
open PySem PySem.Spec PySem.Builtin PySem.Builtin.Str PyProof.Rows
section
variable{prog:Program}{w:World}{A:Around}{E:Ω}{s:Shared}{x y:PySem.Str}{t u:Tok}{Q:Ω}
def split1(hy:(y.length==0)=false)(h:∀(l:List (PySem.Str×Tok)) k,l.map (·.1)=Txt.split x y->Q (.ref s⁻¹) {s with heap:=s.heap.push {cls:=.type "list",data:=.seq (strValues l).toArray},toks:=k})(hsz:x.length+2<=sizeLine):wpAny (model prog w) A (call (.builtin "str.split") [.str x t,.str y u]) Q E s:=by
 have a:(partsBetween x (occurrences x y 0 x.length (x.length+1)) y.length).length<=sizeLine:=by
  have e1:=StrLaws.occ_length_le x y 0 x.length (x.length+1);rw[length_partsBetween];(first|lia|omega)
 cases h1:(decide (x.length<y.length)|| decide (strKind x<strKind y))
 ·cases hf:(occurrences x y 0 x.length (x.length+1)).isEmpty
  ·refine call_meets F.slot_str_split (typeIs_str _ _ _) F.entry_str_split (F.args_str_split_2 _ _) (meets_str_split_sep x y t u h1 hy hf ω a) ?_
   show wants Q E _ {s with toks:=_,heap:=s.heap.push {cls:=.type "list",data:=.seq (strsFrom s.toks (partsBetween x (occurrences x y 0 x.length (x.length+1)) y.length)).toArray}};rw[strsFrom_eq];exact h (numbered s.toks _) _ ((numbered_texts _ _).trans ((if_neg (ne_true_of_eq_false h1)).trans (if_neg (ne_true_of_eq_false hf))).symm)
  ·exact call_meets F.slot_str_split (typeIs_str _ _ _) F.entry_str_split (F.args_str_split_2 _ _) (meets_str_split_not_found x y t u h1 hy hf)
    (h [(x,t)] s.toks ((if_neg (ne_true_of_eq_false h1)).trans (if_pos hf)).symm)
 ·exact call_meets F.slot_str_split (typeIs_str _ _ _) F.entry_str_split (F.args_str_split_2 _ _) (meets_str_split_cannot_occur x y t u h1)
   (h [(x,t)] s.toks (if_pos h1).symm)
end
end Spl
namespace L2
open PySem PySem.Spec PyProof.Rows
section
variable{X:Cx}
def Hi:∀(l:List (PySem.Str×Tok)),Vals ((l.map (·.1)).map V.str) (strValues l)
 |[]=>.nil
 |p::l=>.cons ⟨p.2,rfl⟩ (Hi l)
def znp:V->List V->Hp->VK->Prop:=fun x vs H Q=>∃z y,x=.str z/\vs=[.str y]/\(y.length==0)=false/\z.length+2<=sizeLine/\(Txt.split z y).length<=sizeLine/\∀D,H D=none->Q (.ref D) (upd H D (.lst ((Txt.split z y).map V.str)))
def Mj:ka X "str.split" znp:=by
 intro aa s σ H x vs v us Q I a c h;obtain⟨z,y,rfl,rfl,hy,hz,d,q⟩:=h;obtain⟨t,rfl⟩:=a;obtain⟨u,rfl,f⟩:=c.one;obtain⟨t',rfl⟩:=f;refine Spl.split1 hy (fun l k e=>?_) hz;refine⟨.ref s⁻¹,_,I.laid (t':=k) (o:=.lst ((Txt.split z y).map V.str)) (fun b ob q=>Ae _ q) (Ag _) ?_,rfl,q _ (I.hok.fresh (Ag _))⟩;refine⟨by rw[Ab];exact d,strValues l,0,?_,Aq _ rfl⟩;rw[<-e];exact Hi l
def up(x:PySem.Str):It:=⟨fun i _=>i<x.cps.size,fun i H v H'=>H'=H/\∃c,x.cps[i]?=some c/\v=.str ⟨#[c]⟩,fun i _=>i=x.cps.size⟩
def Hj{P:Program}{w:World}{K:Ac}{tg:Expr}(x:PySem.Str)(it:Addr)(T:String)(q:["enumerate","zip","dict_itemiterator","dict_reverseitemiterator","odict_iterator","itertools.zip_longest","itertools.pairwise"].contains T=false)(t:Tok)(W:∀A':Around,A'.handled=none->Walks P w A' it [it] [it] x.cps.size (SignAt x) (fun i h=>h.IsStrIter it T x t i))(r:∀(A:Around)(i:Nat)(s:Shared)(Q:Ω)(E:Ω),s.heap.IsStrIter it T x t i->Q (.ref it) s->wpAny (model P w) A (pyIter (.ref it)) Q E s):Turn P w K tg (up x) [it] it (fun i h=>h.IsStrIter it T x t i) where
 mem:=by simp
 obj:=fun i h st b hb=>by
  have e:b=it:=by simpa using hb
  subst e;obtain⟨o,e,c,d⟩:=st;exact⟨o,e,fun v z=>by rw[d] at z;cases z⟩
 keep:=fun i h h' st k=>by
  obtain⟨o,e,c⟩:=st;exact⟨o,k it (by simp) o e,c⟩
 item:=by
  intro X a hw f hc i aa s σ H E I hf st g;subst a hw f;obtain⟨f0,f1,f2,f3,f4,f5⟩:=hf it (by simp);refine(W X.A (I.ok.hd hc)).item i s _ _ g st fun v h' tk p l j=>?_;obtain⟨c,u,hx,rfl⟩:=p;have y:Inv X aa σ H {s with heap:=h',toks:=tk}:=I.turned (fun b o hb e=>j b o (by simpa using hb) e) f0 f1 f3 f4 f5;obtain⟨o,e1,e2,e3⟩:=id l;exact⟨_,rfl,mJ (s:={s with heap:=h',toks:=tk}) e1 e2 e3 q ⟨.str ⟨#[c]⟩,H,y,⟨u,rfl⟩,⟨rfl,c,hx,rfl⟩,l,fun b hb=>(hf b hb).1⟩⟩
 done:=by
  intro X a hw f hc i aa s σ H E I hf st g;subst a hw f;obtain⟨f0,f1,f2,f3,f4,f5⟩:=hf it (by simp);have hi:i=x.cps.size:=g;subst hi;exact(W X.A (I.ok.hd hc)).done s _ _ st fun h' tk j=>⟨rfl,I.turned (fun b o hb e=>j b o (by simpa using hb) e) f0 f1 f3 f4 f5⟩
 self:=r
def Eo(te:TE):TI:=fun σ H R=>te σ H fun v H1=>∃x,v=.str x/\R (up x) H1
def Ml{tg l:Expr}{tl:TE}(f:PE X l tl):PI X tg l (Eo tl):=by
 intro aa s σ H R I h;refine aX (f aa s σ H _ I h) fun v a ⟨x,H1,I1,d,q1⟩=>?_;obtain⟨z,e,q⟩:=q1;subst e;obtain⟨t,rfl⟩:=d;have fin:∀(o:Obj),Inv X aa σ H1 {a with heap:=a.heap.push o}:=fun o=>I1.kept (t':=a.toks) fun b o e=>Ae _ e;have fp:∀b∈[a⁻¹],bW X aa H1 b:=fun b hb=>by
  have e:b=a⁻¹:=by simpa using hb
  subst e;exact I1.fpOk (Ag _) (I1.hok.fresh (Ag _))
 cases ha:z.cps.all (·<128)
 ·refine wpAny_pyIter_wide ha ?_
  exact⟨a⁻¹,[a⁻¹],_,_,H1,rfl,fin _,Hj z _ "str_iterator" ξ t (fun g c=>Walks.strWide c _ z t) (fun A i s Q E st h=>wpAny_pyIter_striter_wide st h),⟨_,Aq _ rfl,rfl,rfl⟩,fp,q⟩
 ·refine wpAny_pyIter_ascii ha ?_
  exact⟨a⁻¹,[a⁻¹],_,_,H1,rfl,fin _,Hj z _ "str_ascii_iterator" ξ t (fun g c=>Walks.strAscii c _ z t) (fun A i s Q E st h=>wpAny_pyIter_striter_ascii st h),⟨_,Aq _ rfl,rfl,rfl⟩,fp,q⟩
def Mm{g:TG}{tc:TT}{te:TE}{σ:St}{H1:Hp}{Q:VK}{D:Addr}{x:PySem.Str}(a:Nat->St->List V->Hp->Prop)(h:a 0 σ [] (upd H1 D (.lst [])))(hs:∀i σ ys H c,x.cps[i]?=some c->i<x.cps.size->ys.length<=i->a i σ ys H->g (.str ⟨#[c]⟩) σ H fun d j=>tc d j fun b f=>if b=true then te d f (eB x.cps.size a D i d) else db x.cps.size a i d f)(hd:∀σ ys H,a x.cps.size σ ys H->Q (.ref D) H):c7 (up x) g tc te σ H1 D Q:=by
 refine kt x.cps.size a h (fun σ ys H p=>rfl) (fun i σ ys H hi p=>hi) (fun i σ ys H v H' hi hy p y=>?_) hd;obtain⟨e,c,hc,rfl⟩:=y;subst e;exact hs i σ ys _ c hc hi hy p
end
end L2
end
section
namespace K1
open STb
def subs(ps:List Int):Ξ:=ps.foldl (fun a x=>a++a.map (·++[x])) [[]]
def parts(ps:List Int):Ξ:=(subs ps).drop 1
def Hk(ps:List Int)(x:Int):subs (ps++[x])=subs ps++(subs ps).map (·++[x]):=by unfold subs;rw[List.foldl_append];rfl
def Hl(ps:List Int):(subs ps).length=2 ^ ps.length:=by
 have:∀(ps:List Int)(acc:Ξ),(ps.foldl (fun a x=>a++a.map (·++[x])) acc).length=acc.length*2 ^ ps.length:=by
  intro ps
  induction ps with
  |nil=>intro acc;simp
  |cons x ps ih=>
   intro acc;rw[List.foldl_cons,ih,Af,Ab,Am,Nat.pow_succ];rw[<-Nat.two_mul,Nat.mul_comm 2,Nat.mul_assoc,Nat.mul_comm 2]
 simpa[subs] using this ps [[]]
def Hm(ps:List Int):∃t,subs ps=[]::t/\∀q∈t,q≠[]:=by
 have:∀(ps:List Int)(acc:Ξ),(∃t,acc=[]::t/\∀q∈t,q≠[])->∃t,ps.foldl (fun a x=>a++a.map (·++[x])) acc=[]::t/\∀q∈t,q≠[]:=by
  intro ps
  induction ps with
  |nil=>intro acc h;exact h
  |cons x ps ih=>
   rintro acc ⟨t,rfl,h⟩;rw[List.foldl_cons];refine ih _ ⟨t++([]::t).map (·++[x]),rfl,fun q hq=>?_⟩;rcases List.mem_append.mp hq with hq|hq
   ·exact h q hq
   ·obtain⟨r,_,rfl⟩:=List.mem_map.mp hq
    simp
 exact this ps [[]] ⟨[],rfl,fun q hq=>nomatch hq⟩
def p7(ps:List Int):(parts ps).length=2 ^ ps.length-1:=by unfold parts;rw[List.length_drop,Hl]
def Mn(ps:List Int):∀q∈subs ps,q.length<=ps.length:=by
 have:∀(ps:List Int)(acc:Ξ)(n:Nat),(∀q∈acc,q.length<=n)->∀q∈ps.foldl (fun a x=>a++a.map (·++[x])) acc,q.length<=n+ps.length:=by
  intro ps
  induction ps with
  |nil=>intro acc n h q hq;simpa using h q hq
  |cons x ps ih=>
   intro acc n h q hq;rw[List.foldl_cons] at hq;have:=ih _ (n+1) (fun r hr=>by
    rcases List.mem_append.mp hr with hr|hr
    ·exact Nat.le_succ_of_le (h r hr)
    ·obtain⟨u,hu,rfl⟩:=List.mem_map.mp hr
     rw[Af];exact Nat.succ_le_succ (h u hu)) q hq
   rw[Am];(first|lia|omega)
 intro q hq;have:=this ps [[]] 0 (fun r hr=>by simp at hr;subst hr;exact Ag _) q hq;(first|lia|omega)
def bf:List Int->Bool
 |a::b::r=>decide (a<b)&&bf (b::r)
 |_=>true
def Hn:∀ps:List Int,((ps.zip (ps.drop 1)).map fun p=>decide (p.1<p.2)).all id=bf ps
 |[]=>rfl
 |[_]=>rfl
 |a::b::r=>by
  have:=Hn (b::r);unfold bf;rw[<-this]
  rfl
def Ho:∀ps:List Int,bf ps=true↔∀(i:Nat) a b,ps[i]?=some a->ps[i+1]?=some b->a<b
 |[]=>by simp[bf]
 |[x]=>by simp[bf]
 |x::y::r=>by
  unfold bf;rw[AL,decide_eq_true_eq,Ho (y::r)];constructor
  ·rintro⟨h1,h2⟩ i a b ha hb
   cases i with
   |zero=>simp at ha hb;subst ha hb;exact h1
   |succ i=>exact h2 i a b (by simpa using ha) (by simpa using hb)
  ·intro h
   exact⟨h 0 x y rfl rfl,fun i a b ha hb=>h (i+1) a b (by simpa using ha) (by simpa using hb)⟩
def Hq(ps:List Int)(h:bf ps=true):∀(d i:Nat) a b,ps[i]?=some a->ps[i+d]?=some b->a<=b:=by
 intro d
 induction d with
 |zero=>intro i a b ha hb;rw[Nat.add_zero,ha] at hb;cases hb;exact Int.le_refl _
 |succ d ih=>
  intro i a b ha hb;have c:i+(d+1)<ps.length:=(List.getElem?_eq_some_iff.mp hb).1;have hc:ps[i+d]?=some ps[i+d]:=Aj ω;have h1:=ih i a _ ha hc;have h2:=(Ho ps).mp h (i+d) _ b hc hb;(first|lia|omega)
def zF(ps:List Int):Bool:=decide (1<=ps.length)&&decide (ps.length<=5)&&!(decide (ps.headD 0<0))&&!(decide (99<ps.getLastD 0))&&bf ps
def ff(ps:List Int):Bool:=decide (1<=ps.length)&&decide (ps.length<=5)&&ps.all (fun p=>decide (0<=p)&&decide (p<=99))&&bf ps
def Hr(ps:List Int):zF ps=ff ps:=by
 unfold zF ff;cases ps with
 |nil=>rfl
 |cons x r=>
  by_cases hr:bf (x::r)=true
  ·rw[hr,Bool.and_true,Bool.and_true]
   by_cases e:(x::r).length<=5
   ·have e1:(x::r).getLastD 0=(x::r)[(x::r).length-1]:=by
     rw[List.getLastD_eq_getLast?,List.getLast?_eq_getElem?,Aj (by simp)];rfl
    have key:(!(decide ((x::r).headD 0<0))&&!(decide (99<(x::r).getLastD 0)))=(x::r).all (fun p=>decide (0<=p)&&decide (p<=99)):=by
     rw[Bool.eq_iff_iff];rw[AL,Bool.not_eq_true',Bool.not_eq_true',decide_eq_false_iff_not,decide_eq_false_iff_not,List.all_eq_true];constructor
     ·rintro⟨a,c⟩ p hp
      obtain⟨i,hi⟩:=List.mem_iff_getElem?.mp hp;have d:i<(x::r).length:=(List.getElem?_eq_some_iff.mp hi).1;have g1:=Hq (x::r) hr i 0 x p rfl (by simpa using hi);have g2:=Hq (x::r) hr ((x::r).length-1-i) i p ((x::r)[(x::r).length-1]) hi (by
       rw[show i+((x::r).length-1-i)=(x::r).length-1 from ω];exact Aj (by simp))
      rw[e1] at c;have f:¬x<0:=a;simp only[AL,decide_eq_true_eq];constructor<;>(first|lia|omega)
     ·intro h
      have g1:=h x Ar;have g2:=h ((x::r)[(x::r).length-1]) (List.getElem_mem _);rw[e1];simp only[AL,decide_eq_true_eq] at g1 g2;constructor
      ·show ¬x<0;(first|lia|omega)
      ·(first|lia|omega)
    rw[<-key];simp only[Bool.and_assoc]
   ·rw[decide_eq_false e];simp
  ·have:bf (x::r)=false:=by simpa using hr
   rw[this,Bool.and_false,Bool.and_false]
def a'(pss:Ξ):Bool:=decide (pss.length<=20)&&pss.all zF&&!(decide ((dd pss).length<pss.length))&&decide ((dd (pss.flatMap parts)).length<=200)
def Hs(pss:Ξ)(k:Nat):Prop:=∀(i:Nat) ps,i<k->pss[i]?=some ps->ps∉pss.take i/\ff ps=true
def Mo(pss:Ξ)(h:pss.length<=20)(a:Hs pss pss.length):a' pss=decide ((dd (pss.flatMap parts)).length<=200):=by
 unfold a';have h1:pss.all zF=true:=List.all_eq_true.mpr fun ps hp=>by
  obtain⟨i,hi⟩:=List.mem_iff_getElem?.mp hp;rw[Hr];exact(a i ps (List.getElem?_eq_some_iff.mp hi).1 hi).2
 have h2:¬(dd pss).length<pss.length:=fun z=>by
  obtain⟨k,x,e,hx⟩:=(Ma pss).mp z;exact(a k x (List.getElem?_eq_some_iff.mp e).1 e).1 hx
 rw[decide_eq_true h,h1,decide_eq_false h2]
 rfl
def Mp(pss:Ξ)(h:¬pss.length<=20):a' pss=false:=by unfold a';rw[decide_eq_false h];rfl
end K1
end
section
namespace L2
open PySem PySem.Spec PyProof.Rows
def kB(N N':List Str)(az:List (Option Nat))(scope:Scope):Bool:=decide (az.length=N'.length)&&(az.zip N').all fun p=>match p.1 with
 |none=>true
 |some j=>decide (N[j]?=some p.2)&&decide (scope.names.lookup p.2=some .free)
def Mq{N N':List Str}{az:List (Option Nat)}{scope:Scope}(h:kB N N' az scope=true):D4 N N' az scope:=by
 unfold kB at h;rw[AL,decide_eq_true_eq,List.all_eq_true] at h;refine⟨h.1,fun i j e=>?_⟩;have hi:i<az.length:=(List.getElem?_eq_some_iff.mp e).1;have e2:N'[i]?=some N'[i]:=Aj (by rw[<-h.1];exact hi);have:=h.2 (some j,N'[i]) (List.mem_iff_getElem?.mpr ⟨i,by rw[ck.cN,e,e2];rfl⟩);simp only[AL,decide_eq_true_eq] at this;exact⟨N'[i],e2,this.1,this.2⟩
section
variable{X:Cx}{scope:Scope}{az:List (Option Nat)}{tg iter fh:Expr}{df:List Expr}{wi:TI}{g:TG}{tc:TT}{te:TE}{pos:Pos}
def zt(N N':List Str)(az:List (Option Nat))(hi:PI X tg iter wi)(d:∀a C s₀ H₀ ex,PG (cxC X scope N' a C s₀ H₀ ex) tg g)(ht:∀a C s₀ H₀ ex,nB (cxC X scope N' a C s₀ H₀ ex) df tc)(he:∀a C s₀ H₀ ex,PE (cxC X scope N' a C s₀ H₀ ex) fh te)(hc:X.calm=true:=by rfl)(hk:scope.kind=.function:=by rfl)(e:∀y∈scope.names,y.2≠.cell:=by decide +kernel)(f:∀y∈scope.names,y.2=.local->scope.names.lookup y.1=some .local:=by decide +kernel)(hfr:∀y∈scope.names,y.2=.free->X.env.kindOf y.1=some .cell\/X.env.kindOf y.1=some .free)(h:X.N=N:=by rfl)(c:kB N N' az scope=true:=by decide +kernel)(hs:∀x,foldedSetIterable iter X.env x=pure x:=by intro _;rfl):PE X (.ListComp fh [⟨tg,iter,df,0⟩] scope pos) (D3 wi az g tc te):=
 La hc hk e f hfr (Mq (by rw[h];exact c)) hi d ht he hs
end
def di{env:Env}{scope:Scope}(h:scope.names.all (fun y=>decide (y.2≠.free))=true):∀y∈scope.names,y.2=.free->env.kindOf y.1=some .cell\/env.kindOf y.1=some .free:=fun y hy e=>
 absurd e (of_decide_eq_true (List.all_eq_true.mp h y hy))
def cw{env:Env}{scope:Scope}(a:Scope)(h:scope.names.all (fun y=>decide (y.2≠.free)|| decide (a.names.lookup y.1=some .cell)|| decide (a.names.lookup y.1=some .free))=true)(c:env.scope=a:=by rfl):∀y∈scope.names,y.2=.free->env.kindOf y.1=some .cell\/env.kindOf y.1=some .free:=fun y hy e=>by
 subst c;have:=List.all_eq_true.mp h y hy;simp only[Bool.or_eq_true,decide_eq_true_eq] at this;rcases this with (q|q)|q
 ·exact absurd e q
 ·exact .inl q
 ·exact .inr q
def cO(l:List Str)(h:l.Nodup:=by decide +kernel):l.Nodup:=h
def iy{te:TE}{σ:St}{H:Hp}{P:VK}{S:Hp->Prop}(h:te σ H P):cz σ H fun b a=>if b=true then te σ a P else S a:=by
 show if true=true then te σ H P else S H;rw[if_pos rfl];exact h
def cR{i:Nat}{v:V}{te:TE}{σ:St}{H:Hp}{P:St->VK}{S:St->Hp->Prop}(h:te (σ.set i (some v)) H (P (σ.set i (some v)))):cV i v σ H fun a d=>cz a d fun b c=>if b=true then te a c (P a) else S a c:=iy (S:=S (σ.set i (some v))) h
def zB{J:It}{g:TG}{tc:TT}{te:TE}{σ:St}{H1:Hp}{Q:VK}{D:Addr}(h:c7 J g tc te σ H1 D Q):c7 J g tc te σ H1 D Q:=h
end L2
end
section
namespace HT
open PySem PyProof.Rows
section
variable{prog:Program}{w:World}{A:Around}{E:Ω}{s:Shared}
def Mr{t c:Addr}{a:Array Value}{d e:Value}{lo hi:Option Int}{Q:Ω}(ht:IsTup s.heap t a)(hs:s.heap.IsSliceOf c d e .none)(l:IsPart d lo)(o:IsPart e hi)(hw:sIx a.size 0 lo=0/\sIx a.size a.size hi=a.size)(h:Q (.ref t) s):wpAny (model prog w) A (getItem (.ref t) (.ref c)) Q E s:=by
 obtain⟨os,f,g,p⟩:=id hs;have i:s.TypeIs (.ref c) "slice":=⟨os,f,g⟩;obtain⟨q,v,r,u,x⟩:=id ht;unfold getItem
 try with_reducible refine A0 ?_
 first|refine Aa (Ad ?_)|skip
 refine Aa (wpAny_sequenceKey ht.typeIs ξ ?_);refine Aa (wpAny_callSpecial?_slot (name:=Str.ofString "__getitem__") ht.typeIs PyProof.Rows.slot_tuple_getitem
  (A8 PyProof.Rows.slot_tuple_getitem ht.typeIs entry_tuple_getitem ?_ (args_tuple_getitem _ _)))
 show wpAny _ _ (Builtin.Tuple.tupleItemsOf (.ref t) >>= _) _ _ s;refine Aa (tupleItemsOf_ ht ?_);refine Aa (wpAny_typeOf i ?_);rw[if_pos ξ];refine Aa (F3 hs l o ?_);have j:((((sIx a.size 0 lo:Nat):Int)==0&&(1:Int)==1&&(sIx a.size a.size hi-sIx a.size 0 lo)==a.size)=true):=by
  rw[hw.1,hw.2];simp
 show wpAny _ _ (if(((sIx a.size 0 lo:Nat):Int)==0&&(1:Int)==1&&(sIx a.size a.size hi-sIx a.size 0 lo)==a.size)=true then _ else _) _ _ s;rw[if_pos j];refine Aa ?_;unfold Builtin.Tuple.tupleIsExact;refine Aa (wpAny_typeOf ht.typeIs (Ad ?_));rw[if_pos ξ];refine Aa (wpAny_rule ?_);exact Ad ⟨_,rfl,Ad h⟩
end
end HT
namespace L2
open PySem PySem.Spec PyProof.Rows
section
variable{X:Cx}
def kC:V->Option Int->Option Int->Hp->VK->Prop:=fun x lo hi H Q=>∃a xs,x=.ref a/\H a=some (.tup xs)/\∀p H',Same H H'->H' p=some (.tup (cM xs lo hi))->Q (.ref p) H'
def Ht:sk X kC:=by
 intro aa s σ H x v g i lo hi j Q I d hs e f h;obtain⟨a,xs,rfl,hx,q⟩:=h
 by_cases hw:HT.sIx xs.length 0 lo=0/\HT.sIx xs.length xs.length hi=xs.length
 ·cases d
  obtain⟨l,r,ht,hz⟩:=I.tuple (SqT.of (K:=X.K) hx);have c:l.toArray.size=xs.length:=by rw[Ai];exact r.length.symm
  refine⟨"tuple",_,PyProof.Rows.slot_tuple_getitem.lookup,ht.typeIs,HT.Mr ht hs e f (by rw[c];exact hw) ⟨.ref a,H,I,rfl,q a H (Same.refl H) ?_⟩⟩;rw[hx];unfold cM;rw[hw.1,hw.2,List.drop_zero,Nat.sub_zero,Au (Ag _)]
 ·exact F5 aa s σ H (.ref a) v g i lo hi j Q I d hs e f ⟨a,xs,rfl,SqT.of hx,hw,fun p hp=>q p _ (Same.new hp) al⟩
end
end L2
end
section
namespace K51
open K1
open PySem L2
def top(i:Nat):Stmt:=PySem.Challenge.pw_seamwright_k51_pushes_refused_everywhere.main.body.getD i (.Pass ⟨0,0,0,0⟩)
abbrev uq:Stmt:=top 11
abbrev nQ:Stmt:=top 12
abbrev eC:Stmt:=top 14
abbrev kF:Stmt:=top 15
abbrev gz:Stmt:=top 16
abbrev uD:Stmt:=top 21
structure Bt(mg:Str->Option Value):Prop where
 len:mg "len"=none
 all:mg "all"=none
 zip:mg "zip"=none
 sorted:mg "sorted"=none
 set:mg "set"=none
 list:mg "list"=none
 tuple:mg "tuple"=none
 range:mg "range"=none
 enumerate:mg "enumerate"=none
 int:mg "int"=none
 isinstance:mg "isinstance"=none
 reversed:mg "reversed"=none
 bool:mg "bool"=none
def ei:AV "len"=some (.builtin "len"):=δ
def Ep:AV "all"=some (.builtin "all"):=δ
def Ms:AV "zip"=some (.type "zip"):=δ
def Mt:AV "sorted"=some (.builtin "sorted"):=δ
def Mu:AV "set"=some (.type "set"):=δ
def gI:AV "list"=some (.type "list"):=δ
def Hu:AV "tuple"=some (.type "tuple"):=δ
def Hv:AV "enumerate"=some (.type "enumerate"):=δ
def Mv:AV "int"=some (.type "int"):=δ
def Hw:AV "isinstance"=some (.builtin "isinstance"):=δ
def Mw:AV "reversed"=some (.type "reversed"):=δ
def aq{n:Nat}(h:n<=100000):n<=sizeLine:=by rw[sizeLine_eq];(first|lia|omega)
def zH{n:Nat}(h:n<=100000):n<sizeLine:=by rw[sizeLine_eq];(first|lia|omega)
def Mx(x:Int)(r:List Int):eX ((x::r).map V.int) (-1)=some (.int ((x::r).getLastD 0)):=by
 obtain⟨q,z,e⟩:∃q z,x::r=q++[z]:=⟨(x::r).dropLast,(x::r).getLast (List.cons_ne_nil x r),(List.dropLast_concat_getLast (List.cons_ne_nil x r)).symm⟩;rw[e,Ah,List.getLastD_eq_getLast?,List.getLast?_append];exact F' _ _
def p8{ps:List Int}{i:Nat}{x:V}(h:(ps.map V.int)[i]?=some x):∃p,ps[i]?=some p/\x=.int p:=by
 rw[Ao] at h;cases e:ps[i]? with
 |none=>rw[e] at h;cases h
 |some p=>rw[e] at h;exact⟨p,rfl,(As h).symm⟩
def zQ{as:List Addr}{i:Nat}{x:V}(h:(as.map V.ref)[i]?=some x):∃a,as[i]?=some a/\x=.ref a:=by
 rw[Ao] at h;cases e:as[i]? with
 |none=>rw[e] at h;cases h
 |some p=>rw[e] at h;exact⟨p,rfl,(As h).symm⟩
def AI{a:Type}{l:List a}{i:Nat}{x:a}(h:l[i]?=some x):l.take (i+1)=l.take i++[x]:=by rw[List.take_add_one,h];rfl
def take_all{a:Type}(l:List a):l.take l.length=l:=Au (Ag _)
def Er(x:Int)(r:List Int):cM ((x::r).map V.int) (some 1) none=r.map V.int:=by
 unfold cM;have e:HT.sIx ((x::r).map V.int).length 0 (some 1)=1:=by
  have:=HT.pd ((x::r).map V.int).length 0 1;rw[show((1:Nat):Int)=1 from rfl] at this;rw[this,Ab,Am];(first|lia|omega)
 rw[e,HT.sd];show List.take _ (r.map V.int)=_;rw[Au (by simp)]
section
variable{P:Program}{w:World}{K:Ac}{mg:Str->Option Value}{base:Heap}
def Hx:Sp:=fun vs H Q _=>∃a ps,vs=[.ref a]/\Tp H a ps/\∀H',Same H H'->Q (.bl (zF ps)) H'
def Mz:zl ["numbers"] ["numbers"] (ze uq):=⟨rfl,rfl,rfl,δ,rfl,δ,δ⟩
def MA{f:Addr}{fd:FuncData}{W X:Tok}(F:Fun K "is_piece" "is_piece" uq f fd)(B:Bt mg)(Y:mg "MOST_POINTS"=some (.int 5 W))(Z:mg "LAST_POINT"=some (.int 99 X)):FnOk P w K mg base aR 1 f fd ["numbers"] Hx:=by
 refine F.ok Mz (fun vs H Q E h=>?_) (fun cdv A outer s H vs Q E hr h=>?_)
 ·obtain⟨a,ps,rfl,_⟩:=h;rfl
 ·obtain⟨a,ps,rfl,ha,k⟩:=h
  refine⟨_,zd (zU (mG (JY Bn Bn zf (zw zp rfl B.len ei (ae (pv 0) ap)) (mw rfl Y (v:=.int 5) ⟨_,rfl⟩))) (zg (zm ej)) zq)
   (zd (zU (PW.pt (mE (zn pb (cK eK (pv 0) zf (fun _ _=>rfl)) zf (aK _)) (mx (zn jn (cK eK (pv 0) (mP mR zf) (fun _ _=>rfl)) (mw rfl Z (v:=.int 99) ⟨_,rfl⟩) (aK _))))) (zg (zm ej)) zq)
   (zg (zm (zw (D8 rfl) rfl B.all Ep (ae
    (zt ["numbers"] ["low","high"] [none,none] (Ll rfl B.zip Ms (ae (pv 0) (ae (ss F5 (pv 0) (sj zf) sh) ap)))
     (fun L C s₀ H₀ ex=>mI rfl (fV (zi (i:=0) (cO ["low","high"]) rfl (Or.inl rfl)) (fV (zi (i:=1) (cO ["low","high"]) rfl (Or.inl rfl)) mH)))
     (fun L C s₀ H₀ ex=>zM) (fun L C s₀ H₀ ex=>mS pb (pv 0) (pv 1) (aK _)) (hfr:=di δ) (g:=fi K 2 (gh (cV 0) (gh (cV 1) fg)))) ap))))),?_⟩
  have y:zF ps=false->Q (.bl false) H:=fun e=>by have:=k H (Same.refl H);rw[e] at this;exact this
  refine⟨_,rfl,a,_,rfl,.inr (SqT.of ha),_,_,rfl,rfl,_,rfl,?_⟩;rw[Ab];refine bI (fun h1=>?_) (fun h1=>?_)
  ·refine⟨_,_,rfl,rfl,_,rfl,?_⟩
   have d:1<=ps.length:=by have:=of_decide_eq_true h1;(first|lia|omega)
   cases h5:decide ((ps.length:Int)<=5) with
   |false=>
    have l:¬ps.length<=5:=by have:=of_decide_eq_false h5;(first|lia|omega)
    exact bu (y (by unfold zF;rw[decide_eq_false l];simp))
   |true=>
    have l:ps.length<=5:=by have:=of_decide_eq_true h5;(first|lia|omega)
    refine a9 ?_;obtain⟨x,r,rfl⟩:∃x r,ps=x::r:=by
     cases ps with
     |nil=>simp at d
     |cons x r=>exact⟨x,r,rfl⟩
    refine⟨_,rfl,a,_,_,_,rfl,rfl,SqT.of ha,zD (j:=0) rfl,_,_,rfl,rfl,_,rfl,?_⟩;refine bI (fun hx=>?_) (fun hx=>?_)
    ·refine bu (y ?_)
     unfold zF;rw[show decide ((x::r).headD 0<0)=true from hx];simp
    ·refine⟨_,rfl,_,rfl,a,_,_,_,rfl,rfl,SqT.of ha,Mx x r,_,_,rfl,rfl,_,rfl,?_⟩
     cases hl:decide (99<(x::r).getLastD 0) with
     |true=>
      refine bu (y ?_);unfold zF;rw[hl];simp
     |false=>
      refine a9 ?_;refine⟨_,rfl,_,rfl,_,rfl,a,_,rfl,SqT.of ha,?_,fun p hp=>?_⟩
      ·intro z
       have e:=HT.pd ((x::r).map V.int).length 0 1;rw[show((1:Nat):Int)=1 from rfl,z.1,Ab,Am] at e;(first|lia|omega)
      ·rw[Er]
       have J:Same H (upd H p (.tup (r.map V.int))):=Same.new hp;refine⟨a,p,rfl,⟨_,SqT.of (J.tp ha)⟩,⟨_,SqT.of al⟩,fun D M=>?_⟩;have hm:min ((x::r).map V.int).length (r.map V.int).length=r.length:=by simp
       refine zB (Lq (K:=K) (xs:=(x::r).map V.int) (ys:=r.map V.int) (fun i σ zs u=>∃G I,σ=[G,I]/\Same (upd H p (.tup (r.map V.int))) u/\u D=some (.lst zs)/\zs=((((x::r).zip r).map fun q=>decide (q.1<q.2)).take i).map V.bl)
        ⟨none,none,rfl,Same.new M,al,rfl⟩ (fun i σ zs u ⟨_,_,_,o,_⟩=>⟨SqT.of (o.tp (J.tp ha)),SqT.of (o _ _ al)⟩) ?_ ?_)
       ·rintro i σ zs u S y1 y2 e1 e2 hi hz ⟨G,I,rfl,o,c,rfl⟩ N
        obtain⟨q1,g1,rfl⟩:=p8 e1;obtain⟨T,g2,rfl⟩:=p8 e2;refine⟨S,_,rfl,SqT.of al,rfl,_,_,rfl,_,_,rfl,rfl,iy ?_⟩;refine⟨_,rfl,_,rfl,_,_,rfl,rfl,ci (AB (Nat.min_le_right _ _) (by rw[Ab];exact aq (by simp at l;(first|lia|omega)))) hi hz (by rw[au (zh c N)];exact c) ⟨_,_,rfl,?_,al,?_⟩⟩
        ·exact(o.then (o.free N)).then M
        ·have e3:(((x::r).zip r).map fun q=>decide (q.1<q.2))[i]?=some (decide (q1<T)):=by
          rw[Ao,ck.cN,g1,g2];rfl
         rw[AI e3,Ah];rfl
       ·rintro σ zs u ⟨G,I,rfl,o,c,rfl⟩
        refine⟨D,(((x::r).zip r).map fun q=>decide (q.1<q.2)),rfl,SqL.of ?_,?_⟩
        ·rw[c,hm,Au (by simp)]
        ·have:=k u (J.trans o)
         have O:=Hn (x::r);rw[show(x::r).drop 1=r from rfl] at O;rw[O];have U:zF (x::r)=bf (x::r):=by
          unfold zF;rw[decide_eq_true d,decide_eq_true l,hl];rw[show decide ((x::r).headD 0<0)=false from by simpa using hx]
          rfl
         rw[U] at this;exact this
  ·refine⟨_,rfl,bu (y ?_)⟩
   have d:¬1<=ps.length:=fun z=>h1 (decide_eq_true ω);unfold zF;rw[decide_eq_false d]
   rfl
end
end K51
end
section
namespace K51
open K1
open PySem L2
section
variable{P:Program}{w:World}{K:Ac}{mg:Str->Option Value}{base:Heap}
def Hy:Sp:=fun vs H Q _=>∃a ps,vs=[.ref a]/\Tp H a ps/\ps.length<=5/\∀D as H',Same H H'->H D=none->H' D=some (.lst (as.map V.ref))->Tps H' as (parts ps)->Q (.ref D) H'
def uF:zl ["piece","found","point"] ["piece"] (ze nQ):=⟨rfl,rfl,rfl,δ,rfl,δ,δ⟩
def kT{n:Nat}(h:n<=5):2 ^ n<=32:=by
 have:2 ^ n<=2 ^ 5:=Nat.pow_le_pow_right ξ h;exact this
def MC{H2:Hp}{as:List Addr}{fs:Ξ}{q:Int}{D:Addr}{l:Addr}{Q:VK}(H:H2 l=some (.lst (as.map V.ref)))(ht:Tps H2 as fs)(hz:as.length<=100)(I:∀f∈fs,f.length<=100)(u:H2 D=none)(k:∀bs d,Same H2 d->d D=some (.lst (bs.map V.ref))->Tps d bs (fs.map (·++[q]))->Q (.ref D) d):c7 (eI K l) (cV 0) cz (dv D' (aM 0) (cI (zL (aM 1) bD))) [none,some (.int q)] H2 D Q:=by
 have F:=ht.length;refine z0 (xs:=as.map V.ref) (fun j σ ys d=>∃bs v,σ=[v,some (.int q)]/\Same H2 d/\d D=some (.lst ys)/\ys=bs.map V.ref/\Tps d bs ((fs.take j).map (·++[q]))) ?_ ?_ ?_ ?_
 ·exact⟨[],none,rfl,Same.new u,al,rfl,.nil⟩
 ·rintro j σ ys d ⟨bs,v,rfl,h,g,rfl,hb⟩
  exact SqL.of (h _ _ H)
 ·rintro j σ ys d x hx C hy ⟨bs,v,rfl,h,g,rfl,hb⟩
  obtain⟨a,E,rfl⟩:=zQ hx;obtain⟨f,r,hf⟩:=ht.get E;refine cR ?_;refine⟨_,rfl,_,rfl,aq (by simp),fun t y=>?_⟩;have G:=h.tp hf;have s:Same d (upd d t (.tup [.int q])):=Same.new y;refine⟨a,t,_,_,rfl,rfl,s _ _ G,al,?_,fun p o A hp=>?_⟩
  ·rw[Ab]
   exact aq (by have:=I f (An r);simp;(first|lia|omega))
  ·have i:Same d o:=s.trans A
   refine ci (ys:=bs.map V.ref) (by rw[Ab];exact aq ω) C hy (i _ _ g) ⟨bs++[p],_,rfl,(h.trans i).then u,al,by rw[Ah];rfl,?_⟩;rw[AI r,Ah];have J:p≠D:=dg hp (i _ _ g) (by intro z;cases z);have keep:∀c xs,o c=some (.tup xs)->upd o D (.lst (bs.map V.ref++[V.ref p])) c=some (.tup xs):=fun c xs e=>by
    rw[au (dg e (i _ _ g) (by intro z;cases z))];exact e
   refine Tps.snoc (Paired.mapP (i.tps hb) fun c xs e=>keep c _ e) (keep p _ ?_);rw[hp,Ah];rfl
 ·rintro σ ys d ⟨bs,v,rfl,h,g,rfl,hb⟩
  rw[Ab,F,take_all] at hb;exact k bs d h g hb
def MD{f:Addr}{fd:FuncData}(F:Fun K "parts_of" "parts_of" nQ f fd):FnOk P w K mg base aR 1 f fd ["piece"] Hy:=by
 refine F.ok uF (fun vs H Q E h=>?_) (fun cdv A outer s H vs Q E hr h=>?_)
 ·obtain⟨a,ps,rfl,_⟩:=h;rfl
 ·obtain⟨a,ps,rfl,ha,S,k⟩:=h
  refine⟨_,zd (zk (i:=1) uF.nd rfl (Or.inl rfl) (zr (ae (zx ap) ap)))
   (zd (zV AE rfl (jW (pv 0)) (zi (i:=2) uF.nd rfl (Or.inr rfl))
    (zg (zk (i:=1) uF.nd rfl (Or.inl rfl) (zu iu (pv 1) (zt ["piece","found","point"] ["part","point"] [none,some 2] (zv (pv 1)) (fun u C s₀ H₀ ex=>zi (i:=0) (cO ["part","point"]) rfl (Or.inl rfl)) (fun u C s₀ H₀ ex=>zM)
     (fun u C s₀ H₀ ex=>zu G0 (pv 0) (zx (ae (pv 1) ap))) (hfr:=cw (ze nQ) δ))))))
   (zg (zm (ss Kh (pv 1) (sj zf) sh)))),?_⟩
  refine⟨aq (by simp),fun e he=>⟨aq (by simp),fun l c=>?_⟩⟩;have z:Same H (upd (upd H e (.tup [])) l (.lst [.ref e])):=(Same.new he).then ((Same.new he).free c);have L:e≠l:=zh (H:=upd H e (.tup [])) al c;refine⟨_,rfl,a,rfl,⟨_,SqT.of (z _ _ ha)⟩,rT (K:=K) (a:=a) (xs:=ps.map V.int) (fun i σ H2=>∃l as v,σ=[some (.ref a),some (.ref l),v]/\Same H H2/\H l=none/\H2 l=some (.lst (as.map V.ref))/\Tps H2 as (subs (ps.take i)))
   ⟨l,[e],none,rfl,z,(Same.new he).free c,al,.cons (by show upd _ _ _ e=_;rw[au L];exact al) .nil⟩ (fun i σ H2 _ ⟨_,_,_,_,d,_⟩=>SqT.of (d _ _ ha)) ?_ ?_⟩
  ·rintro i x σ H2 hx ⟨l,as,v,rfl,d,r,c,ht⟩
   obtain⟨q,eq,rfl⟩:=p8 hx;have hi:i<ps.length:=(List.getElem?_eq_some_iff.mp eq).1;have M:=ht.length;have T:as.length<=32:=by
    rw[M,Hl,Av];exact kT ω
   have hm:∀f∈subs (ps.take i),f.length<=100:=fun f hf=>by
    have:=Mn _ f hf;rw[Av] at this;(first|lia|omega)
   refine⟨_,rfl,_,rfl,l,rfl,⟨_,SqL.of c⟩,fun D j=>zB (MC c ht ω hm j fun bs U o p hb=>?_)⟩;have N:=hb.length;rw[Ab] at N;refine⟨l,D,_,_,rfl,rfl,o _ _ c,p,by rw[Ab,Ab];exact aq ω,fun y g=>?_⟩;have G:H y=none:=(d.trans o).free g;refine⟨y,as++bs,_,rfl,(d.trans o).then G,G,by rw[al,Ah],?_⟩;rw[AI eq,Hk];exact(Same.new g).tps ((o.tps ht).append hb)
  ·rintro σ H2 ⟨l,as,v,rfl,d,r,c,ht⟩
   rw[Ab,take_all] at ht;refine⟨_,rfl,_,rfl,l,_,rfl,SqL.of c,fun D j=>?_⟩;have I:H D=none:=d.free j;obtain⟨t,J,_⟩:=Hm ps;refine k D (as.drop 1) _ (d.then I) I ?_ ?_
   ·rw[al]
    unfold cM;have O:1<=as.length:=by rw[ht.length,J];simp
    have e1:HT.sIx (as.map V.ref).length 0 (some 1)=1:=by
     have:=HT.pd (as.map V.ref).length 0 1;rw[show((1:Nat):Int)=1 from rfl] at this;rw[this,Ab];(first|lia|omega)
    rw[e1,HT.sd,<-List.map_drop,Au (by simp)]
   ·exact(Same.new j).tps (ht.drop 1)
def ME:zl ["piece"] ["piece"] (ze eC):=⟨rfl,rfl,rfl,δ,rfl,δ,δ⟩
def MF{f:Addr}{fd:FuncData}(F:Fun K "order_key" "order_key" eC f fd)(B:Bt mg):FnOk P w K mg base aR 1 f fd ["piece"] tQ:=by
 refine F.ok ME (fun vs H Q E h=>?_) (fun cdv A outer s H vs Q E hr h=>?_)
 ·obtain⟨a,ps,rfl,_⟩:=h;rfl
 ·obtain⟨a,ps,rfl,ha,k⟩:=h
  refine⟨_,zg (zm (zx (ae (zw zp rfl B.len ei (ae (pv 0) ap)) (ae (pv 0) ap)))),?_⟩;refine⟨_,rfl,a,_,rfl,.inr (SqT.of ha),_,rfl,aq (by simp),fun p hp=>?_⟩;rw[Ab];exact k p hp
def uN(K:Ac):Sp:=fun vs H Q _=>∃l as pss,vs=[.ref l]/\SqL K H l (as.map V.ref)/\Tps H as pss/\pss.length<1000/\
 ∀D H2(c:List (List Int×Addr)),Same H H2->H D=none->H2 D=some (.lst (c.map fun q=>V.ref q.2))->c.Perm (pss.zip as)->c.Pairwise (fun a b=>HT.lexLt ((b.1.length:Int)::b.1) ((a.1.length:Int)::a.1)=false)->Q (.ref D) H2
def MG:zl ["some"] ["some"] (ze kF):=⟨rfl,rfl,rfl,δ,rfl,δ,δ⟩
def Es{f a:Addr}{fd c:FuncData}(F:Fun K "in_order" "in_order" kF f fd)(B:Bt mg)(i:Fun K "order_key" "order_key" eC a c)(bk:Binds K c ["piece"] [])(mk:mg "order_key"=some (.ref a)):FnOk P w K mg base aR 4 f fd ["some"] (uN K):=by
 have g:FnOk P w K mg base aR 1 a c ["piece"] tQ:=MF i B;refine F.ok MG (fun vs H Q E h=>?_) (fun cdv A outer s H vs Q E hr h=>?_)
 ·obtain⟨l,as,pss,rfl,_⟩:=h;rfl
 ·obtain⟨l,as,pss,rfl,d,ht,e,k⟩:=h
  refine⟨_,zg (zm (LD g hr bk rfl B.sorted Mt rfl mk (ae (pv 0) ap))),?_⟩;exact⟨_,rfl,l,as,pss,rfl,d,ht,e,k⟩
end
end K51
end
section
namespace K51
open K1
open PySem L2 STb
def Tps.upd{H:Hp}{d:Addr}{o o':HO}{as:List Addr}{pss:Ξ}(h:Tps H as pss)(hd:H d=some o')(c:∀xs,o'≠.tup xs):Tps (L2.upd H d o) as pss:=
 Paired.mapP h fun a ps e=>by
  show L2.upd H d o a=_;rw[au (dg (show H a=some _ from e) hd fun z=>c _ z.symm)];exact e
def cg(seq:Ξ):List (List Key×V):=(dd seq).map fun ps=>((ps.map Sum.inl:List Key),V.bl true)
def iE(seq:Ξ):(cg seq).length<=seq.length:=by unfold cg;rw[Ab];exact p6 seq
def iF(seq:Ξ)(ps:List Int):putK (cg seq) (ps.map Sum.inl) (.bl true)=cg (seq++[ps]):=by
 unfold putK cg;rw[ul];have ha:(((dd seq).map fun ps=>((ps.map Sum.inl:List Key),V.bl true)).any fun kv=>decide (kv.1=ps.map Sum.inl))=decide (ps∈dd seq):=by
  rw[List.any_map]
  by_cases h:ps∈dd seq
  ·rw[decide_eq_true h,List.any_eq_true]
   exact⟨ps,h,by simp⟩
  ·rw[decide_eq_false h,List.any_eq_false]
   intro q hq;simp only[Function.comp,decide_eq_true_eq,f'];rintro rfl;exact h hq
 rw[ha]
 by_cases h:ps∈dd seq
 ·rw[decide_eq_true h,if_pos rfl,if_pos h,AC]
  refine List.map_congr_left fun q hq=>?_;simp only[Function.comp];split<;>rfl
 ·rw[decide_eq_false h,if_neg (by simp),if_neg h,Ah]
  rfl
def MJ{H:Hp}{seq:Ξ}{bs:List Addr}(h:Paired (fun(p:List Key×V) b=>H b=some (.tup (p.1.map kV))) (cg seq) bs):Tps H bs (dd seq):=by
 unfold cg at h;generalize dd seq=l at h
 induction l generalizing bs with
 |nil=>cases h;exact .nil
 |cons x l ih=>
  rw[AF] at h;cases h with
  |cons r t=>
   refine .cons ?_ (ih t);show H _=_;rw[r,AC]
   rfl
def MK(pss:Ξ)(h:∀ps∈pss,ps.length<=5):(pss.flatMap parts).length<=31*pss.length:=by
 induction pss with
 |nil=>simp
 |cons x l ih=>
  rw[List.flatMap_cons,Af,p7,Am];have:=ih fun ps hp=>h ps (At _ hp);have:=kT (h x Ar);(first|lia|omega)
def ML{pss:Ξ}{i:Nat}{ps:List Int}(h:pss[i]?=some ps):(pss.take (i+1)).flatMap parts=(pss.take i).flatMap parts++parts ps:=by
 rw[AI h,List.flatMap_append];simp
def Told(H H2:Hp)(pss:Ξ)(D:Addr)(c:List (List Int×Addr)):Prop:=
 Same H H2/\H D=none/\H2 D=some (.lst (c.map fun q=>V.ref q.2))/\(∀q∈c,Tp H2 q.2 q.1)/\(c.map (·.1)).Perm (dd (pss.flatMap parts))/\c.Pairwise (fun a b=>HT.lexLt ((b.1.length:Int)::b.1) ((a.1.length:Int)::a.1)=false)
section
variable{P:Program}{w:World}{K:Ac}{mg:Str->Option Value}{base:Heap}
def Et(K:Ac):Sp:=fun vs H Q _=>∃l as pss,vs=[.ref l]/\SqL K H l (as.map V.ref)/\Tps H as pss/\(∀ps∈pss,ps.length<=5)/\pss.length<=200/\(dd (pss.flatMap parts)).length<1000/\∀D H2 a,Told H H2 pss D a->Q (.ref D) H2
def uS:zl ["some","found","piece","part"] ["some"] (ze gz):=⟨rfl,rfl,rfl,δ,rfl,δ,δ⟩
def Hz{f fp S fk:Addr}{fd T U cU:FuncData}(F:Fun K "all_parts" "all_parts" gz f fd)(B:Bt mg)(Fp:Fun K "parts_of" "parts_of" nQ fp T)(bp:Binds K T ["piece"] [])(mp:mg "parts_of"=some (.ref fp))(Fo:Fun K "in_order" "in_order" kF S U)(bo:Binds K U ["some"] [])(mo:mg "in_order"=some (.ref S))(Fk:Fun K "order_key" "order_key" eC fk cU)(bk:Binds K cU ["piece"] [])(mk:mg "order_key"=some (.ref fk)):FnOk P w K mg base aR 5 f fd ["some"] (Et K):=by
 have Gp:FnOk P w K mg base aR 1 fp T ["piece"] Hy:=MD Fp;have Go:FnOk P w K mg base aR 4 S U ["some"] (uN K):=Es Fo B Fk bk mk;refine F.ok uS (fun vs H Q E h=>?_) (fun cdv A outer s H vs Q E hr h=>?_)
 ·obtain⟨l,as,pss,rfl,_⟩:=h;rfl
 ·obtain⟨l,as,pss,rfl,Y,ht,Z,gM,dC,k⟩:=h
  have hu:=fZ hr;have O:Room 1 _:=hr.mono ξ;refine⟨_,zd (zk (i:=1) uS.nd rfl (Or.inl rfl) zX)
   (zd (zV AE rfl (zv (pv 0)) (zi (i:=2) uS.nd rfl (Or.inl rfl))
    (zg (zV AE rfl (zv (zo Gp O rfl mp Fp.kp bp .nil aF (ae (pv 2) ap))) (zi (i:=3) uS.nd rfl (Or.inl rfl))
     (zg (fA hu (pv 1) (pv 3) ej rfl)))))
   (zg (zm (zo Go hr rfl mo Fo.kp bo .nil aF (ae (zG (GX rfl) rfl B.list gI (ae (pv 1) ap)) ap))))),?_⟩
  intro d hd;have aJ:=ht.length;refine⟨_,rfl,l,rfl,⟨_,(Same.new hd).seq Y⟩,zK (K:=K) (a:=l) (xs:=as.map V.ref) (fun i σ H2=>∃v o,σ=[some (.ref l),some (.ref d),v,o]/\Same H H2/\H2 d=some (.dT (cg ((pss.take i).flatMap parts))))
   ⟨none,none,rfl,Same.new hd,al⟩ (fun i σ H2 _ ⟨_,_,_,e,_⟩=>e.seq Y) ?_ ?_⟩
  ·rintro i x σ H2 hx ⟨v,o,rfl,e,y⟩
   obtain⟨a,ea,rfl⟩:=zQ hx;obtain⟨ps,L,bS⟩:=ht.get ea;have dy:=Z ps (An L);have hi:i<pss.length:=(List.getElem?_eq_some_iff.mp L).1;refine⟨_,rfl,a,ps,rfl,e.tp bS,dy,fun D I H3 r bU u W=>⟨D,rfl,⟨_,SqL.of u⟩,?_⟩⟩;have lD:=W.length;have nX:D≠d:=dg u (r _ _ y) (by intro z;cases z);refine zK (K:=K) (a:=D) (xs:=I.map V.ref) (fun j σ p=>∃o,σ=[some (.ref l),some (.ref d),some (.ref a),o]/\Same H p/\p D=some (.lst (I.map V.ref))/\Tps p I (parts ps)/\p d=some (.dT (cg ((pss.take i).flatMap parts++(parts ps).take j))))
    ⟨_,rfl,e.trans r,u,W,by rw[List.take_zero,AT];exact r _ _ y⟩ (fun j σ p _ ⟨_,_,_,q,_⟩=>SqL.of q) ?_ ?_
   ·rintro j x σ p hx ⟨o,rfl,M,aZ,N,C⟩
    obtain⟨c,ec,rfl⟩:=zQ hx;obtain⟨f,ef,hf⟩:=N.get ec;have G:(cg ((pss.take i).flatMap parts++(parts ps).take j)).length<sizeLine:=by
     refine zH (AB (iE _) ?_);rw[Af];have h1:=MK (pss.take i) (fun q hq=>Z q (List.mem_of_mem_take hq));have h2:=p7 ps;have h3:=kT dy;rw[Av] at h1 ⊢;(first|lia|omega)
    refine⟨_,rfl,_,rfl,d,_,rfl,DPut.t (k:=f.map Sum.inl) C (by rw[AC];exact hf) G,⟨_,rfl,M.then hd,?_,?_,?_⟩⟩
    ·rw[au nX];exact aZ
    ·exact Tps.upd N C (by intro xs z;cases z)
    ·rw[al,iF,AG,<-AI ef]
   ·rintro σ p ⟨o,rfl,M,aZ,N,C⟩
    refine⟨_,_,rfl,M,?_⟩;rw[Ab,lD,take_all] at C;rw[ML L];exact C
  ·rintro σ H2 ⟨v,o,rfl,e,y⟩
   rw[Ab,aJ,take_all] at y;refine⟨_,rfl,d,_,rfl,y,fun bs hb X g=>?_⟩;have tb:=MJ hb;have p0:=tb.length;refine⟨X,bs,dd (pss.flatMap parts),rfl,SqL.of al,(Same.new g).tps tb,dC,fun D H3 qs r u J hp hs=>?_⟩;have ir:H X=none:=e.free g;refine k D H3 qs ⟨(e.then ir).trans r,(e.then ir).free u,J,fun q hq=>?_,?_,hs⟩
   ·obtain⟨m,em⟩:=List.mem_iff_getElem?.mp (hp.mem_iff.mp hq)
    rw[ck.cN] at em;cases e1:(dd (pss.flatMap parts))[m]? with
    |none=>rw[e1] at em;cases em
    |some f=>
     cases e2:bs[m]? with
     |none=>rw[e1,e2] at em;cases em
     |some b=>
      rw[e1,e2] at em;obtain rfl:(f,b)=q:=As em;exact r.tp ((Same.new g).tp (Ee tb m b f e2 e1))
   ·have:=hp.map (·.1)
    rw[List.map_fst_zip ω] at this;exact this
def Eu(K:Ac):Sp:=fun vs H Q _=>∃l as pss,vs=[.ref l]/\SqL K H l (as.map V.ref)/\Tps H as pss/\(pss.all zF=true->(dd (pss.flatMap parts)).length<1000)/\∀H',Same H H'->Q (.bl (a' pss)) H'
def MM:zl ["web"] ["web"] (ze uD):=⟨rfl,rfl,rfl,δ,rfl,δ,δ⟩
def MN{f J fa fp X Y:Addr}{fd L M Z bH cU:FuncData}{t5 qI N p_:Tok}(F:Fun K "is_web" "is_web" uD f fd)(B:Bt mg)(m5:mg "MOST_POINTS"=some (.int 5 t5))(pP:mg "LAST_POINT"=some (.int 99 qI))(k6:mg "MOST_HANDED"=some (.int 20 N))(pE:mg "MOST_PIECES"=some (.int 200 p_))(Fi:Fun K "is_piece" "is_piece" uq J L)(bi:Binds K L ["numbers"] [])(mi:mg "is_piece"=some (.ref J))(Fa:Fun K "all_parts" "all_parts" gz fa M)(ba:Binds K M ["some"] [])(ma:mg "all_parts"=some (.ref fa))(Fp:Fun K "parts_of" "parts_of" nQ fp Z)(bp:Binds K Z ["piece"] [])(mp:mg "parts_of"=some (.ref fp))(Fo:Fun K "in_order" "in_order" kF X bH)(bo:Binds K bH ["some"] [])(mo:mg "in_order"=some (.ref X))(Fk:Fun K "order_key" "order_key" eC Y cU)(bk:Binds K cU ["piece"] [])(mk:mg "order_key"=some (.ref Y)):FnOk P w K mg base aR 6 f fd ["web"] (Eu K):=by
 have Gi:FnOk P w K mg base aR 1 J L ["numbers"] Hx:=MA Fi B m5 pP;have Ga:FnOk P w K mg base aR 5 fa M ["some"] (Et K):=Hz Fa B Fp bp mp Fo bo mo Fk bk mk;refine F.ok MM (fun vs H Q E h=>?_) (fun cdv A outer s H vs Q E hr h=>?_)
 ·obtain⟨l,as,pss,rfl,_⟩:=h;rfl
 ·obtain⟨l,as,pss,rfl,o,ht,dC,k⟩:=h
  have aE:=hr.units;have G:Room 1 _:=hr.mono ξ;refine⟨_,zd (zU (zn jn (zw zp rfl B.len ei (ae (pv 0) ap)) (mw rfl k6 (v:=.int 20) ⟨_,rfl⟩) (aK _)) (zg (zm ej)) zq)
   (zd (zU (mG (jh (zw (D8 rfl) rfl B.all Ep (ae
    (zt ["web"] ["numbers"] [none] (zv (pv 0)) (fun O C s₀ H₀ ex=>zi (i:=0) (cO ["numbers"]) rfl (Or.inl rfl)) (fun O C s₀ H₀ ex=>zM)
     (fun O C s₀ H₀ ex=>zo Gi G rfl mi Fi.kp bi .nil aF (ae (pv 0) ap)) (hfr:=di δ)) ap)))) (zg (zm ej)) zq)
   (zd (zU (zn pb (zw Mi rfl B.len ei (ae (zG (Mh rfl aE) rfl B.set Mu (ae (pv 0) ap)) ap)) (zw zp rfl B.len ei (ae (pv 0) ap)) (aK _)) (zg (zm ej)) zq)
   (zg (zm (mS Bn (zw zp rfl B.len ei (ae (zo Ga hr rfl ma Fa.kp ba .nil aF (ae (pv 0) ap)) ap)) (mw rfl pE (v:=.int 200) ⟨_,rfl⟩) (aK _)))))),?_⟩
  have U:=ht.length;refine⟨_,rfl,l,_,rfl,.inl o,_,_,rfl,rfl,_,rfl,?_⟩;rw[Ab];refine bI (fun h1=>?_) (fun h1=>?_)
  ·have:=k H (Same.refl H)
   rw[Mp pss (by have:=of_decide_eq_true h1;(first|lia|omega))] at this;exact this
  ·have W:pss.length<=20:=by
    have:¬((20:Int)<as.length):=fun z=>h1 (decide_eq_true z);(first|lia|omega)
   refine⟨_,rfl,l,rfl,⟨_,o⟩,fun D T=>zB (z0 (K:=K) (a:=l) (xs:=as.map V.ref) (fun i σ ys j=>∃v,σ=[v]/\Same H j/\j D=some (.lst ys)/\ys=((pss.map zF).take i).map V.bl)
    ⟨none,rfl,Same.new T,al,rfl⟩ (fun i σ ys j ⟨_,_,c,_⟩=>c.seq o) ?_ ?_)⟩
   ·rintro i σ ys j x hx hi hy ⟨v,rfl,c,d,rfl⟩
    obtain⟨a,ea,rfl⟩:=zQ hx;obtain⟨ps,bX,y⟩:=ht.get ea;refine cR ?_;refine⟨_,rfl,a,ps,rfl,c.tp y,fun H4 u=>ci (by rw[Ab];exact aq ω) hi hy (u _ _ d) ⟨_,rfl,(c.trans u).then T,al,?_⟩⟩;have e:(pss.map zF)[i]?=some (zF ps):=by rw[Ao,bX];rfl
    rw[AI e,Ah];rfl
   ·rintro σ ys j ⟨v,rfl,c,d,rfl⟩
    rw[Ab,U,Au (by simp)] at d;refine⟨D,pss.map zF,rfl,SqL.of d,_,rfl,?_⟩;have pC:(pss.map zF).all id=pss.all zF:=by rw[List.all_map];rfl
    rw[pC];cases hp:pss.all zF with
    |false=>
     refine bu ?_;have:=k j c;rw[show a' pss=false from by unfold a';rw[hp];simp] at this;exact this
    |true=>
     refine a9 ?_;refine⟨_,rfl,l,as,pss,rfl,c.seq o,c.tps ht,ω,fun S hS=>?_⟩;have p:Same H (upd j S (gn S (dd pss).length)):=c.then (c.free hS);refine⟨S,_,rfl,al,_,rfl,l,_,rfl,.inl (p.seq o),_,_,rfl,rfl,_,rfl,?_⟩;rw[Ab,U];refine bI (fun h2=>?_) (fun h2=>?_)
     ·have I:(dd pss).length<pss.length:=by have:=of_decide_eq_true h2;(first|lia|omega)
      have:=k _ p;rw[show a' pss=false from by unfold a';rw[decide_eq_true I];simp] at this;exact this
     ·have I:¬(dd pss).length<pss.length:=fun z=>h2 (decide_eq_true ω)
      refine⟨_,rfl,l,as,pss,rfl,p.seq o,p.tps ht,fun ps y=>?_,AB W ξ,dC hp,fun D2 H4 qs ⟨u,_,aZ,_,g,_⟩=>?_⟩
      ·have:=List.all_eq_true.mp hp ps y
       unfold zF at this;simp only[AL,decide_eq_true_eq] at this;exact this.1.1.1.2
      ·refine⟨D2,_,rfl,.inl (SqL.of aZ),_,_,rfl,rfl,?_⟩
       have r:(qs.map fun q=>V.ref q.2).length=(dd (pss.flatMap parts)).length:=by
        rw[Ab,<-g.length_eq,Ab]
       rw[r];have:=k H4 (p.trans u);have e:a' pss=decide (((dd (pss.flatMap parts)).length:Int)<=200):=by
        unfold a';rw[hp,decide_eq_true W,decide_eq_false I]
        by_cases q:(dd (pss.flatMap parts)).length<=200
        ·rw[decide_eq_true q,decide_eq_true (show((dd (pss.flatMap parts)).length:Int)<=200 from ω)];rfl
        ·rw[decide_eq_false q,decide_eq_false (show ¬((dd (pss.flatMap parts)).length:Int)<=200 from ω)];rfl
       rw[e] at this;exact this
end
end K51
end
section
namespace K51
open K1
open PySem L2 STb
abbrev Ev:Stmt:=top 50
abbrev kZ:Stmt:=top 51
abbrev uU:Stmt:=top 52
def HA(x y:Int):Prop:=0<=x/\(y=0\/(y=1/\x<4294967296))
def zah(H:Hp)(p:Addr):Prop:=∃x y,H p=some (.lst [.int x,.int y])/\HA x y
def zai(p:Addr)(H H':Hp):Prop:=∀b o,b≠p->H b=some o->H' b=some o
def zai.trans{p:Addr}{H H1 H2:Hp}(a:zai p H H1)(b:zai p H1 H2):zai p H H2:=fun c o hc e=>b c o hc (a c o hc e)
def zai.of{p:Addr}{H H1:Hp}(a:Same H H1):zai p H H1:=fun c o _ e=>a c o e
def zai.free{p:Addr}{H H':Hp}(e:zai p H H')(hb:zah H p)(hb':zah H' p){l:Addr}(h:H' l=none):H l=none:=by
 cases q:H l with
 |none=>rfl
 |some o=>
  obtain⟨x,y,e1,_⟩:=hb';have a:l≠p:=fun z=>by rw[z,e1] at h;cases h
  rw[e l o a q] at h;cases h
def zah.same{H H':Hp}{p:Addr}(b:zah H p)(e:Same H H'):zah H' p:=let ⟨x,y,h,o⟩:=b;⟨x,y,e _ _ h,o⟩
def zah.ne{H:Hp}{p l:Addr}{as:List Addr}(b:zah H p)(h:H l=some (.lst (as.map V.ref))):l≠p:=by
 obtain⟨x,y,e,_⟩:=b;refine dg h e fun z=>?_;injection z with z
 cases as with
 |nil=>cases z
 |cons a r=>rw[AF] at z;cases z
def zah.net{H:Hp}{p t:Addr}{xs:List V}(b:zah H p)(h:H t=some (.tup xs)):t≠p:=by
 obtain⟨x,y,e,_⟩:=b;exact dg h e (by intro z;cases z)
def zai.tp{p:Addr}{H H':Hp}{a:Addr}{ps:List Int}(e:zai p H H')(b:zah H p)(h:Tp H a ps):Tp H' a ps:=e _ _ (b.net h) h
def zai.tps{p:Addr}{H H':Hp}{as:List Addr}{pss:Ξ}(e:zai p H H')(b:zah H p)(h:Tps H as pss):Tps H' as pss:=Paired.mapP h fun _ _ q=>e.tp b q
def zai.then{p:Addr}{H H1:Hp}{a:Addr}{o:HO}(e:zai p H H1)(h:H a=none):zai p H (L2.upd H1 a o):=fun b u hb q=>by rw[au (zh q h)];exact e b u hb q
def zah.upd{H:Hp}{p l:Addr}{o:HO}(b:zah H p)(h:l≠p):zah (L2.upd H l o) p:=let ⟨x,y,e,k⟩:=b;⟨x,y,by rw[au h.symm];exact e,k⟩
def zah.new{H:Hp}{p l:Addr}{o:HO}(b:zah H p)(h:H l=none):zah (L2.upd H l o) p:=b.same (Same.new h)
section
variable{P:Program}{w:World}{K:Ac}{mg:Str->Option Value}{base:Heap}
def HB(K:Ac):Sp:=fun vs H Q _=>∃(l:Addr)(a:List Int),vs=[.ref l,.int 0]/\SqL K H l (a.map V.int)/\∀n,Q (.int n) H
def MO:zl ["script","k"] ["script","k"] (ze Ev):=⟨rfl,rfl,rfl,δ,rfl,δ,δ⟩
def MP{f:Addr}{fd:FuncData}(F:Fun K "_law_cell_at" "_law_cell_at" Ev f fd)(B:Bt mg):FnOk P w K mg base aR 1 f fd ["script","k"] (HB K):=by
 refine F.ok MO (fun vs H Q E h=>?_) (fun cdv A outer s H vs Q E hr h=>?_)
 ·obtain⟨l,a,rfl,_⟩:=h;rfl
 ·obtain⟨l,a,rfl,c,k⟩:=h
  refine⟨_,zd (zU (zn pb (pv 1) (zw zp rfl B.len ei (ae (pv 0) ap)) (aK _)) (zg (zm (cK zZ (pv 0) (pv 1) (fun _ _=>rfl)))) zq) (zg (zm zf)),?_⟩;refine⟨_,rfl,_,rfl,l,_,rfl,.inl c,_,_,rfl,rfl,_,rfl,?_⟩;refine bI (fun h1=>?_) (fun h1=>?_)
  ·cases a with
   |nil=>have:=of_decide_eq_true h1;simp at this
   |cons n a=>exact⟨_,rfl,_,rfl,l,_,_,_,rfl,rfl,c,zD (j:=0) rfl,k n⟩
  ·exact k 0
def HC:Sp:=fun vs H Q _=>∃n,vs=[.int n]/\∀p x y,H p=none->HA x y->Q (.ref p) (upd H p (.lst [.int x,.int y]))
def MQ:zl ["cell"] ["cell"] (ze kZ):=⟨rfl,rfl,rfl,δ,rfl,δ,δ⟩
def MR{f:Addr}{fd:FuncData}(F:Fun K "_law_box" "_law_box" kZ f fd):FnOk P w K mg base aR 1 f fd ["cell"] HC:=by
 refine F.ok MQ (fun vs H Q E h=>?_) (fun cdv A outer s H vs Q E hr h=>?_)
 ·obtain⟨n,rfl,_⟩:=h;rfl
 ·obtain⟨n,rfl,k⟩:=h
  refine⟨_,zd (zU (zn JV (pv 0) (zu rZ zf zf) (aK _)) (zg (zm (zr (ae (zu FM (pv 0) (zu rZ zf zf)) (ae zf ap))))) zq)
   (zg (zm (zr (ae (zu jm (zu dn (zu dU (zu jm (pv 0) (zu rZ zf zf)) zf) zf) zf) (ae zf ap))))),?_⟩
  have hc:o7 10 18:=⟨ξ,ξ,ξ⟩;have a:(10:Int) ^ (18:Int).toNat=1000000000000000000:=ξ
  refine⟨_,rfl,_,_,rfl,rfl,hc,_,_,rfl,rfl,_,rfl,?_⟩;refine bI (fun h1=>?_) (fun h1=>?_)
  ·refine⟨_,rfl,_,_,rfl,rfl,hc,_,_,rfl,rfl,aq (by simp),fun p hp=>k p _ 0 hp ⟨?_,.inl rfl⟩⟩
   have:=of_decide_eq_true h1;(first|lia|omega)
  ·refine⟨_,rfl,_,_,rfl,rfl,hc,_,_,rfl,rfl,(by show(0:Int)<10 ^ (18:Int).toNat;rw[a];decide),_,_,rfl,rfl,.inr ⟨ξ,ξ⟩,_,_,rfl,rfl,_,_,rfl,rfl,(by show(0:Int)<2147483629;decide),aq (by simp),fun p hp=>k p _ 1 hp ⟨?_,.inr ⟨rfl,?_⟩⟩⟩
   ·exact Int.emod_nonneg _ ξ
   ·have:=Int.emod_lt_of_pos (n%10 ^ (18:Int).toNat*69621+7001) (show(0:Int)<2147483629 from ξ)
    (first|lia|omega)
def uX:Sp:=fun vs H Q _=>∃p m,vs=[.ref p,.int m]/\zah H p/\0<m/\m<1073741824/\∀r H',0<=r->r<m->zai p H H'->zah H' p->Q (.int r) H'
def Ew:zl ["box","most","found","mixed"] ["box","most"] (ze uU):=⟨rfl,rfl,rfl,δ,rfl,δ,δ⟩
def HD{f:Addr}{fd:FuncData}(F:Fun K "_law_take" "_law_take" uU f fd):FnOk P w K mg base aR 1 f fd ["box","most"] uX:=by
 refine F.ok Ew (fun vs H Q E h=>?_) (fun cdv A outer s H vs Q E hr h=>?_)
 ·obtain⟨p,m,rfl,_⟩:=h;rfl
 ·obtain⟨p,m,rfl,⟨x,y,hp,d,g⟩,a,hm,k⟩:=h
  refine⟨_,zd (zU (zn eW (cK zZ (pv 0) zf (fun _ _=>rfl)) zf (aK _))
    (zd (zk (i:=2) Ew.nd rfl (Or.inl rfl) (zu jm (cK zZ (pv 0) zf (fun _ _=>rfl)) (pv 1)))
    (zd (FJ (zu FN (cK zZ (pv 0) zf (fun _ _=>rfl)) (pv 1)) (FI (pv 0) zf set_list))
    (zg (zm (pv 2))))) zq)
   (zd (zk (i:=3) Ew.nd rfl (Or.inl rfl) (zu jm (zu dn (zu dn (zu dU (cK zZ (pv 0) zf (fun _ _=>rfl)) (cK zZ (pv 0) zf (fun _ _=>rfl))) (zu dU zf (cK zZ (pv 0) zf (fun _ _=>rfl)))) zf) zf))
   (zd (FJ (zu jm (zu dn (zu dn (zu dU (pv 3) (pv 3)) (zu dU zf (pv 3))) zf) zf) (FI (pv 0) zf set_list))
   (zg (zm (zu jm (zu FN (cK zZ (pv 0) zf (fun _ _=>rfl)) zf) (pv 1)))))),?_⟩
  have c:eX ([.int x,.int y]:List V) 0=some (.int x):=zD (j:=0) rfl;have D:eX ([.int x,.int y]:List V) 1=some (.int y):=zD (j:=1) rfl;refine⟨_,rfl,p,_,_,_,rfl,rfl,SqL.of hp,D,rfl,_,rfl,?_⟩;refine bI (fun h1=>?_) (fun h1=>?_)
  ·refine⟨_,rfl,p,_,_,_,rfl,rfl,SqL.of hp,c,_,rfl,_,_,rfl,rfl,a,?_⟩
   refine⟨_,rfl,p,_,_,_,rfl,rfl,SqL.of hp,c,_,rfl,_,_,rfl,rfl,⟨a,hm⟩,_,rfl,p,_,_,0,rfl,rfl,hp,rfl,?_⟩;refine⟨_,rfl,k (x%m) _ (Int.emod_nonneg _ ω) (Int.emod_lt_of_pos _ a) (fun b o hb e=>by rw[au hb];exact e) ⟨x / m,y,al,Int.ediv_nonneg d ω,?_⟩⟩;rcases g with q|⟨q,hx⟩
   ·exact .inl q
   ·refine .inr ⟨q,Int.lt_of_le_of_lt (Int.ediv_le_self _ d) hx⟩
  ·have hy:y=1/\x<4294967296:=by
    rcases g with q|q
    ·exact absurd (by subst q;rfl) h1
    ·exact q
   obtain⟨rfl,hx⟩:=hy;have hb:CMul x x:=.inl ⟨ω,ω⟩;refine⟨_,rfl,p,_,_,_,rfl,rfl,SqL.of hp,c,_,rfl,p,_,_,_,rfl,rfl,SqL.of hp,c,_,_,rfl,rfl,hb,_,rfl,p,_,_,_,rfl,rfl,SqL.of hp,c,_,_,rfl,rfl,.inl ⟨ξ,ξ⟩,_,_,rfl,rfl,_,_,rfl,rfl,_,_,rfl,rfl,(by show(0:Int)<2147483647;decide),?_⟩;have G:=Int.emod_nonneg (x*x+39373*x+12345) (show(2147483647:Int)≠0 from ξ);have I:=Int.emod_lt_of_pos (x*x+39373*x+12345) (show(0:Int)<2147483647 from ξ);obtain⟨z,l⟩:∃z,z=(x*x+39373*x+12345)%2147483647:=⟨_,rfl⟩;rw[<-l] at G I;show oR _ _ _ ([some (.ref p),some (.int m),none,some (.int ((x*x+39373*x+12345)%2147483647))]:St) H;rw[<-l];refine⟨_,rfl,_,rfl,_,_,rfl,rfl,.inl ⟨ω,ω⟩,_,rfl,_,_,rfl,rfl,.inl ⟨ξ,ξ⟩,_,_,rfl,rfl,_,_,rfl,rfl,_,_,rfl,rfl,(by show(0:Int)<2147483587;decide),_,rfl,p,_,_,0,rfl,rfl,hp,rfl,?_⟩;have v:=Int.emod_nonneg (z*z+16807*z+7) (show(2147483587:Int)≠0 from ξ);have g1:=Int.emod_lt_of_pos (z*z+16807*z+7) (show(0:Int)<2147483587 from ξ);obtain⟨u,r⟩:∃u,u=(z*z+16807*z+7)%2147483587:=⟨_,rfl⟩;rw[<-r] at v g1;have C:upd H p (.lst [.int ((z*z+16807*z+7)%2147483587),.int 1]) p=some (.lst [.int u,.int 1]):=by rw[r];exact al
   refine⟨_,rfl,p,_,_,_,rfl,rfl,SqL.of C,zD (j:=0) rfl,_,_,rfl,rfl,⟨ξ,ξ⟩,_,rfl,_,_,rfl,rfl,a,?_⟩;exact k _ _ (Int.emod_nonneg _ ω) (Int.emod_lt_of_pos _ a) (fun b o hb e=>by rw[au hb];exact e) ⟨u,1,C,v,.inr ⟨rfl,ω⟩⟩
end
end K51
end
section
namespace K51
open K1
open PySem L2 STb
abbrev Ex:Stmt:=top 55
abbrev u4:Stmt:=top 56
def texts:List Str:=(["","0","01 12 02","012 013 023 123","01 02 03","012 023 034 014","0123","01 23 45","012 34"]:List Str)++(["012 123 234 034 014","01 12 23 03 13","012 013 014","0 1 2 3"]:List Str)++(["01 12 02 34 45 35","023 234 1"]:List Str)
++(["014 015 023 025 034 123 124 135 245 345","012 013 024 034 125 135 245 345"]:List Str)++(["01234","0123 0124 0134 0234 1234"]:List Str)++(["013 123 234 024 014 145 125 025 056 016 126 267 027 037 345 356 367"]:List Str)
def wordsOf(n:Nat):List Str:=Txt.split (texts.getD n "") " "
def digits(x:Str):List Int:=x.cps.toList.map fun(c:Nat)=>((c:Int)-48)
def known(n:Nat):Ξ:=((wordsOf n).filter fun(x:Str)=>!decide (x="")).map digits
def MS:∀n,n<20->(texts.getD n "").length+2<=1000/\(wordsOf n).length<=20/\∀x∈wordsOf n,x.cps.size<=5/\∀c∈x.cps.toList,48<=c/\c<=57:=δ
def MT:∀c,48<=c->c<=57->intText? ⟨#[c]⟩=some ((c:Int)-48):=by
 intro c h1 h2;have:∀c,c<58->48<=c->intText? ⟨#[c]⟩=some ((c:Int)-48):=δ
 exact this c ω h1
section
variable{P:Program}{w:World}{K:Ac}{mg:Str->Option Value}{base:Heap}
def HE:Sp:=fun vs H Q _=>∃n:Nat,vs=[.int n]/\n<20/\∀D as H',Same H H'->H D=none->H' D=some (.lst (as.map V.ref))->Tps H' as (known n)->Q (.ref D) H'
def k4:zl ["number","some","web","word"] ["number"] (ze Ex):=⟨rfl,rfl,rfl,δ,rfl,δ,δ⟩
def MU{H2:Hp}{x:Str}{D:Addr}{Q:VK}(hx:x.cps.size<=5)(hc:∀c∈x.cps.toList,48<=c/\c<=57)(h:H2 D=none)(k:∀d,Same H2 d->d D=some (.lst ((digits x).map V.int))->Q (.ref D) d):c7 (up x) (cV 0) cz (j9 (fun xs H Q=>∃x n,xs=[.str x]/\intText? x=some n/\x.length<=640/\Q (.int n) H) (zL (aM 0) bD)) [none] H2 D Q:=by
 refine Mm (fun j σ ys d=>∃v,σ=[v]/\Same H2 d/\d D=some (.lst ys)/\ys=((digits x).take j).map V.int) ?_ ?_ ?_
 ·exact⟨none,rfl,Same.new h,al,rfl⟩
 ·rintro j σ ys d c i l hy ⟨v,rfl,g,a,rfl⟩
  have f:x.cps.toList[j]?=some c:=by simpa using i
  obtain⟨o,p⟩:=hc c (An f);refine cR ?_;refine⟨_,rfl,⟨#[c]⟩,_,rfl,MT c o p,by show 1<=640;decide,ci (aq ω) l hy a ⟨_,rfl,g.then h,al,?_⟩⟩;have e:(digits x)[j]?=some ((c:Int)-48):=by unfold digits;rw[Ao,f];rfl
  rw[AI e,Ah];rfl
 ·rintro σ ys d ⟨v,rfl,g,a,rfl⟩
  rw[Au (by unfold digits;simp)] at a;exact k d g a
def MV{f:Addr}{fd:FuncData}(F:Fun K "_law_known" "_law_known" Ex f fd)(B:Bt mg):FnOk P w K mg base aR 1 f fd ["number"] HE:=by
 refine F.ok k4 (fun vs H Q E h=>?_) (fun cdv A outer s H vs Q E hr h=>?_)
 ·obtain⟨n,rfl,_⟩:=h;rfl
 ·obtain⟨n,rfl,hn,k⟩:=h
  refine⟨_,zd (zk (i:=1) k4.nd rfl (Or.inl rfl) (zr (ae pe_str (ae pe_str (ae pe_str (ae pe_str (ae pe_str (ae pe_str (ae pe_str (ae pe_str (ae pe_str ap)))))))))))
   (zd (zk (i:=1) k4.nd rfl (Or.inl rfl) (zu iu (pv 1) (zr (ae pe_str (ae pe_str (ae pe_str (ae pe_str (ae pe_str (ae pe_str ap)))))))))
   (zd (zk (i:=1) k4.nd rfl (Or.inl rfl) (zu iu (pv 1) (zr (ae pe_str (ae pe_str ap)))))
   (zd (zk (i:=1) k4.nd rfl (Or.inl rfl) (zu iu (pv 1) (zr (ae pe_str (ae pe_str ap)))))
   (zd (zN (eY AN PySem.F.slot_list_append PySem.F.type_list_append kd (pv 1) (ae pe_str ap)))
   (zd (zk (i:=2) k4.nd rfl (Or.inl rfl) (zr ap))
   (zd (zV AE rfl (zv (eY PySem.F.plainAttrs_str PySem.F.slot_str_split PySem.F.type_str_split Mj (cK zZ (pv 1) (zu jm (pv 0) zf) (fun _ _=>rfl)) (ae pe_str ap))) (zi (i:=3) k4.nd rfl (Or.inl rfl))
    (zg (zU (zn ij (pv 3) pe_str (aK _))
     (zg (zN (eY AN PySem.F.slot_list_append PySem.F.type_list_append kd (pv 2) (ae (zG Gc rfl B.tuple Hu (ae
      (zt ["number","some","web","word"] ["sign"] [none] (Ml (pv 3)) (fun J C s₀ H₀ ex=>zi (i:=0) (cO ["sign"]) rfl (Or.inl rfl)) (fun J C s₀ H₀ ex=>zM)
       (fun J C s₀ H₀ ex=>zG Ly rfl B.int Mv (ae (pv 0) ap)) (hfr:=di δ)) ap)) ap)))) zq)))
   (zg (zm (pv 2))))))))),?_⟩
  have t20:texts.length=20:=rfl;have dW:eX (texts.map V.str) ((n:Int)%20)=some (.str (texts.getD n "")):=by
   rw[show(n:Int)%20=(n:Int) from ω];refine zD ?_;have e:texts[n]?=some texts[n]:=Aj ω;rw[Ao,List.getD_eq_getElem?_getD,e];rfl
  obtain⟨g1,g2,g3⟩:=MS n hn;refine⟨aq (by simp),fun X h1=>?_⟩;have s1:=Same.new (H:=H) (o:=.lst [.str "",.str "0",.str "01 12 02",.str "012 013 023 123",.str "01 02 03",.str "012 023 034 014",.str "0123",.str "01 23 45",.str "012 34"]) h1;refine⟨_,rfl,aq (by simp),fun Y L=>⟨X,Y,_,_,rfl,rfl,Same.new L _ _ al,al,aq (by simp),fun Z h3=>?_⟩⟩;have s3:=(s1.trans (Same.new L)).trans (Same.new (o:=.lst ((texts.take 15).map V.str)) h3);refine⟨_,rfl,aq (by simp),fun m3 M=>⟨Z,m3,_,_,rfl,rfl,Same.new M _ _ al,al,aq (by simp),fun l4 h4=>?_⟩⟩;have S:=(s3.trans (Same.new M)).trans (Same.new (o:=.lst ((texts.take 17).map V.str)) h4);refine⟨_,rfl,aq (by simp),fun m4 r=>⟨l4,m4,_,_,rfl,rfl,Same.new r _ _ al,al,aq (by simp),fun d N=>?_⟩⟩;have s5:=(S.trans (Same.new r)).trans (Same.new (o:=.lst ((texts.take 19).map V.str)) N);have yx:H d=none:=(S.trans (Same.new r)).free N;refine⟨_,rfl,.inl ⟨rfl,_,SqL.of al⟩,d,_,_,rfl,rfl,al,zH (by simp),aq (by simp),fun c u=>?_⟩;generalize hH6:upd (upd _ d _) d _=H6 at u;have e6:H6 d=some (.lst (texts.map V.str)):=by rw[<-hH6,al];rfl
  have T:Same H H6:=by
   rw[<-hH6];exact s5.then yx
  have g:H c=none:=T.free u;have U:Same H (upd H6 c (.lst [])):=T.then g;have e7:upd H6 c (.lst []) d=some (.lst (texts.map V.str)):=Same.new u _ _ e6;refine⟨_,rfl,_,rfl,_,_,rfl,rfl,(by show(0:Int)<20;decide),d,_,_,_,rfl,rfl,SqL.of e7,dW,rfl,_,_,rfl,rfl,ξ,aq ω,aq (show(wordsOf n).length<=100000 from ω),fun D O=>⟨D,rfl,⟨_,SqL.of al⟩,?_⟩⟩;have W:c≠D:=zh (H:=upd H6 c (.lst [])) al O;have bU:H D=none:=U.free O;refine zK (K:=K) (a:=D) (xs:=(wordsOf n).map V.str) (fun i σ H2=>∃as v,σ=[some (.int n),some (.ref d),some (.ref c),v]/\Same H H2/\H2 D=some (.lst ((wordsOf n).map V.str))/\H2 c=some (.lst (as.map V.ref))/\Tps H2 as ((((wordsOf n).take i).filter fun(x:Str)=>!decide (x="")).map digits))
   ⟨[],none,rfl,U.then bU,al,by rw[au W];exact al,.nil⟩ (fun i σ H2 _ ⟨_,_,_,_,q,_⟩=>SqL.of q) ?_ ?_
  ·rintro i x σ H2 hx ⟨as,v,rfl,p,I,j,ht⟩
   rw[Ao] at hx;cases ex:(wordsOf n)[i]? with
   |none=>rw[ex] at hx;cases hx
   |some y=>
    rw[ex] at hx;obtain rfl:=As hx;have hi:i<(wordsOf n).length:=(List.getElem?_eq_some_iff.mp ex).1;obtain⟨y5,yc⟩:=g3 y (An ex);refine⟨_,rfl,rfl,_,rfl,?_⟩
    by_cases hy:y=""
    ·subst hy
     refine a9 ⟨as,_,rfl,p,I,j,?_⟩;rw[AI ex,List.filter_append,Ah]
     simpa using ht
    ·rw[show(!decide (V.str y=V.str ""))=true from by simp[hy]]
     refine bu ⟨_,rfl,.inl ⟨rfl,_,SqL.of j⟩,_,rfl,y,rfl,fun D2 xO=>zB (MU y5 yc xO fun H3 bA G=>⟨D2,_,rfl,.inl ⟨SqL.of G,fun t cZ=>?_⟩⟩)⟩;have l:Same H2 (upd H3 t (.tup ((digits y).map V.int))):=bA.trans (Same.new cZ);have aJ:=ht.length;have ir:as.length<=20:=by
      rw[aJ,Ab];exact AB (List.length_filter_le _ _) (by rw[Av];(first|lia|omega))
     refine⟨c,_,_,rfl,rfl,l _ _ j,zH (by rw[Ab];(first|lia|omega)),⟨as++[t],_,rfl,(p.trans l).then g,?_,by rw[al,Ah];rfl,?_⟩⟩
     ·rw[au W.symm];exact l _ _ I
     ·rw[AI ex,List.filter_append,Ah,show [y].filter (fun(x:Str)=>!decide (x=""))=[y] by simp[hy]]
      exact Tps.upd (Tps.snoc (l.tps ht) al) (l _ _ j) (by intro xs z;cases z)
  ·rintro σ H2 ⟨as,v,rfl,p,I,j,ht⟩
   rw[Ab,take_all] at ht;exact⟨_,rfl,k c as H2 p g j ht⟩
def dm(first a:Int)(ps:List Int):List Int:=ps.map fun x=>first+a*x
def HF:Sp:=fun vs H Q _=>∃p l as pss,vs=[.ref p,.ref l]/\zah H p/\H l=some (.lst (as.map V.ref))/\Tps H as pss/\pss.length<=20/\(∀ps∈pss,ps.length<=10)/\
 ∀D bs c first a H',zai p H H'->zah H' p->H D=none->H' D=some (.lst (bs.map V.ref))->Tps H' bs c->0<=first->first<12->1<=a->a<=3->c.Perm (pss.map (dm first a))->Q (.ref D) H'
def qd:zl ["box","web","gap","first","found","piece"] ["box","web"] (ze u4):=⟨rfl,rfl,rfl,δ,rfl,δ,δ⟩
def MW{H2:Hp}{a D:Addr}{ps:List Int}{first f:Int}{Q:VK}(ha:Tp H2 a ps)(hz:ps.length<=10)(o:1<=f/\f<=3)(h:H2 D=none)(k:∀d,Same H2 d->d D=some (.lst ((dm first f ps).map V.int))->Q (.ref D) d):c7 (jl K a) (cV 0) cz (dv (hJ fun i j=>.int (i+j)) (aM 1) (dv (rI CMul fun i j=>.int (i*j)) (aM 2) (aM 0))) [none,some (.int first),some (.int f)] H2 D Q:=by
 refine GV (xs:=ps.map V.int) (fun j σ ys d=>∃v,σ=[v,some (.int first),some (.int f)]/\Same H2 d/\d D=some (.lst ys)/\ys=((dm first f ps).take j).map V.int) ?_ ?_ ?_ ?_
 ·exact⟨none,rfl,Same.new h,al,rfl⟩
 ·rintro j σ ys d ⟨v,rfl,g,c,rfl⟩
  exact SqT.of (g.tp ha)
 ·rintro j σ ys d x hx l hy ⟨v,rfl,g,c,rfl⟩
  obtain⟨q,eq,rfl⟩:=p8 hx;refine cR ?_;refine⟨_,rfl,_,rfl,_,rfl,_,_,rfl,rfl,.inl ⟨ω,ω⟩,_,_,rfl,rfl,ci (by rw[Ab];exact aq ω) l hy c ⟨_,rfl,g.then h,al,?_⟩⟩;have e:(dm first f ps)[j]?=some (first+f*q):=by unfold dm;rw[Ao,eq];rfl
  rw[AI e,Ah];rfl
 ·rintro σ ys d ⟨v,rfl,g,c,rfl⟩
  rw[Au (by unfold dm;simp)] at c;exact k d g c
def MX{f O:Addr}{fd S:FuncData}(F:Fun K "_law_named" "_law_named" u4 f fd)(B:Bt mg)(Ft:Fun K "_law_take" "_law_take" uU O S)(T:Binds K S ["box","most"] [])(mt:mg "_law_take"=some (.ref O)):FnOk P w K mg base aR 2 f fd ["box","web"] HF:=by
 have U:FnOk P w K mg base aR 1 O S ["box","most"] uX:=HD Ft;refine F.ok qd (fun vs H Q E h=>?_) (fun cdv A outer s H vs Q E hr h=>?_)
 ·obtain⟨p,l,as,pss,rfl,_⟩:=h;rfl
 ·obtain⟨p,l,as,pss,rfl,hb,L,ht,gM,B_,k⟩:=h
  refine⟨_,zd (zk (i:=2) qd.nd rfl (Or.inr rfl) (zu dn zf (zo U hr rfl mt Ft.kp T .nil aF (ae (pv 0) (ae zf ap)))))
   (zd (zk (i:=3) qd.nd rfl (Or.inr rfl) (zo U hr rfl mt Ft.kp T .nil aF (ae (pv 0) (ae zf ap))))
   (zd (zk (i:=4) qd.nd rfl (Or.inl rfl) (zr ap))
   (zd (zV AE rfl (zv (pv 1)) (zi (i:=5) qd.nd rfl (Or.inl rfl))
    (zg (zN (eY AN PySem.F.slot_list_insert PySem.F.type_list_insert G8 (pv 4)
     (ae (zo U hr rfl mt Ft.kp T .nil aF (ae (pv 0) (ae (zu dn (zw zp rfl B.len ei (ae (pv 4) ap)) zf) ap)))
     (ae (zG Gc rfl B.tuple Hu (ae
      (zt ["box","web","gap","first","found","piece"] ["point","first","gap"] [none,some 3,some 2] (jW (pv 5)) (fun W C s₀ H₀ ex=>zi (i:=0) (cO ["point","first","gap"]) rfl (Or.inl rfl)) (fun W C s₀ H₀ ex=>zM)
       (fun W C s₀ H₀ ex=>zu dn (pv 1) (zu dU (pv 2) (pv 0))) (hfr:=cw (ze u4) δ)) ap)) ap))))))
   (zg (zm (pv 4)))))),?_⟩
  refine⟨_,rfl,p,3,rfl,hb,ξ,ξ,fun e H1 a1 a2 r6 lF=>⟨_,_,rfl,rfl,?_⟩⟩;refine⟨_,rfl,p,12,rfl,lF,ξ,ξ,fun g H2 c1 c2 gC X=>⟨aq (by simp),fun D Y=>?_⟩⟩;have N:=r6.trans gC;have I:H D=none:=N.free hb X Y;have Z:l≠p:=hb.ne L;have aJ:=ht.length;refine⟨_,rfl,l,rfl,⟨_,SqL.of ((N.then I) _ _ Z L)⟩,zK (K:=K) (a:=l) (xs:=as.map V.ref) (fun i σ o=>∃bs c v,σ=[some (.ref p),some (.ref l),some (.int (1+e)),some (.int g),some (.ref D),v]/\zai p H o/\zah o p/\o D=some (.lst (bs.map V.ref))/\Tps o bs c/\c.Perm ((pss.take i).map (dm g (1+e))))
   ⟨[],[],none,rfl,N.then I,X.new Y,al,.nil,List.Perm.nil⟩ (fun i σ o _ ⟨_,_,_,_,sb,_⟩=>SqL.of (sb _ _ Z L)) ?_ ?_⟩
  ·rintro i x σ o hx ⟨bs,c,v,rfl,G,q,d,hq,hp⟩
   obtain⟨a,ea,rfl⟩:=zQ hx;obtain⟨ps,M,bS⟩:=ht.get ea;have hi:i<pss.length:=(List.getElem?_eq_some_iff.mp M).1;have p0:=hq.length;have r_:c.length=i:=by rw[hp.length_eq,Ab,Av];(first|lia|omega)
   have u:D≠p:=q.ne d;refine⟨_,rfl,.inl ⟨rfl,_,SqL.of d⟩,_,rfl,_,rfl,D,_,rfl,.inl (SqL.of d),_,_,rfl,rfl,p,_,rfl,q,by rw[Ab];(first|lia|omega),by rw[Ab];(first|lia|omega),fun r H4 r0 yn y bZ=>?_⟩;rw[Ab] at yn;have j:Tp H4 a ps:=(G.trans y).tp hb bS;refine⟨_,rfl,a,rfl,⟨_,SqT.of j⟩,fun D2 bL=>zB (MW j (B_ ps (An M)) ⟨ω,ω⟩ bL fun H5 gO cC=>⟨D2,_,rfl,.inl ⟨SqL.of cC,fun t cZ=>?_⟩⟩)⟩;have J:Same H4 (upd H5 t (.tup ((dm g (1+e) ps).map V.int))):=gO.trans (Same.new cZ);have aZ:=y _ _ u d;have fJ:=J _ _ aZ;have dD:=bZ.same J;refine⟨D,_,r,_,rfl,rfl,fJ,r0,by rw[Ab];(first|lia|omega),zH (by rw[Ab];(first|lia|omega)),⟨bs.take r.toNat++t::bs.drop r.toNat,c.take r.toNat++dm g (1+e) ps::c.drop r.toNat,_,rfl,((G.trans y).trans (zai.of J)).then I,dD.upd u,?_,?_,?_⟩⟩
   ·rw[al,Ah,AF,List.map_take,List.map_drop]
   ·have tq:=J.tps (y.tps q hq)
    exact Tps.upd (Tps.append (tq.take _) (.cons al (tq.drop _))) fJ (by intro xs z;cases z)
   ·rw[AI M,Ah]
    have h1:(c.take r.toNat++dm g (1+e) ps::c.drop r.toNat).Perm (dm g (1+e) ps::c):=by
     have:=List.perm_middle (a:=dm g (1+e) ps) (l₁:=c.take r.toNat) (l₂:=c.drop r.toNat)
     rwa [List.take_append_drop] at this
    exact h1.trans ((List.perm_append_singleton _ _).symm.trans (List.Perm.append_right _ hp))
  ·rintro σ o ⟨bs,c,v,rfl,G,q,d,hq,hp⟩
   rw[Ab,aJ,take_all] at hp;exact⟨_,rfl,k D bs c g (1+e) o G q I d hq c1 c2 ω ω hp⟩
end
end K51
end
section
namespace K51
open K1
open PySem L2 STb
def qf(pss:Ξ):Prop:=pss.Nodup/\∀ps∈pss,ps≠[]/\ps.length<=4/\bf ps=true/\∀x∈ps,0<=x/\x<=5
def Base(b:Ξ):Prop:=(∃n,n<20/\b=known n)\/(b.length<=5/\qf b)
def Drawn(c:Ξ):Prop:=∃b first a,Base b/\0<=first/\first<12/\1<=a/\a<=3/\c.Perm (b.map (dm first a))
def MY:∀n,n<20->(known n).length<=20/\∀ps∈known n,ps≠[]/\ps.length<=5:=δ
end K51
end
section
namespace K1
open PySem L2 STb
def HG:∀a b:List Int,HT.lexLt a b=true->HT.lexLt b a=false
 |[],[],h=>rfl
 |[],_::_,h=>rfl
 |_::_,[],h=>by rw[HT.FY] at h;exact absurd h Ak
 |x::xs,y::ys,h=>by
  rw[HT.jp] at h ⊢
  by_cases e:x=y
  ·rw[if_pos e] at h;rw[if_pos e.symm];exact HG xs ys h
  ·rw[if_neg e] at h;rw[if_neg (fun z=>e z.symm)]
   have:=of_decide_eq_true h;exact decide_eq_false ω
def HH:∀a b:List Int,HT.lexLt a b=false->HT.lexLt b a=false->a=b
 |[],[],_,_=>rfl
 |[],_::_,h,_=>by rw[HT.pc] at h;exact absurd h ξ
 |_::_,[],_,h=>by rw[HT.pc] at h;exact absurd h ξ
 |x::xs,y::ys,h,h'=>by
  rw[HT.jp] at h h'
  by_cases e:x=y
  ·rw[if_pos e] at h;rw[if_pos e.symm] at h'
   rw[e,HH xs ys h h']
  ·rw[if_neg e] at h;rw[if_neg (fun z=>e z.symm)] at h'
   have:=of_decide_eq_false h;have:=of_decide_eq_false h';(first|lia|omega)
def nt:∀a b c:List Int,HT.lexLt b a=false->HT.lexLt c b=false->HT.lexLt c a=false
 |[],b,c,_,_=>by cases c with
  |nil=>rfl
  |cons _ _=>rfl
 |_::_,[],c,h,_=>by rw[HT.pc] at h;exact absurd h ξ
 |_::_,_::_,[],_,h=>by rw[HT.pc] at h;exact absurd h ξ
 |x::xs,y::ys,z::zs,h,h'=>by
  rw[HT.jp] at h h' ⊢
  by_cases e:y=x
  ·rw[if_pos e] at h
   by_cases e2:z=y
   ·rw[if_pos e2] at h';rw[if_pos (e2.trans e)];exact nt xs ys zs h h'
   ·rw[if_neg e2] at h';rw[if_neg ω]
    have:=of_decide_eq_false h';exact decide_eq_false ω
  ·rw[if_neg e] at h
   have h1:=of_decide_eq_false h
   by_cases e2:z=y
   ·rw[if_neg ω]
    exact decide_eq_false ω
   ·rw[if_neg e2] at h'
    have h2:=of_decide_eq_false h';rw[if_neg ω];exact decide_eq_false ω
def key(p:List Int):List Int:=(p.length:Int)::p
def kle(a b:List Int):Bool:=!HT.lexLt (key b) (key a)
def nT{a b:List Int}:kle a b=true↔HT.lexLt (key b) (key a)=false:=by unfold kle;simp
def canon(pss:Ξ):Ξ:=(dd (pss.flatMap parts)).mergeSort kle
def u8(pss:Ξ):(canon pss).Perm (dd (pss.flatMap parts)):=List.mergeSort_perm _ _
def MZ(pss:Ξ):(canon pss).Pairwise (fun a b=>kle a b=true):=by
 refine List.pairwise_mergeSort (fun a b c h1 h2=>?_) (fun a b=>?_) _
 ·rw[nT] at h1 h2 ⊢;exact nt _ _ _ h1 h2
 ·rw[Bool.or_eq_true,nT,nT]
  cases h:HT.lexLt (key b) (key a) with
  |false=>exact .inl rfl
  |true=>exact .inr (HG _ _ h)
def HI{pss:Ξ}{x:List Int}:x∈canon pss↔x∈pss.flatMap parts:=by rw[(u8 pss).mem_iff,uo]
def M5(pss:Ξ):(canon pss).Nodup:=(u8 pss).nodup_iff.mpr (L8 _)
def nW(pss:Ξ):(canon pss).length=(dd (pss.flatMap parts)).length:=(u8 pss).length_eq
def M6{l m:Ξ}(hp:l.Perm m)(h1:l.Pairwise (fun a b=>kle a b=true))(h2:m.Pairwise (fun a b=>kle a b=true)):l=m:=by
 refine List.Perm.eq_of_pairwise (fun a b _ _ g1 g2=>?_) h1 h2 hp;rw[nT] at g1 g2;have:=HH _ _ g2 g1;unfold key at this;exact(List.cons.inj this).2
def canon_of{pss l:Ξ}(hp:l.Perm (dd (pss.flatMap parts)))(hs:l.Pairwise (fun a b=>HT.lexLt ((b.length:Int)::b) ((a.length:Int)::a)=false)):l=canon pss:=
 M6 (hp.trans (u8 pss).symm) (hs.imp fun h=>nT.mpr h) (MZ pss)
def ve:∀(n:Nat)(p q:List Int),p.length=n->(q∈subs p↔q.Sublist p)
 |0,p,q,h=>by
  obtain rfl:=List.eq_nil_of_length_eq_zero h;show q∈[[]]↔_;simp
 |n+1,p,q,h=>by
  obtain⟨r,x,rfl⟩:∃r x,p=r++[x]:=by
   rcases List.eq_nil_or_concat p with e|⟨r,x,e⟩
   ·rw[e] at h;cases h
   ·exact⟨r,x,by rw[e,List.concat_eq_append]⟩
  have hr:r.length=n:=by simpa using h
  rw[Hk,List.mem_append,ve n r q hr,List.mem_map,List.sublist_append_iff];constructor
  ·rintro(h1|⟨y,hy,rfl⟩)
   ·exact⟨q,[],by simp,h1,List.nil_sublist _⟩
   ·exact⟨y,[x],rfl,(ve n r y hr).mp hy,List.Sublist.refl _⟩
  ·rintro⟨a,f,rfl,c,d⟩
   cases d with
   |cons _ h=>
    obtain rfl:=List.sublist_nil.mp h;exact .inl (by simpa using c)
   |cons_cons _ h=>
    obtain rfl:=List.sublist_nil.mp h;exact .inr ⟨a,(ve n r a hr).mpr c,rfl⟩
def vf{p q:List Int}:q∈parts p↔q≠[]/\q.Sublist p:=by
 obtain⟨t,e,ht⟩:=Hm p;have hs:=ve p.length p q rfl;rw[e] at hs;unfold parts;rw[e];show q∈t↔_;constructor
 ·intro h
  exact⟨ht q h,hs.mp (At _ h)⟩
 ·rintro⟨h1,h2⟩
  rcases List.mem_cons.mp (hs.mpr h2) with h|h
  ·exact absurd h h1
  ·exact h
def Ey:∀p:List Int,bf p=true↔p.Pairwise (·<·)
 |[]=>by simp[bf]
 |[a]=>by simp[bf]
 |a::b::r=>by
  have c:=Ey (b::r);rw[show bf (a::b::r)=(decide (a<b)&&bf (b::r)) from rfl,AL,decide_eq_true_eq,c,List.pairwise_cons (a:=a)];constructor
  ·rintro⟨h1,h2⟩
   refine⟨fun x hx=>?_,h2⟩;rcases List.mem_cons.mp hx with rfl|hx
   ·exact h1
   ·have:=(List.pairwise_cons.mp h2).1 x hx
    (first|lia|omega)
  ·rintro⟨h1,h2⟩
   exact⟨h1 b Ar,h2⟩
def iI{p:List Int}:ff p=true↔p≠[]/\p.length<=5/\(∀x∈p,0<=x/\x<=99)/\p.Pairwise (·<·):=by
 unfold ff;simp only[AL,decide_eq_true_eq,List.all_eq_true,Ey];constructor
 ·rintro⟨⟨⟨h1,h2⟩,a⟩,c⟩
  exact⟨fun z=>by rw[z] at h1;simp at h1,h2,a,c⟩
 ·rintro⟨h1,h2,a,c⟩
  refine⟨⟨⟨?_,h2⟩,a⟩,c⟩;cases p with
  |nil=>exact absurd rfl h1
  |cons _ _=>simp
def M7{p q:List Int}(h:ff p=true)(hq:q∈parts p):ff q=true:=by
 rw[iI] at h ⊢;rw[vf] at hq;exact⟨hq.1,AB hq.2.length_le h.2.1,fun x hx=>h.2.2.1 x (hq.2.subset hx),h.2.2.2.sublist hq.2⟩
def M8{pss:Ξ}(h:pss.Nodup)(hp:∀p∈pss,ff p=true):Hs pss pss.length:=by
 intro i p hi e;refine⟨fun hm=>?_,hp p (An e)⟩;obtain⟨j,c⟩:=List.mem_iff_getElem?.mp hm;obtain⟨d,a⟩:=List.getElem?_eq_some_iff.mp c;rw[Av] at d;obtain⟨f,g⟩:=List.getElem?_eq_some_iff.mp e;have:=List.pairwise_iff_getElem.mp h j i ω f ω;rw[List.getElem_take] at a;exact this (a.trans g.symm)
def M9{pss:Ξ}(a:pss.length<=20)(c:pss.Nodup)(hp:∀p∈pss,ff p=true)(h:(dd (pss.flatMap parts)).length<=200):a' pss=true:=by
 rw[Mo pss a (M8 c hp),decide_eq_true h]
def nZ{pss:Ξ}(h:a' pss=true):pss.length<=20/\(∀p∈pss,ff p=true)/\(∀p∈pss,p.length<=5)/\(dd (pss.flatMap parts)).length<=200:=by
 unfold a' at h;simp only[AL,decide_eq_true_eq,List.all_eq_true] at h;obtain⟨⟨⟨h1,h2⟩,d⟩,c⟩:=h;have a:∀p∈pss,ff p=true:=fun p hp=>by rw[<-Hr];exact h2 p hp
 exact⟨h1,a,fun p hp=>(iI.mp (a p hp)).2.1,c⟩
def over(o p:List Int):Bool:=decide (p.length<o.length)&&p.all fun x=>decide (x∈o)
end K1
end
section
namespace K51
open K1
open PySem L2 STb
def M_(b:Ξ):Prop:=b.Nodup/\b.length<=17/\(∀ps∈b,ps≠[]/\ps.length<=5/\bf ps=true/\∀x∈ps,0<=x/\x<=7)/\(b.flatMap parts).length<=200
def M':∀n,n<20->(known n).Nodup/\(known n).length<=17/\(∀ps∈known n,ps≠[]/\ps.length<=5/\bf ps=true/\∀x∈ps,0<=x/\x<=7)/\((known n).flatMap parts).length<=200:=δ
def HJ{m:Nat}:∀{b:Ξ},(∀ps∈b,(parts ps).length<=m)->(b.flatMap parts).length<=m*b.length
 |[],_=>by simp
 |p::r,h=>by
  have h1:=h p Ar;have h2:=HJ (b:=r) fun q hq=>h q (At _ hq);rw[List.flatMap_cons,Af,Am,Nat.mul_succ];(first|lia|omega)
def HK{b:Ξ}(h:Base b):M_ b:=by
 rcases h with ⟨n,a,rfl⟩|⟨e,hs⟩
 ·exact M' n a
 ·refine⟨hs.1,ω,fun ps hp=>?_,?_⟩
  ·obtain⟨h1,h2,c,d⟩:=hs.2 ps hp
   exact⟨h1,ω,c,fun x hx=>by have:=d x hx;(first|lia|omega)⟩
  ·have:=HJ (m:=15) (b:=b) fun ps hp=>by
    rw[p7];have h2:=(hs.2 ps hp).2.1;have:2 ^ ps.length<=2 ^ 4:=Nat.pow_le_pow_right ξ h2;(first|lia|omega)
   (first|lia|omega)
def Na{first a:Int}(c:1<=a){p q:List Int}(h:dm first a p=dm first a q):p=q:=by
 unfold dm at h;refine(List.map_inj_right (f:=fun x=>first+a*x) (fun x y e=>?_)).mp h;have:a*x=a*y:=ω
 exact Int.eq_of_mul_eq_mul_left ω this
def Nb{first f:Int}(i:0<=first)(h1:first<12)(j:1<=f)(l:f<=3){p:List Int}(h:p≠[]/\p.length<=5/\bf p=true/\∀x∈p,0<=x/\x<=7):ff (dm first f p)=true:=by
 obtain⟨a,b,c,d⟩:=h;rw[iI];unfold dm;refine⟨fun z=>a (List.map_eq_nil_iff.mp z),by rw[Ab];exact b,fun y hy=>?_,?_⟩
 ·obtain⟨x,hx,rfl⟩:=List.mem_map.mp hy
  have:=d x hx;have g:f=1\/f=2\/f=3:=ω
  rcases g with rfl|rfl|rfl<;>(first|lia|omega)
 ·rw[Ey] at c
  rw[List.pairwise_map];refine c.imp fun{x y} e=>?_;have:f*x<f*y:=Int.mul_lt_mul_of_pos_left e ω;(first|lia|omega)
def vh{q:Ξ}(h:Drawn q):a' q=true/\q.Nodup/\q.length<=17:=by
 obtain⟨b,first,d,hb,f,h1,a,g,hp⟩:=h;obtain⟨n1,n2,i,j⟩:=HK hb;have l:q.length<=17:=by rw[hp.length_eq,Ab];exact n2
 have c:q.Nodup:=by
  rw[hp.nodup_iff];unfold List.Nodup at n1 ⊢;rw[List.pairwise_map];exact n1.imp fun{x y} e z=>e (Na a z)
 refine⟨M9 ω c (fun p hm=>?_) ?_,c,l⟩
 ·obtain⟨r,hr,rfl⟩:=List.mem_map.mp (hp.mem_iff.mp hm)
  exact Nb f h1 a g (i r hr)
 ·refine AB (p6 _) ?_
  rw[(hp.flatMap_right parts).length_eq];have:∀b:Ξ,((b.map (dm first d)).flatMap parts).length=(b.flatMap parts).length:=by
   intro b
   induction b with
   |nil=>rfl
   |cons p r ih=>
    rw[AF,List.flatMap_cons,List.flatMap_cons,Af,Af,ih,p7,p7];unfold dm;rw[Ab]
  rw[this];exact j
end K51
end
section
namespace K1
open PySem L2 STb
def rims(q:List Int):Ξ:=if q.length=1 then [] else(AQ q.length).map fun k=>q.take k++q.drop (k+1)
def gd(q:List Int):(rims q).length<=q.length:=by
 unfold rims;split
 ·exact AY _
 ·simp
def vk{p q:List Int}:p∈rims q↔q.length≠1/\∃k,k<q.length/\p=q.take k++q.drop (k+1):=by
 unfold rims;split
 next h=>simp[h]
 next h=>
  rw[List.mem_map];constructor
  ·rintro⟨k,hk,rfl⟩
   exact⟨h,k,List.mem_range.mp hk,rfl⟩
  ·rintro⟨_,k,hk,rfl⟩
   exact⟨k,List.mem_range.mpr hk,rfl⟩
def vl{p q:List Int}{k:Nat}(hk:k<q.length)(h:p=q.take k++q.drop (k+1)):p.Sublist q/\p.length<q.length:=by
 subst h;refine⟨?_,?_⟩
 ·have h1:(q.take k++q.drop (k+1)).Sublist (q.take k++q.drop k):=(List.Sublist.refl _).append (by
   rw[show q.drop (k+1)=(q.drop k).drop 1 by rw[List.drop_drop]];exact List.drop_sublist _ _)
  rwa [List.take_append_drop] at h1
 ·rw[Af,Av,List.length_drop]
  (first|lia|omega)
end K1
end
section
namespace K51
open K1
open PySem L2 STb
def eD(pss:Ξ):Prop:=a' pss=true/\(canon pss).length<1000
abbrev qi:Stmt:=top 22
abbrev k7:Stmt:=top 23
def Ez{H:Hp}:∀{a:List (List Int×Addr)},(∀q∈a,Tp H q.2 q.1)->Tps H (a.map (·.2)) (a.map (·.1))
 |[],_=>.nil
 |q::r,h=>.cons (h q Ar) (Ez fun x hx=>h x (At _ hx))
def Nc{H H2:Hp}{pss:Ξ}{D:Addr}{a:List (List Int×Addr)}(t:Told H H2 pss D a):∃bs,Same H H2/\H D=none/\H2 D=some (.lst (bs.map V.ref))/\Tps H2 bs (canon pss):=by
 obtain⟨c,d,f,hq,hp,hs⟩:=t;have e:a.map (·.1)=canon pss:=canon_of hp (List.pairwise_map.mpr hs);refine⟨a.map (·.2),c,d,by rw[f,AC];rfl,?_⟩;rw[<-e];exact Ez hq
section
variable{P:Program}{w:World}{K:Ac}{mg:Str->Option Value}{base:Heap}
def iK(K:Ac):Sp:=fun vs H Q _=>∃l as pss,vs=[.ref l]/\SqL K H l (as.map V.ref)/\Tps H as pss/\eD pss/\∀D H2 bs,Same H H2->H D=none->H2 D=some (.lst (bs.map V.ref))->Tps H2 bs (canon pss)->Q (.ref D) H2
def HL:zl ["web"] ["web"] (ze k7):=⟨rfl,rfl,rfl,δ,rfl,δ,δ⟩
def HM:zl ["web"] ["web"] (ze qi):=⟨rfl,rfl,rfl,δ,rfl,δ,δ⟩
def EA(K:Ac):Sp:=fun vs H Q _=>∃l as pss,vs=[.ref l]/\SqL K H l (as.map V.ref)/\Tps H as pss/\eD pss/\∀H2,Same H H2->Q .non H2
def Nd{f fw:Addr}{fd dP:FuncData}(F:Fun K "must_be_web" "must_be_web" qi f fd)(Fw:Fun K "is_web" "is_web" uD fw dP)(d:Binds K dP ["web"] [])(e:mg "is_web"=some (.ref fw))(g:FnOk P w K mg base aR 6 fw dP ["web"] (Eu K)):FnOk P w K mg base aR 7 f fd ["web"] (EA K):=by
 refine F.ok HM (fun vs H Q E h=>?_) (fun cdv A outer s H vs Q E hr h=>?_)
 ·obtain⟨l,as,pss,rfl,_⟩:=h;rfl
 ·obtain⟨l,as,pss,rfl,c,ht,hw,k⟩:=h
  refine⟨_,zg (zU (mG (jh (zo g hr rfl e Fw.kp d .nil aF (ae (pv 0) ap)))) zY zq),?_⟩;refine⟨_,rfl,l,as,pss,rfl,c,ht,(fun _=>by rw[<-nW];exact hw.2),fun H1 a=>⟨_,rfl,?_⟩⟩;rw[hw.1];exact a9 (k H1 a)
def Nf{f fw fa:Addr}{fd dP d:FuncData}(F:Fun K "pieces" "pieces" k7 f fd)(Fw:Fun K "must_be_web" "must_be_web" qi fw dP)(q:Binds K dP ["web"] [])(r:mg "must_be_web"=some (.ref fw))(x:FnOk P w K mg base aR 7 fw dP ["web"] (EA K))(Fa:Fun K "all_parts" "all_parts" gz fa d)(u:Binds K d ["some"] [])(v:mg "all_parts"=some (.ref fa))(y:FnOk P w K mg base aR 5 fa d ["some"] (Et K)):FnOk P w K mg base aR 8 f fd ["web"] (iK K):=by
 refine F.ok HL (fun vs H Q E h=>?_) (fun cdv A outer s H vs Q E hr h=>?_)
 ·obtain⟨l,as,pss,rfl,_⟩:=h;rfl
 ·obtain⟨l,as,pss,rfl,e,ht,hw,k⟩:=h
  have c:Room 5 _:=hr.mono ξ;refine⟨_,zd (zN (zo x hr rfl r Fw.kp q .nil aF (ae (pv 0) ap)))
   (zg (zm (zo y c rfl v Fa.kp u .nil aF (ae (pv 0) ap)))),?_⟩
  obtain⟨g,_,i,_⟩:=nZ hw.1;refine⟨_,rfl,l,as,pss,rfl,e,ht,hw,fun H1 a=>?_⟩;refine⟨_,rfl,l,as,pss,rfl,a.seq e,a.tps ht,i,AB g ξ,(by rw[<-nW];exact hw.2),fun D H2 z t=>?_⟩;obtain⟨bs,j,o,p,hb⟩:=Nc t;exact k D H2 bs (a.trans j) (a.free o) p hb
end
end K51
end
section
namespace K51
open K1
open PySem L2 STb
abbrev hU:Stmt:=top 13
abbrev vp:Stmt:=top 17
def EC(xs:List V)(i:Nat)(h:i<=xs.length):cM xs none (some (i:Int))=xs.take i:=by
 unfold cM;rw[HT.sd,HT.pd,Nat.min_eq_left h,List.drop_zero,Nat.sub_zero]
def EE(xs:List V)(i:Nat)(h:i<=xs.length):cM xs (some (i:Int)) none=xs.drop i:=by
 unfold cM;rw[HT.sd,HT.pd,Nat.min_eq_left h];exact Au (by rw[List.length_drop];exact Ag _)
abbrev qj:TE:=dv D' (Ca kC (aM 1) BW (B0 (aM 0))) (Ca kC (aM 1) (B0 (dv (hJ fun i j=>.int (i+j)) (aM 0) (tC (.int 1)))) BW)
section
variable{P:Program}{w:World}{K:Ac}{mg:Str->Option Value}{base:Heap}
def Ng{H2:Hp}{a D:Addr}{ps:List Int}{Q:VK}(ha:Tp H2 a ps)(hz:ps.length<=5)(r:H2 D=none)(k:∀(c:Hp)(bs:List Addr),Same H2 c->c D=some (.lst (bs.map V.ref))->Tps c bs ((AQ ps.length).map fun k=>ps.take k++ps.drop (k+1))->Q (.ref D) c):c7 (g0 0 ps.length) (cV 0) cz qj [none,some (.ref a)] H2 D Q:=by
 refine GW (fun j σ ys c=>∃(v:Option V)(bs:List Addr),σ=[v,some (.ref a)]/\Same H2 c/\c D=some (.lst ys)/\ys=bs.map V.ref/\Tps c bs (((AQ ps.length).map fun k=>ps.take k++ps.drop (k+1)).take j)) ?_ ?_ ?_
 ·exact⟨none,[],rfl,Same.new r,al,rfl,.nil⟩
 ·rintro j σ ys c q hy ⟨v,bs,rfl,f,d,rfl,hb⟩
  have e:((AQ ps.length).map fun k=>ps.take k++ps.drop (k+1))[j]?=some (ps.take j++ps.drop (j+1)):=by rw[Ao,List.getElem?_range q];rfl
  refine cR ?_;refine⟨_,rfl,_,rfl,_,rfl,a,_,rfl,f.tp ha,fun s y h i=>⟨_,rfl,_,rfl,_,_,rfl,rfl,_,rfl,a,_,rfl,h _ _ (f.tp ha),fun p2 A l o=>?_⟩⟩;rw[show(0:Int)+((j:Nat):Int)=((j:Nat):Int) from ω,EC _ _ (by rw[Ab];(first|lia|omega)),<-List.map_take] at i;rw[show(0:Int)+((j:Nat):Int)+1=((j+1:Nat):Int) from ω,EE _ _ (by rw[Ab];(first|lia|omega)),<-List.map_drop] at o;refine⟨s,p2,_,_,rfl,rfl,l _ _ i,o,aq (by simp;(first|lia|omega)),fun u C x p=>?_⟩;rw[<-Ah] at p;have g:=(h.trans l).trans x;refine ci (aq ω) q hy (g _ _ d) ⟨_,bs++[u],rfl,(f.trans g).then r,al,by rw[Ah];rfl,?_⟩;rw[AI e];exact Tps.upd (Tps.snoc (g.tps hb) p) (g _ _ d) (by intro xs z;cases z)
 ·rintro σ ys c ⟨v,bs,rfl,f,d,rfl,hb⟩
  rw[Au (by simp)] at hb;exact k c bs f d hb
def k8:Sp:=fun vs H Q _=>∃a ps,vs=[.ref a]/\Tp H a ps/\ps.length<=5/\∀D H2(bs:List Addr),Same H H2->H D=none->H2 D=some (.lst (bs.map V.ref))->Tps H2 bs (rims ps)->Q (.ref D) H2
def Nh:zl ["piece"] ["piece"] (ze hU):=⟨rfl,rfl,rfl,δ,rfl,δ,δ⟩
def n3{f:Addr}{fd:FuncData}(F:Fun K "rims_of" "rims_of" hU f fd)(B:Bt mg):FnOk P w K mg base aR 1 f fd ["piece"] k8:=by
 refine F.ok Nh (fun vs H Q E h=>?_) (fun cdv A outer s H vs Q E hr h=>?_)
 ·obtain⟨a,ps,rfl,_⟩:=h;rfl
 ·obtain⟨a,ps,rfl,ha,j,k⟩:=h
  refine⟨_,zd (zU (zn eW (zw zp rfl B.len ei (ae (pv 0) ap)) zf (aK _)) (zg (zm (zr ap))) zq)
   (zg (zm (zt ["piece"] ["k","piece"] [none,some 0] (mN rfl B.range (ae (zw zp rfl B.len ei (ae (pv 0) ap)) ap)) (fun e C s₀ H₀ ex=>zi (i:=0) (cO ["k","piece"]) rfl (Or.inl rfl)) (fun e C s₀ H₀ ex=>zM)
    (fun e C s₀ H₀ ex=>zu G0 (ss Ht (pv 1) sh (sj (pv 0))) (ss Ht (pv 1) (sj (zu dn (pv 0) zf)) sh)) (hfr:=cw (ze hU) δ) (te:=qj)))),?_⟩
  refine⟨_,rfl,a,_,rfl,.inr (SqT.of ha),rfl,_,rfl,?_⟩;rw[Ab]
  by_cases h1:ps.length=1
  ·rw[show decide (V.int (ps.length:Int)=V.int 1)=true from decide_eq_true (by rw[h1];rfl)]
   refine bu ⟨aq (by simp),fun D c=>k D _ [] (Same.new c) c al ?_⟩;unfold rims;rw[if_pos h1];exact .nil
  ·rw[show decide (V.int (ps.length:Int)=V.int 1)=false from decide_eq_false fun z=>h1 (by injection z with z;(first|lia|omega))]
   refine a9 ⟨_,rfl,a,_,rfl,.inr (SqT.of ha),_,rfl,by rw[Ab];(first|lia|omega),by rw[Ab];(first|lia|omega),fun D c=>?_⟩;rw[Ab];refine zB (Ng ha j c fun l bs g d hb=>k D l bs g c d ?_);unfold rims;rw[if_neg h1];exact hb
def ql(seq:Ξ)(p:List Int):(valV (cg seq) (p.map Sum.inl)).isSome=decide (p∈seq):=by
 rw[<-su,Bool.eq_iff_iff,List.any_eq_true,decide_eq_true_eq];unfold cg;constructor
 ·rintro⟨kv,hm,e⟩
  obtain⟨q,hq,rfl⟩:=List.mem_map.mp hm;have e':=of_decide_eq_true e;have:q=p:=(List.map_inj_right (f:=(Sum.inl:Int->Key)) (fun x y h=>Sum.inl.inj h)).mp e';rw[<-this];exact(uo seq q).mp hq
 ·intro h
  exact⟨_,List.mem_map.mpr ⟨p,(uo seq p).mpr h,rfl⟩,by simp⟩
def Ni{H2:Hp}{L d D:Addr}{as:List Addr}{kn seq:Ξ}{Q:VK}(r:SqL K H2 L (as.map V.ref))(ht:Tps H2 as kn)(hd:H2 d=some (.dT (cg seq)))(hz:kn.length<=1000)(h:H2 D=none)(k:∀(c:Hp)(bs:List Addr),Same H2 c->c D=some (.lst (bs.map V.ref))->Tps c bs (kn.filter fun p=>!decide (p∈seq))->Q (.ref D) c):c7 (eI K L) (cV 0) (tB (sE (aM 0) (aM 1))) (aM 0) [none,some (.ref d)] H2 D Q:=by
 have l:=ht.length;refine z0 (xs:=as.map V.ref) (fun j σ ys c=>∃(v:Option V)(bs:List Addr),σ=[v,some (.ref d)]/\Same H2 c/\c D=some (.lst ys)/\ys=bs.map V.ref/\Tps c bs ((kn.take j).filter fun p=>!decide (p∈seq))) ?_ ?_ ?_ ?_
 ·exact⟨none,[],rfl,Same.new h,al,rfl,.nil⟩
 ·rintro j σ ys c ⟨v,bs,rfl,e,a,rfl,_⟩
  exact e.seq r
 ·rintro j σ ys c x hx g hy ⟨v,bs,rfl,e,a,rfl,hb⟩
  obtain⟨o,i,rfl⟩:=zQ hx;obtain⟨p,ep,hp⟩:=ht.get i;have q:(as.map V.ref).length<=sizeLine:=by rw[Ab];exact aq ω
  refine⟨_,rfl,_,rfl,d,_,rfl,DGet.t (k:=p.map Sum.inl) (e _ _ hd) (by rw[AC];exact e.tp hp),_,rfl,?_⟩;rw[ql]
  by_cases f:p∈seq
  ·rw[decide_eq_true f]
   refine a9 (e_ g hy ⟨_,bs,rfl,e,a,rfl,?_⟩);rw[AI ep,List.filter_append,List.filter_cons_of_neg (by rw[decide_eq_true f];decide),List.filter_nil,AT];exact hb
  ·rw[decide_eq_false f]
   refine bu ⟨_,rfl,ci q g hy a ⟨_,bs++[o],rfl,e.then h,al,by rw[Ah];rfl,?_⟩⟩;rw[AI ep,List.filter_append,List.filter_cons_of_pos (by rw[decide_eq_false f];rfl),List.filter_nil];exact Tps.upd (Tps.snoc hb (e.tp hp)) a (by intro xs z;cases z)
 ·rintro σ ys c ⟨v,bs,rfl,e,a,rfl,hb⟩
  rw[Ab,l,Au (Ag _)] at hb;exact k c bs e a hb
def HN{m:Nat}:∀{b:Ξ},(∀ps∈b,(rims ps).length<=m)->(b.flatMap rims).length<=m*b.length
 |[],_=>by simp
 |p::r,h=>by
  have h1:=h p Ar;have h2:=HN (b:=r) fun q hq=>h q (At _ hq);rw[List.flatMap_cons,Af,Am,Nat.mul_succ];(first|lia|omega)
def HP(K:Ac):Sp:=fun vs H Q _=>∃l as kn,vs=[.ref l]/\SqL K H l (as.map V.ref)/\Tps H as kn/\(∀p∈kn,p.length<=5)/\kn.length<1000/\∀D H2,Same H H2->Q (.ref D) H2
def vr:zl ["every","covered","piece","rim"] ["every"] (ze vp):=⟨rfl,rfl,rfl,δ,rfl,δ,δ⟩
def Nj{f fr T fk:Addr}{fd U W cU:FuncData}(F:Fun K "greatest_of" "greatest_of" vp f fd)(B:Bt mg)(Fr:Fun K "rims_of" "rims_of" hU fr U)(br:Binds K U ["piece"] [])(mr:mg "rims_of"=some (.ref fr))(Fo:Fun K "in_order" "in_order" kF T W)(bo:Binds K W ["some"] [])(mo:mg "in_order"=some (.ref T))(Fk:Fun K "order_key" "order_key" eC fk cU)(bk:Binds K cU ["piece"] [])(mk:mg "order_key"=some (.ref fk)):FnOk P w K mg base aR 5 f fd ["every"] (HP K):=by
 have Gr:FnOk P w K mg base aR 1 fr U ["piece"] k8:=n3 Fr B;have Go:FnOk P w K mg base aR 4 T W ["some"] (uN K):=Es Fo B Fk bk mk;refine F.ok vr (fun vs H Q E h=>?_) (fun cdv A outer s H vs Q E hr h=>?_)
 ·obtain⟨l,as,kn,rfl,_⟩:=h;rfl
 ·obtain⟨l,as,kn,rfl,J,ht,Z,bE,k⟩:=h
  have hu:=fZ hr;have S:Room 1 _:=hr.mono ξ;refine⟨_,zd (zk (i:=1) vr.nd rfl (Or.inr rfl) zX)
   (zd (zV AE rfl (zv (pv 0)) (zi (i:=2) vr.nd rfl (Or.inl rfl))
    (zg (zV AE rfl (zv (zo Gr S rfl mr Fr.kp br .nil aF (ae (pv 2) ap))) (zi (i:=3) vr.nd rfl (Or.inl rfl))
     (zg (fA hu (pv 1) (pv 3) ej rfl)))))
   (zg (zm (zo Go hr rfl mo Fo.kp bo .nil aF (ae (zt ["every","covered","piece","rim"] ["piece","covered"] [none,some 1] (zv (pv 0)) (fun X C s₀ H₀ ex=>zi (i:=0) (cO ["piece","covered"]) rfl (Or.inl rfl))
    (fun X C s₀ H₀ ex=>pN (rE (DA hu (pv 0) (pv 1)) (by with_unfolding_all rfl))) (fun X C s₀ H₀ ex=>pv 0) (hfr:=cw (ze vp) δ) (tc:=tB (sE (aM 0) (aM 1)))) ap))))),?_⟩
  intro d hd;have aJ:=ht.length;refine⟨_,rfl,l,rfl,⟨_,(Same.new hd).seq J⟩,zK (K:=K) (a:=l) (xs:=as.map V.ref) (fun i σ H2=>∃(v o:Option V),σ=[some (.ref l),some (.ref d),v,o]/\Same H H2/\H2 d=some (.dT (cg ((kn.take i).flatMap rims))))
   ⟨none,none,rfl,Same.new hd,al⟩ (fun i σ H2 _ ⟨_,_,_,e,_⟩=>e.seq J) ?_ ?_⟩
  ·rintro i x σ H2 hx ⟨v,o,rfl,e,u⟩
   obtain⟨a,ea,rfl⟩:=zQ hx;obtain⟨ps,N,bS⟩:=ht.get ea;have dy:=Z ps (An N);have hi:i<kn.length:=(List.getElem?_eq_some_iff.mp N).1;refine⟨_,rfl,a,ps,rfl,e.tp bS,dy,fun D H3 L p bU I Y=>⟨D,rfl,⟨_,SqL.of I⟩,?_⟩⟩;have lD:=Y.length;have nX:D≠d:=dg I (p _ _ u) (by intro z;cases z);refine zK (K:=K) (a:=D) (xs:=L.map V.ref) (fun j σ g=>∃(o:Option V),σ=[some (.ref l),some (.ref d),some (.ref a),o]/\Same H g/\g D=some (.lst (L.map V.ref))/\Tps g L (rims ps)/\g d=some (.dT (cg ((kn.take i).flatMap rims++(rims ps).take j))))
    ⟨_,rfl,e.trans p,I,Y,by rw[List.take_zero,AT];exact p _ _ u⟩ (fun j σ g _ ⟨_,_,_,q,_⟩=>SqL.of q) ?_ ?_
   ·rintro j x σ g hx ⟨o,rfl,r,M,O,y⟩
    obtain⟨c,ec,rfl⟩:=zQ hx;obtain⟨f,ef,hf⟩:=O.get ec;have G:(cg ((kn.take i).flatMap rims++(rims ps).take j)).length<sizeLine:=by
     refine zH (AB (iE _) ?_);rw[Af];have h1:=HN (m:=5) (b:=kn.take i) (fun q hq=>AB (gd q) (Z q (List.mem_of_mem_take hq)));have h2:=gd ps;rw[Av] at h1 ⊢;(first|lia|omega)
    refine⟨_,rfl,_,rfl,d,_,rfl,DPut.t (k:=f.map Sum.inl) y (by rw[AC];exact hf) G,⟨_,rfl,r.then hd,?_,?_,?_⟩⟩
    ·rw[au nX];exact M
    ·exact Tps.upd O y (by intro xs z;cases z)
    ·rw[al,iF,AG,<-AI ef]
   ·rintro σ g ⟨o,rfl,r,M,O,y⟩
    refine⟨_,_,rfl,r,?_⟩;rw[Ab,lD,take_all] at y;rw[AI N,List.flatMap_append,List.flatMap_singleton];exact y
  ·rintro σ H2 ⟨v,o,rfl,e,u⟩
   rw[Ab,aJ,take_all] at u;refine⟨_,rfl,l,rfl,⟨_,e.seq J⟩,fun yf cJ=>zB (Ni (e.seq J) (e.tps ht) u ω cJ fun H3 bs p xG hb=>?_)⟩;exact⟨yf,bs,_,rfl,SqL.of xG,hb,Nat.lt_of_le_of_lt (List.length_filter_le _ _) bE,fun D g qs r I M hp hs=>k D g ((e.trans p).trans r)⟩
end
end K51
end
section
namespace Dk
open PySem PySem.Spec PyProof.Rows
end Dk
namespace L2
open PySem PySem.Spec PyProof.Rows
section
variable{X:Cx}
def HQ{H:Hp}:∀{l:List (List Key×V)}{m:List (List Key×Addr×Value)}{i:Nat}{kv:List Key×V},KT H l m->l[i]?=some kv->∃w,m[i]?=some w/\kv.1=w.1/\RelV kv.2 w.2.2
 |_,_,0,_,.cons h _,e=>by cases e;exact⟨_,rfl,h.1,h.2.2⟩
 |_,_,i+1,_,.cons _ t,e=>HQ (i:=i) t (by simpa using e)
end
end L2
end
section
namespace L2
open PySem PySem.Spec PyProof.Rows
section
variable{X:Cx}
def qm(d:Addr)(o:Obj)(kvs:List (List Key×V)):It:=⟨fun i H=>i<kvs.length/\H d=some (.frz o (.dT kvs)),fun i H v H'=>H'=H/\∃kv b,kvs[i]?=some kv/\v=.ref b/\H b=some (.tup (kv.1.map kV)),fun i H=>i=kvs.length/\H d=some (.frz o (.dT kvs))⟩
def kt_at{H:Hp}:∀{l:List (List Key×V)}{m:List (List Key×Addr×Value)}{i:Nat}{kv:List Key×V},KT H l m->l[i]?=some kv->∃w,m[i]?=some w/\H w.2.1=some (.tup (kv.1.map kV))
 |_,_,0,_,.cons h _,e=>by cases e;exact⟨_,rfl,h.2.1⟩
 |_,_,i+1,_,.cons _ t,e=>kt_at (i:=i) t (by simpa using e)
def Nk{P:Program}{w:World}{K:Ac}{tg:Expr}(d it:Addr){o:Obj}{kvs:List (List Key×V)}{es:Array DictEntry}{ep:Nat}(hx:o.ExactDict)(r:o.data=.dict es ep)(hsz:es.size=kvs.length):Turn P w K tg (qm d o kvs) [it] it (fun i h=>h.IsKeyIter it d i es.size ep) where
 mem:=by simp
 obj:=fun i h st b hb=>by
  have e:b=it:=by simpa using hb
  subst e;obtain⟨o,e,c,dd⟩:=st;exact⟨o,e,fun v z=>by rw[dd] at z;cases z⟩
 keep:=fun i h h' st k=>by
  obtain⟨o,e,c⟩:=st;exact⟨o,k it (by simp) o e,c⟩
 item:=by
  intro X f hw g hc i aa s σ H E I hf st j;subst f hw g;obtain⟨f0,f1,f2,f3,f4,f5⟩:=hf it (by simp);obtain⟨hi,l⟩:=j;obtain⟨x,z,hs,ys,p,o',O,S,h1,h2,G,J,T⟩:=(show zT X.prog X.w H s.heap d (.frz o (.dT kvs)) from I.hok d _ l);obtain rfl:o=o':=As (x.symm.trans h1);have q:=r.symm.trans G;injection q with q hep
  subst q;have hm:Dk.IsD s.heap d es ep:=⟨o,x,hx,r⟩;have a:i<es.size:=by rw[hsz];exact hi
  refine Dk.item st hm a fun h' u D=>?_;have N:Inv X aa σ H {s with heap:=h'}:=I.turned (t':=s.toks) (fun b o hb e=>(D.2 b hb).trans e) f0 f1 f3 f4 f5;obtain⟨U,e1,e2,e3⟩:=id u;have C:kvs[i]?=some kvs[i]:=Aj hi;obtain⟨y,L,hb⟩:=kt_at p C;have g3:es.toList[i]?=some es[i]:=by simp[a]
  rw[J,Ao,L] at g3;simp only[Option.map_some,Option.some.injEq] at g3;have M:es[i].key=.ref y.2.1:=by rw[<-g3];rfl
  exact⟨_,rfl,mJ (s:={s with heap:=h'}) e1 e2 e3 ξ ⟨.ref y.2.1,H,N,by rw[M];rfl,⟨rfl,_,_,C,rfl,hb⟩,u,fun b hb=>(hf b hb).1⟩⟩
 done:=by
  intro X f hw g hc i aa s σ H E I hf st j;subst f hw g;obtain⟨f0,f1,f2,f3,f4,f5⟩:=hf it (by simp);obtain⟨hi,l⟩:=j;have hm:Dk.IsD s.heap d es ep:=⟨o,(show zT X.prog X.w H s.heap d (.frz o (.dT kvs)) from I.hok d _ l).1,hx,r⟩;have a:i=es.size:=by rw[hsz];exact hi
  subst a;exact Dk.done (I.ok.hd hc) st hm fun h' F=>⟨rfl,I.turned (t':=s.toks) (fun b o hb e=>F b o hb e) f0 f1 f3 f4 f5⟩
 self:=fun A i s Q E st h=>wpAny_pyIter_keyiter st h
def Nl(te:TE):TI:=fun σ H R=>te σ H fun x H1=>∃d kvs,x=.ref d/\Rd H1 d (.dT kvs)/\∀o H2,H2 d=some (.frz o (.dT kvs))->(∀b,b≠d->H2 b=H1 b)->R (qm d o kvs) H2
def Nm{tg l:Expr}{tl:TE}(D:PE X l tl):PI X tg l (Nl tl):=by
 intro aa s σ H R I h;refine aX (D aa s σ H _ I h) fun v a ⟨x,H1,I1,r,q1⟩=>?_;obtain⟨d,kvs,e,hd,q⟩:=q1;subst e;cases r;have go:∀(o:Obj)(H2:Hp),Inv X aa σ H2 a->H2 d=some (.frz o (.dT kvs))->(∀b,b≠d->H2 b=H1 b)->wpAny (model X.prog X.w) X.A (pyIter (.ref d)) (yG X aa σ tg R) X.xe a:=by
  intro o H2 I2 j u;obtain⟨C,z,hs,ys,c,o',es,ep,h1,h2,f,i,p⟩:=(show zT X.prog X.w H2 a.heap d (.frz o (.dT kvs)) from I2.hok d _ j);obtain rfl:o=o':=As (C.symm.trans h1);have hsz:es.size=kvs.length:=by
   have:=congrArg List.length i;rw[Ab,<-A1 c] at this
   simpa using this
  have hm:Dk.IsD a.heap d es ep:=⟨o,h1,h2,f⟩;refine Dk.iter hs hm ?_;have hfr:H2 a⁻¹=none:=I2.hok.fresh (Ag _);refine⟨a⁻¹,[a⁻¹],_,_,_,rfl,I2.kept (t':=a.toks) fun b o e=>Ae _ e,Nk d _ h2 f hsz,⟨_,Aq _ rfl,rfl,rfl⟩,fun b hb=>?_,q o H2 j u⟩;have e:b=a⁻¹:=by simpa using hb
  subst e;exact I2.fpOk (Ag _) hfr
 rcases hd with hd|⟨o,hd⟩
 ·obtain⟨z,hs,ys,c,o,es,ep,h1,h2,f,i,p⟩:=(show zT X.prog X.w H1 a.heap d (.dT kvs) from I1.hok d _ hd)
  have g:KT (upd H1 d (.frz o (.dT kvs))) kvs ys:=KT.keeps c fun b zs e=>by rw[au (fun y=>by rw[y,hd] at e;cases e)];exact e
  exact go o (upd H1 d (.frz o (.dT kvs))) (mZ (ob:=.frz o (.dT kvs)) (t':=a.toks) I1 (by rw[hd];exact True.intro) (Heap.SameBut.refl _ _) ⟨o,h1⟩ ⟨h1,z,hs,ys,g,o,es,ep,h1,h2,f,i,p⟩) al fun b hb=>au hb
 ·exact go o H1 I1 hd fun _ _=>rfl
def No{d:Addr}{o:Obj}{kvs:List (List Key×V)}{g:TG}{tb:TS}{D:Ends}{σ:St}{H:Hp}(a:Nat->St->Hp->Prop)(s:a 0 σ H)(u:∀i σ H,i<=kvs.length->a i σ H->H d=some (.frz o (.dT kvs)))(hs:∀i kv b σ H,kvs[i]?=some kv->H b=some (.tup (kv.1.map kV))->a i σ H->g (.ref b) σ H fun f H2=>tb {D with nx:=a (i+1),ct:=a (i+1),bk:=D.nx} f H2)(hd:∀σ H,a kvs.length σ H->D.nx σ H):∃W:Nat->Nat->St->Hp->Prop,(∃m,W 0 m σ H)/\∀i m σ H,W i m σ H->
   ((qm d o kvs).stop i H/\D.nx σ H)\/((qm d o kvs).go i H/\∃N:St->Hp->Prop,(∀h H',N h H'->∃j,j<m/\W (i+1) j h H')/\∀x H',(qm d o kvs).yld i H x H'->g x σ H' fun f H2=>tb {D with nx:=N,ct:=N,bk:=D.nx} f H2):=by
 refine⟨fun i m σ H=>m=kvs.length-i/\i<=kvs.length/\a i σ H,⟨kvs.length,by simp,AY _,s⟩,?_⟩;rintro i m σ H ⟨rfl,hi,p⟩;have q:=u i σ H hi p
 by_cases c:i<kvs.length
 ·refine .inr ⟨⟨c,q⟩,a (i+1),fun h H' l=>⟨kvs.length-(i+1),ω,rfl,c,l⟩,fun x H' y=>?_⟩
  obtain⟨e,kv,b,r,rfl,hb⟩:=y;subst e;exact hs i kv b σ _ r hb p
 ·have:i=kvs.length:=ω
  subst this;exact .inl ⟨⟨rfl,q⟩,hd σ H p⟩
end
end L2
end
section
namespace Dk
open PySem PySem.Spec PyProof.Rows
def II(h:Heap)(it d:Addr)(i n ep:Nat):Prop:=∃(f0:Value)(b:Bool)(k v:Value),(f0=.none\/∃a:Addr,f0=rawInt a)/\
 h.get? it=some {cls:=.type "dict_itemiterator",dict:=none,data:=.fields #[f0,.bool b,.ref d,.int i 0,.int n 0,.int ep 0,k,v],slots:=#[]}
def II.at{h h':Heap}{it d:Addr}{i n ep:Nat}(x:II h it d i n ep)(k:∀o,h.get? it=some o->h'.get? it=some o):II h' it d i n ep:=by
 obtain⟨f0,b,k0,a,hf,e⟩:=x;exact⟨f0,b,k0,a,hf,k _ e⟩
section
variable{prog:Program}{w:World}{A:Around}{E:Ω}{s:Shared}{it d v:Addr}{i ep:Nat}{es:Array DictEntry}
def Np{a:Addr}{Q:Option Obj->Shared->Prop}(h:Q (s.heap.get? a) s):wpAny (model prog w) A (loadIfAlive a) Q E s:=fun _ _ _=>h
def qo{Q:Ω}(a:s.heap.IsItemsView v d)(hm:IsD s.heap d es ep)(i:Q (.ref s⁻¹) {s with heap:=s.heap.push {cls:=.type "dict_itemiterator",data:=.fields #[.none,.bool false,.ref d,.int 0 0,.int es.size 0,.int ep 0,.none,.none]}}):wpAny (model prog w) A (pyIter (.ref v)) Q E s:=by
 obtain⟨j,f,l,g⟩:=id a;obtain⟨o,c,hc,e⟩:=id hm;refine wpAny_pyIter_slot a.typeIs PySem.F.slot_dict_items_iter (A8 PySem.F.slot_dict_items_iter a.typeIs PySem.F.entry_dict_items_iter ?_ (PySem.F.args_dict_items_iter_1 _));unfold Builtin.«dict_items.__iter__»;refine Aa (Ad ?_);refine Aa ?_;unfold Builtin.Dict_items.dictOf;refine Aa (AR f g (x:=.ref d) rfl (Ad ?_));refine Aa ?_;unfold Builtin.Dict_items.newIterator;refine Aa (wpAny_dictEntries c e ?_);refine Aa (wpAny_dictEpoch c e ?_);have h:Builtin.Dict_items.ownsTuple "dict_itemiterator"=true:=ξ
 simp only[h,if_true];refine AW (Ad ⟨_,rfl,"dict_itemiterator",_,⟨_,Aq _ rfl,rfl⟩,PySem.F.slot_dict_itemiterator_next.lookup,?_⟩)
  (by simp only[sizeOk,Builtin.Dict_items.ownedTupleFields,Ai,Af,Am,List.length_nil,sizeLine_eq];(first|lia|omega))
 simpa[rawInt,Builtin.Dict_items.ownedTupleFields] using i
def qt{Q:Option Value->Shared->Prop}(u:II s.heap it d i es.size ep)(hm:IsD s.heap d es ep)(hx:i<es.size)(H:∀h',II h' it d (i+1) es.size ep->h'.get? s⁻¹=some {cls:=.type "tuple",data:=.seq #[es[i].key,es[i].val]}->
   (∀b o,b≠it->s.heap.get? b=some o->h'.get? b=some o)->Q (some (.ref s⁻¹)) {s with heap:=h'}):wpAny (model prog w) A (pyNext (.ref it)) Q E s:=by
 obtain⟨hp,g,q,tk,os⟩:=s;obtain⟨f0,P,ok,S,rQ,u⟩:=u;obtain⟨od,Y,bY,Z⟩:=id hm;have r:Shared.TypeIs ⟨hp,g,q,tk,os⟩ (.ref it) "dict_itemiterator":=⟨_,u,rfl⟩;unfold pyNext;refine Aa (wpAny_attempt (wpAny_callSpecial?_slot (name:=Str.ofString "__next__") r PySem.F.slot_dict_itemiterator_next
  (A8 PySem.F.slot_dict_itemiterator_next r PySem.F.entry_dict_itemiterator_next ?_ (PySem.F.args_dict_itemiterator_next_1 _))))
 refine Aa (Ad ?_);refine Aa ?_;refine Aa ?_
 first|refine Aa (wpAny_typeNameOfWhole_itemiter r (Ad ?_))|refine Aa (wpAny_typeNameOf_itemiter r (Ad ?_))
 refine Aa (wpAny_fieldsOf u rfl ?_);have cm:Builtin.Dict_items.ownsTuple "dict_itemiterator"=true:=ξ
 simp only[cm,if_true];show wpAny _ _ (if(Value.ref d==Value.none)=true then _ else _) _ _ _;rw[if_neg (show ¬((Value.ref d==Value.none)=true) from Ak)];refine Aa (Ad ?_);refine Aa (wpAny_dictEntries Y Z ?_);rw[if_neg (by simp)];refine Aa (Ad ?_);refine Aa (wpAny_dictEpoch Y Z ?_);rw[if_neg (by simp)];refine Ad ?_;simp only[show ¬((i:Int)<0) from ω,if_false,Int.toNat_natCast,Array.getElem?_eq_getElem hx];refine Aa ?_
 first|refine Aa (wpAny_typeNameOfWhole_itemiter r (Ad ?_))|refine Aa (wpAny_typeNameOf_itemiter r (Ad ?_))
 refine Aa (wpAny_isOneOf_itemiter r ?_);show wpAny _ _ (setField (.ref it) 3 (rawInt ((i:Int)+1)) >>= _) _ _ ⟨hp,g,q,tk,os⟩;refine Aa (A2 u (by simp) fun l v y=>?_);replace y:AS it hp l:=y;replace v:l.get? it=some {cls:=.type "dict_itemiterator",dict:=none,data:=.fields #[f0,.bool P,.ref d,.int ((i+1:Nat):Int) 0,.int es.size 0,.int ep 0,ok,S],slots:=#[]}:=by
  have e:((i+1:Nat):Int)=(i:Int)+1:=ω
  rw[e];simpa[rawInt] using v
 have f:Shared.TypeIs ⟨l,g,q,tk,os⟩ (.ref it) "dict_itemiterator":=⟨_,v,rfl⟩;refine Aa (A0 ?_);refine Aa (wpAny_isOneOf_itemiter f ?_);refine Aa (wpAny_isOneOf_itemiter f ?_);show wpAny _ _ (Builtin.Dict_items.pairFromOwner (.ref it) 6 es[i].key es[i].val) _ _ ⟨l,g,q,tk,os⟩;unfold Builtin.Dict_items.pairFromOwner;refine Aa (wpAny_newTuple ?_);have p:(l.push {cls:=.type "tuple",data:=.seq #[es[i].key,es[i].val]}).get? it=some {cls:=.type "dict_itemiterator",dict:=none,data:=.fields #[f0,.bool P,.ref d,.int ((i+1:Nat):Int) 0,.int es.size 0,.int ep 0,ok,S],slots:=#[]}:=Ae _ v;generalize hh₂:l.push {cls:=.type "tuple",data:=.seq #[es[i].key,es[i].val]}=bK at p;have T:l.objs.size=hp.objs.size:=y.1;have j:it<hp.objs.size:=Ap u;have U:bK.get? hp.objs.size=some {cls:=.type "tuple",data:=.seq #[es[i].key,es[i].val]}:=by rw[<-hh₂,<-T];exact Aq _ rfl
 have h:∀b o,b≠it->hp.get? b=some o->bK.get? b=some o:=fun b o hb e=>by rw[<-hh₂];exact Ae _ (y.extBut b o hb e)
 show wpAny _ _ (Builtin.Dict_items.ownedTupleIsFree (.ref it) >>= _) _ _ ⟨bK,g,q,tk,os⟩;rw[T];clear hh₂ v y f T l;have free:∀(E':Ω)(R:Ω),(∀h',II h' it d (i+1) es.size ep->h'.get? hp.objs.size=some {cls:=.type "tuple",data:=.seq #[es[i].key,es[i].val]}->
   (∀b o,b≠it->hp.get? b=some o->h'.get? b=some o)->R (.ref hp.objs.size) ⟨h',g,q,tk,os⟩)->wpAny (model prog w) A.in1 (do
    let fQ:=[<-field (.ref it) 6,<-field (.ref it) (6+1)]
    setField (.ref it) 6 es[i].key;setField (.ref it) (6+1) es[i].val
    setField (.ref it) 0 (rawInt hp.objs.size);setField (.ref it) 1 (.bool false)
    letGo fQ [.ref hp.objs.size]
    return .ref hp.objs.size) R E' ⟨bK,g,q,tk,os⟩:=by
  intro E' R hR;refine Aa (AR p rfl (x:=ok) rfl ?_);refine Aa (AR p rfl (x:=S) rfl ?_);refine Aa (A2 p (by simp) fun z I c=>?_);replace c:AS it bK z:=c;refine Aa (A2 I (by simp) fun W kK C=>?_);replace C:AS it z W:=C;refine Aa (A2 kK (by simp) fun X lO D=>?_);replace D:AS it W X:=D;refine Aa (A2 lO (by simp) fun J L G=>?_);replace G:AS it X J:=G;replace L:J.get? it=some {cls:=.type "dict_itemiterator",dict:=none,data:=.fields #[rawInt hp.objs.size,.bool false,.ref d,.int ((i+1:Nat):Int) 0,.int es.size 0,.int ep 0,es[i].key,es[i].val],slots:=#[]}:=L;refine Aa (wpAny_letGo (Ad (hR J ⟨_,_,_,_,.inr ⟨_,rfl⟩,L⟩ ?_ ?_)))
  ·exact G.extBut _ _ (Nat.ne_of_gt j) (D.extBut _ _ (Nat.ne_of_gt j) (C.extBut _ _ (Nat.ne_of_gt j) (c.extBut _ _ (Nat.ne_of_gt j) U)))
  ·exact fun b o hb e=>G.extBut b o hb (D.extBut b o hb (C.extBut b o hb (c.extBut b o hb (h b o hb e))))
 refine Aa ?_;unfold Builtin.Dict_items.ownedTupleIsFree;refine Aa (AR p rfl (x:=f0) rfl ?_);rcases rQ with rfl|⟨a,rfl⟩
 ·refine Ad ?_
  simp only[if_true];exact free _ _ fun h' M N O=>Ad ⟨_,rfl,Ad (H h' M N O)⟩
 ·dsimp only[rawInt]
  refine Aa (Np ?_);cases hal:bK.get? ((a:Int)).toNat with
  |none=>
   simp only[Option.isNone_none,if_true];refine Ad ?_;simp only[if_true];exact free _ _ fun h' M N O=>Ad ⟨_,rfl,Ad (H h' M N O)⟩
  |some oa=>
   simp only[Option.isNone_some,Al,if_false];refine Aa (AR p rfl (x:=.bool P) rfl ?_);refine wpAny_ite_split (fun _=>?_) (fun _=>?_)
   ·refine Aa (A2 p (by simp) fun z I c=>?_)
    replace c:AS it bK z:=c;refine Ad ?_;simp only[Al,if_false];refine Ad (Ad ⟨_,rfl,Ad (H z ⟨_,_,_,_,.inr ⟨a,rfl⟩,I⟩ ?_ ?_)⟩)
    ·exact c.extBut _ _ (Nat.ne_of_gt j) U
    ·exact fun b o hb e=>c.extBut b o hb (h b o hb e)
   ·refine Ad ?_
    simp only[Al,if_false];exact Ad (Ad ⟨_,rfl,Ad (H bK ⟨_,_,_,_,.inr ⟨a,rfl⟩,p⟩ U h)⟩)
def EF{Q:Option Value->Shared->Prop}(i:A.handled=none)(e:II s.heap it d es.size es.size ep)(hm:IsD s.heap d es ep)(j:∀h',Heap.ExtBut it s.heap h'->Q none {s with heap:=h'}):wpAny (model prog w) A (pyNext (.ref it)) Q E s:=by
 obtain⟨f0,l,ok,o,p,e⟩:=e;obtain⟨q,f,r,g⟩:=id hm;have c:s.TypeIs (.ref it) "dict_itemiterator":=⟨_,e,rfl⟩;unfold pyNext;refine Aa (wpAny_attempt (wpAny_callSpecial?_slot (name:=Str.ofString "__next__") c PySem.F.slot_dict_itemiterator_next
  (A8 PySem.F.slot_dict_itemiterator_next c PySem.F.entry_dict_itemiterator_next ?_ (PySem.F.args_dict_itemiterator_next_1 _))))
 refine Aa (Ad ?_);refine Aa ?_;refine Aa ?_
 first|refine Aa (wpAny_typeNameOfWhole_itemiter c (Ad ?_))|refine Aa (wpAny_typeNameOf_itemiter c (Ad ?_))
 refine Aa (wpAny_fieldsOf e rfl ?_);have h:Builtin.Dict_items.ownsTuple "dict_itemiterator"=true:=ξ
 simp only[h,if_true];show wpAny _ _ (if(Value.ref d==Value.none)=true then _ else _) _ _ s;rw[if_neg (show ¬((Value.ref d==Value.none)=true) from Ak)];refine Aa (Ad ?_);refine Aa (wpAny_dictEntries f g ?_);rw[if_neg (by simp)];refine Aa (Ad ?_);refine Aa (wpAny_dictEpoch f g ?_);rw[if_neg (by simp)];refine Ad ?_;simp only[show ¬((es.size:Int)<0) from ω,if_false,Int.toNat_natCast,Array.getElem?_eq_none (Ag es.size)];refine Aa ?_
 first|refine Aa (wpAny_typeNameOfWhole_itemiter c (Ad ?_))|refine Aa (wpAny_typeNameOf_itemiter c (Ad ?_))
 show wpAny _ _ (setField (.ref it) 2 .none >>= _) _ _ s;refine Aa (wpAny_setField e rfl (by simp) ?_);show wpAny _ _ (newExc (.type "StopIteration") [] >>= _) _ _ _;refine Aa ?_;simp only[newExc,newTuple];refine Aa (AW ?_ (by size_fits));refine Aa (m:=firstArgMember _ _) (wpAny_of_eq (a:=Value.none) (by first|rfl|(simp only[firstArgMember];rfl)) ?_);refine AW ?_ (by size_fits);simp only[raiseNew];refine Aa (wpAny_handled ?_);rw[show A.in1.handled=none from i];refine Aa (Ad (wpAny_throw ?_));refine Aa (wpAny_isInstance (T:="StopIteration") (b:=true) ⟨_,Aq _ rfl,rfl⟩ isSubtype_stop ?_);exact Ad (j _ (((AX ..).extBut.push _).push _))
end
end Dk
end
section
namespace Dk
open PySem PySem.Spec PyProof.Rows
end Dk
namespace L2
open PySem PySem.Spec PyProof.Rows
section
variable{X:Cx}
def qu(v d:Addr):HO:=.ext fun h=>h.IsItemsView v d
def zhv:V->List V->Hp->VK->Prop:=fun x vs H Q=>∃d kvs,x=.ref d/\vs=[]/\Rd H d (.dT kvs)/\∀v,H v=none->Q (.ref v) (upd H v (qu v d))
def fG:ph X "dict.items" zhv:=by
 intro aa s σ H x vs v us Q I e f h;obtain⟨d,kvs,rfl,rfl,hd,q⟩:=h;cases e;obtain rfl:=f.zero;obtain⟨z,hs,ys,g,o,es,ep,h1,h2,l,r,u⟩:=(show zT X.prog X.w H s.heap d (.dT kvs) from hd.ok I.hok);have a:s.TypeIs (.ref d) "dict":=⟨o,h1,h2.1⟩;have j:MeetsIn X.prog X.w (Builtin.«dict.items» ⟨[.ref d],[]⟩) (fun _ R s=>s.TypeIs (.ref d) "dict"/\R (.ok (.ret (.ref s⁻¹))) {s with heap:=s.heap.push {cls:=.type "dict_items",data:=.fields #[.ref d]}}):=
  .of_wp fun A R s ⟨a,h⟩=>by
   unfold Builtin.«dict.items»;refine Aa ?_;unfold Builtin.Dict.noArgs;refine Aa (wpAny_notOrdered_dict a ?_);show wpAny _ _ (pure d) _ _ s;refine Ad ?_;show wpAny _ _ (Builtin.Dict.showsAll d >>= _) _ _ s;unfold Builtin.Dict.showsAll;rw[if_neg (by rw[hs];exact Ak)];refine Aa (Ad ?_);exact Aa (AW (Ad ⟨_,rfl,h⟩))
 refine call_meetsIn PySem.F.slot_dict_items a PySem.F.entry_dict_items (PySem.F.args_dict_items_1 _) j ⟨a,?_⟩;refine⟨.ref s⁻¹,_,I.laid (t':=s.toks) (o:=qu s⁻¹ d) (fun b ob q=>Ae _ q) (Ag _) ?_,rfl,q _ (I.hok.fresh (Ag _))⟩;refine⟨⟨_,Aq _ rfl,rfl,rfl⟩,⟨_,Aq _ rfl⟩,fun h1 h2 p k=>?_⟩;obtain⟨o,i,c⟩:=p;exact⟨o,k o i,c⟩
def Nq(to:TE):TE:=fun σ H Q=>to σ H fun x H1=>zhv x [] H1 Q
def Nr{o:Expr}{to:TE}{aY ax:Pos}(i:PE X o to)(j:attributeBase o "items" X.env (eval o X.env)=eval o X.env:=by rfl)(l:(aY.endLine==ax.line)=true:=by rfl):PE X (.Call (.Attribute o "items" aY) [] [] ax) (Nq to):=by
 intro aa s σ H Q I h;refine wpAny_Call_method0_late j l (aX (i aa s σ H _ I h) fun v c ⟨x,H1,I1,f,q1⟩=>?_);have g:=q1;obtain⟨d,kvs,rfl,_,hd,_⟩:=q1;cases f;obtain⟨_,_,_,_,ob,_,_,e,ex,_⟩:=(show zT X.prog X.w H1 c.heap d (.dT kvs) from hd.ok I1.hok);exact⟨"dict","dict.items",PySem.F.plainAttrs_dict,PySem.F.slot_dict_items,PySem.F.type_dict_items,⟨ob,e,ex.1⟩,(fun a z=>by cases z;exact⟨ob,e,ex.2.1⟩),Calls.callWith_builtin rfl (PySem.evalArgs_none (fG aa c σ H1 (.ref d) [] (.ref d) [] Q I1 rfl .nil g))⟩
end
end L2
end
section
namespace Dk
open PySem
section
variable{prog:Program}{w:World}{K:Type}[DecidableEq K]{knd:HeapKind prog w K}{A:Around}{E:Ω}{s:Shared}
def Nt{d a:Addr}{xs:List (K×Addr×Value)}{k:K}{v:Value}{Q:Ω}(hu:knd.room A)(i:knd.is s.heap k a)(hm:s.heap.DictOfH knd d xs)(h1:∀p,atKey xs k=some p->Q p.2 {s with toks:=s.toks+knd.draws k})(h2:atKey xs k=none->∀h',h'.DictOfH knd d (storedH xs k a v)->AS d s.heap h'->Q v {s with heap:=h',toks:=s.toks+knd.draws k})(hsz:xs.length<=sizeLine:=by size_fits):wpAny (model prog w) A (dictSetDefault d (.ref a) v) Q E s:=by
 obtain⟨o,es,ep,f,hc,hd,he,q,h⟩:=hm;unfold dictSetDefault
 try with_reducible refine A0 ?_
 refine Aa (knd.pyHash hu i ?_);refine Aa (wpAny_dictFind_heap (s:={s with toks:=s.toks+knd.draws k}) hu i f hd he q h ?_ ?_)
 ·intro c
  have g:k∉xs.map (·.1):=not_mem_keys_of_get c;refine Aa (wpAny_rule (Aa (wpAny_updateDictKeys (hz:=by have e:=size_of_entries he;(first|lia|omega)) (s:={s with toks:=s.toks+knd.draws k}) f hd (Ad (h2 (atKey_none_of_get c) _ ⟨_,_,ep+1,Heap.get?_update_self _ f (Obj.isFreed_of_dict (Obj.data_mapDictKeys hd _)),
   hc.mapDictKeys _,Obj.data_mapDictKeys hd _,?_,?_,?_⟩ (AX ..))))))
  ·rw[storedH_new (atKey_none_of_get c)]
   simp[he,entryOfKey]
  ·rw[storedH_new (atKey_none_of_get c)]
   intro x hx;rcases List.mem_append.mp hx with hx|hx
   ·exact knd.keeps (q x hx) f hd (AX ..)
   ·simp only[List.mem_singleton] at hx
    subst hx;exact knd.keeps i f hd (AX ..)
  ·rw[storedH_new (atKey_none_of_get c)]
   rw[Ah,AM];refine⟨h,by simp,?_⟩;intro x hx y hy;simp only[AF,List.map_nil,List.mem_singleton] at hy;subst hy;exact fun e=>g (e▸hx)
 ·intro j p l
  refine Aa (wpAny_dictEntries (s:={s with toks:=s.toks+knd.draws k}) f hd ?_);rw[entry_at he j,l];exact Aa (wpAny_rule (Ad (h1 p (atKey_of_get h l))))
end
end Dk
namespace L2
open PySem PySem.Spec PyProof.Rows
section
variable{X:Cx}
def znH:V->List V->Hp->VK->Prop:=fun x vs H Q=>∃d kvs k b a,x=.ref d/\vs=[.ref b,a]/\H d=some (.dT kvs)/\H b=some (.tup (k.map kV))/\kvs.length<sizeLine/\
 ((∃v,valV kvs k=some v/\Q v H)\/(valV kvs k=none/\Q a (upd H d (.dT (putK kvs k a)))))
def Nu(hu:X.A.units+1<cLine):ph X "dict.setdefault" znH:=by
 intro aa s σ H x vs v us Q I D E h;obtain⟨d,kvs,k,b,i,rfl,rfl,hd,hb,hz,q⟩:=h;cases D;obtain⟨u,r,rfl,P,y⟩:=E.two;cases(show u=Value.ref b from P);obtain⟨z,hs,xs,a,dd⟩:=Dg I.hok hd;have hx:xs.length<=sizeLine:=by rw[<-A1 a];exact z
 have Z:s.TypeIs (.ref d) "dict":=dd.typeIs;have mm:MeetsIn X.prog X.w (Builtin.«dict.setdefault» ⟨[.ref d,.ref b,r],[]⟩) (fun A R s'=>A.units+1<cLine/\(tupleKind (zy X.prog X.w)).is s'.heap k b/\s'.heap.DictOfH (tupleKind (zy X.prog X.w)) d xs/\
   (∀p,atKey xs k=some p->R (.ok (.ret p.2)) {s' with toks:=s'.toks+(tupleKind (zy X.prog X.w)).draws k})/\
   (atKey xs k=none->∀h',h'.DictOfH (tupleKind (zy X.prog X.w)) d (storedH xs k b r)->AS d s'.heap h'->R (.ok (.ret r)) {s' with heap:=h',toks:=s'.toks+(tupleKind (zy X.prog X.w)).draws k})):=
  .of_wp fun A R s' ⟨G,hk,hm,h1,h2⟩=>by
   unfold Builtin.«dict.setdefault»;refine Aa ?_;unfold Builtin.Dict.keyAndDefault;refine Aa (wpAny_notOrdered_dict hm.typeIs ?_);show wpAny _ _ (pure (d,Value.ref b,some r)) _ _ s';refine Ad ?_;show wpAny _ _ (if(d==sysModules)=true then _ else(dictSetDefault d (.ref b) r >>= _)) _ _ s';rw[if_neg (by rw[hs];exact Ak)];exact Aa (Dk.Nt (knd:=tupleKind (zy X.prog X.w)) (tupleKind_room_in1 G) hk hm (fun p hp=>Ad ⟨p.2,rfl,h1 p hp⟩) (fun f h' J L=>Ad ⟨r,rfl,h2 f h' J L⟩) hx)
 refine call_meetsIn PySem.F.slot_dict_setdefault Z PySem.F.entry_dict_setdefault (PySem.F.args_dict_setdefault_3 _ _ _) mm ⟨hu,iv I.hok hb,dd,fun p hp=>?_,fun f h' M N=>?_⟩
 ·rcases q with ⟨j,e,q⟩|⟨e,_⟩
  ·obtain⟨S,g,T⟩:=RelO.some_of (v:=j) (o:=(atKey xs k).map (·.2)) (by rw[<-e];exact a.val k)
   rw[hp] at g;cases g;exact⟨j,H,I.tok _,T,q⟩
  ·have:=RelO.none_of (o:=(atKey xs k).map (·.2)) (by rw[<-e];exact a.val k)
   rw[hp] at this;cases this
 ·rcases q with ⟨j,e,q⟩|⟨e,q⟩
  ·obtain⟨S,g,_⟩:=RelO.some_of (v:=j) (o:=(atKey xs k).map (·.2)) (by rw[<-e];exact a.val k)
   rw[f] at g;cases g
  ·obtain⟨l,es,ep,hq,h2,U,W,_,Y⟩:=M
   have O:(putK kvs k i).length<=sizeLine:=by have:=sB kvs k i;(first|lia|omega)
   refine⟨i,_,mZ (ob:=.dT (putK kvs k i)) I (by rw[hd];exact True.intro) N ⟨l,hq⟩ ⟨O,hs,_,(a.put k hb y).keeps fun c ys C=>?_,l,es,ep,hq,h2,U,W,Y⟩,y,q⟩;rw[au (dg C hd (fun z=>nomatch z))];exact C
end
end L2
end
section
namespace L2
open PySem PySem.Spec PyProof.Rows
abbrev Pp:Type:=List Int×List Int
def Pr2(H:Hp)(t:Addr)(x:Pp):Prop:=∃a b,H t=some (.tup [.ref a,.ref b])/\Tp H a x.1/\Tp H b x.2
def Prs2(H:Hp)(ts:List Addr)(xs:List Pp):Prop:=Paired (Pr2 H) ts xs
def Pr2.same{H H':Hp}{t:Addr}{x:Pp}(h:Pr2 H t x)(s:Same H H'):Pr2 H' t x:=let ⟨a,b,e,p,q⟩:=h;⟨a,b,s _ _ e,s.tp p,s.tp q⟩
def Prs2.same{H H':Hp}{ts:List Addr}{xs:List Pp}(h:Prs2 H ts xs)(s:Same H H'):Prs2 H' ts xs:=Paired.mapP h fun _ _ q=>q.same s
def Prs2.length{H:Hp}{ts:List Addr}{xs:List Pp}(h:Prs2 H ts xs):ts.length=xs.length:=A1 h
def Pr2.upd{H:Hp}{d t:Addr}{o o':HO}{x:Pp}(h:Pr2 H t x)(hd:H d=some o')(g:∀xs,o'≠.tup xs):Pr2 (L2.upd H d o) t x:=by
 obtain⟨a,b,e,p,q⟩:=h;have go:∀{c:Addr}{ys:List V},H c=some (.tup ys)->L2.upd H d o c=some (.tup ys):=fun{c ys} f=>by rw[au (dg f hd fun z=>g _ z.symm)];exact f
 exact⟨a,b,go e,go (show H a=some _ from p),go (show H b=some _ from q)⟩
def Prs2.upd{H:Hp}{d:Addr}{o o':HO}{ts:List Addr}{xs:List Pp}(h:Prs2 H ts xs)(hd:H d=some o')(a:∀xs,o'≠.tup xs):Prs2 (L2.upd H d o) ts xs:=Paired.mapP h fun _ _ q=>q.upd hd a
def Prs2.snoc{H:Hp}{ts:List Addr}{xs:List Pp}{t:Addr}{x:Pp}(h:Prs2 H ts xs)(q:Pr2 H t x):Prs2 H (ts++[t]) (xs++[x]):=Paired.snoc h q
def Prs2.get{H:Hp}:∀{ts:List Addr}{xs:List Pp}{i:Nat}{t:Addr},Prs2 H ts xs->ts[i]?=some t->∃x,xs[i]?=some x/\Pr2 H t x
 |_,_,0,_,.cons h _,e=>by cases e;exact⟨_,rfl,h⟩
 |_,_,i+1,_,.cons _ t,e=>Prs2.get (i:=i) t (by simpa using e)
def qw(neg:Bool)(K:Ac):R2:=fun x y H Q=>∃a t ps z,x=.ref a/\y=.ref t/\Tp H a ps/\Pr2 H t z/\Q (.bl (if neg then !decide (ps=z.1\/ps=z.2) else decide (ps=z.1\/ps=z.2))) H
section
variable{X:Cx}
def Nv(hu:X.A.in1.units<cLine):cG X (A6 .NotIn) (qw true X.K):=by
 intro aa s σ H x y v u Q I f g h;obtain⟨a,t,ps,z,rfl,rfl,ha,⟨b,c,e,hb,hc⟩,q⟩:=h;cases f;cases g;obtain⟨i,r,pt,_⟩:=I.tuple (SqT.of e);obtain rfl:=bw (as:=[b,c]) r;have d:Tps H [b,c] [z.1,z.2]:=.cons hb (.cons hc .nil);refine SeqAt.notIn_tupleAt (gb H ps) pt (fun w hw=>Eb I ha hu d w (by simpa using hw)) ⟨.bl _,H,I,rfl,?_⟩;rw[show([b,c].map Value.ref).toArray.any (gb H ps)=([b,c].map Value.ref).any (gb H ps) by simp,Ea d];rw[show decide (ps∈[z.1,z.2])=decide (ps=z.1\/ps=z.2) from decide_eq_decide.mpr (by simp)];exact q
end
def k_{H:Hp}{d:Addr}{o o':HO}{as:List Addr}{pss:Ξ}(h:Tps H as pss)(hd:H d=some o')(c:∀xs,o'≠.tup xs):Tps (L2.upd H d o) as pss:=
 Paired.mapP h fun a ps z=>by show L2.upd H d o a=_;rw[au (dg (show H a=some _ from z) hd fun y=>c _ y.symm)];exact z
def cof(S:List Pp)(r:List Int):Ξ:=(S.filter fun x=>decide (x.1=r)).map (·.2)
def vu(S T:List Pp)(r:List Int):cof (S++T) r=cof S r++cof T r:=by unfold cof;rw[List.filter_append,Ah]
def vw(x:Pp)(r:List Int):cof [x] r=if x.1=r then [x.2] else []:=by
 unfold cof
 by_cases h:x.1=r<;>simp[h]
def HR(S:List Pp)(r:List Int):(cof S r).length<=S.length:=by unfold cof;rw[Ab];exact List.length_filter_le _ _
def HS{S:List Pp}{r:List Int}(h:r∉S.map (·.1)):cof S r=[]:=by
 unfold cof;rw[List.filter_eq_nil_iff.mpr fun x hx=>by rw[decide_eq_false fun z=>h (List.mem_map.mpr ⟨x,hx,z⟩)];decide]
 rfl
abbrev En:Type:=List Int×Addr×List Addr
def dc(tab:List En):List (List Key×V):=tab.map fun e=>((e.1.map Sum.inl:List Key),V.ref e.2.1)
def qx{p q:List Int}:(p.map Sum.inl:List Key)=q.map Sum.inl↔p=q:=⟨fun z=>(List.map_inj_right (f:=(Sum.inl:Int->Key)) (fun x y h=>Sum.inl.inj h)).mp z,fun z=>by rw[z]⟩
def EG:∀{tab:List En}{p:List Int},p∉tab.map (·.1)->valV (dc tab) (p.map Sum.inl)=none
 |[],_,_=>rfl
 |e::r,p,h=>by
  have h1:e.1≠p:=fun z=>h (by rw[<-z];exact Ar);have a:=EG (tab:=r) (p:=p) fun z=>h (At _ z);unfold valV dc at a ⊢;rw[AF,List.find?_cons,decide_eq_false (fun z=>h1 (qx.mp z))];exact a
def qy:∀{tab:List En},(tab.map (·.1)).Nodup->∀e∈tab,valV (dc tab) (e.1.map Sum.inl)=some (.ref e.2.1)
 |[],_,e,he=>nomatch he
 |x::r,hn,e,he=>by
  have a:(x.1::r.map (·.1)).Nodup:=hn;rw[List.nodup_cons] at a;unfold valV dc;rw[AF,List.find?_cons];rcases List.mem_cons.mp he with rfl|he'
  ·rw[decide_eq_true rfl];rfl
  ·have h1:x.1≠e.1:=fun z=>a.1 (by rw[z];exact List.mem_map.mpr ⟨e,he',rfl⟩)
   rw[decide_eq_false (fun z=>h1 (qx.mp z))];exact qy (tab:=r) a.2 e he'
def Nw{tab:List En}{f:List Int}{L:Addr}{as:List Addr}(h:f∉tab.map (·.1)):putK (dc tab) (f.map Sum.inl) (.ref L)=dc (tab++[(f,L,as)]):=by
 unfold putK;have:((dc tab).any fun kv=>decide (kv.1=f.map Sum.inl))=false:=by
  rw[List.any_eq_false];intro kv a;obtain⟨e,he,rfl⟩:=List.mem_map.mp a;rw[decide_eq_true_eq];exact fun z=>h (by rw[<-qx.mp z];exact List.mem_map.mpr ⟨e,he,rfl⟩)
 rw[this];unfold dc;rw[Ah]
 rfl
def cS(f:List Int)(L:Addr)(as:List Addr)(tab:List En):List En:=tab.map fun e=>if e.1=f then(f,L,as) else e
def vF(f:List Int)(L:Addr)(as:List Addr)(tab:List En):(cS f L as tab).map (·.1)=tab.map (·.1):=by
 unfold cS;rw[AC];refine List.map_congr_left fun e _=>?_;show(if e.1=f then(f,L,as) else e).1=e.1
 by_cases h:e.1=f
 ·rw[if_pos h];exact h.symm
 ·rw[if_neg h]
def setE_mem{f:List Int}{L:Addr}{as:List Addr}{tab:List En}{x:En}(h:x∈cS f L as tab):(x=(f,L,as)/\f∈tab.map (·.1))\/(x∈tab/\x.1≠f):=by
 obtain⟨e,he,rfl⟩:=List.mem_map.mp h
 by_cases g:e.1=f
 ·rw[if_pos g];exact .inl ⟨rfl,List.mem_map.mpr ⟨e,he,g⟩⟩
 ·rw[if_neg g];exact .inr ⟨he,g⟩
def Nx{tab:List En}{f:List Int}{L:Addr}{as:List Addr}(h:f∈tab.map (·.1)):putK (dc tab) (f.map Sum.inl) (.ref L)=dc (cS f L as tab):=by
 unfold putK;have:((dc tab).any fun kv=>decide (kv.1=f.map Sum.inl))=true:=by
  obtain⟨e,he,rfl⟩:=List.mem_map.mp h;exact List.any_eq_true.mpr ⟨_,List.mem_map.mpr ⟨e,he,rfl⟩,decide_eq_true rfl⟩
 rw[this,if_pos rfl];unfold dc cS;rw[AC,AC];refine List.map_congr_left fun e _=>?_;show(if(e.1.map Sum.inl:List Key)=f.map Sum.inl then((e.1.map Sum.inl:List Key),V.ref L) else _)=_
 by_cases g:e.1=f
 ·rw[if_pos (qx.mpr g)]
  show _=(((if e.1=f then(f,L,as) else e).1.map Sum.inl:List Key),V.ref (if e.1=f then(f,L,as) else e).2.1);rw[if_pos g,g]
 ·rw[if_neg fun z=>g (qx.mp z)]
  show _=(((if e.1=f then(f,L,as) else e).1.map Sum.inl:List Key),V.ref (if e.1=f then(f,L,as) else e).2.1);rw[if_neg g]
structure Ov(H0 H:Hp)(d:Addr)(S:List Pp)(tab:List En):Prop where
 hd:H d=some (.dT (dc tab))
 nk:(tab.map (·.1)).Nodup
 na:(tab.map (·.2.1)).Nodup
 ls:∀e∈tab,H e.2.1=some (.lst (e.2.2.map V.ref))/\Tps H e.2.2 (cof S e.1)/\H0 e.2.1=none
 ks:∀r,r∈tab.map (·.1)↔r∈S.map (·.1)
 len:tab.length<=S.length
def Ov.same{a H H':Hp}{d:Addr}{S:List Pp}{tab:List En}(o:Ov a H d S tab)(s:Same H H'):Ov a H' d S tab:=
 ⟨s _ _ o.hd,o.nk,o.na,fun e he=>⟨s _ _ (o.ls e he).1,s.tps (o.ls e he).2.1,(o.ls e he).2.2⟩,o.ks,o.len⟩
def Ov.new{a H:Hp}{d:Addr}(h:H d=some (.dT [])):Ov a H d [] []:=⟨h,List.nodup_nil,List.nodup_nil,(fun e he=>nomatch he),(fun r=>Iff.rfl),Ag _⟩
def Ov.get{c H:Hp}{d a:Addr}{S:List Pp}{tab:List En}{p:List Int}(o:Ov c H d S tab)(ha:Tp H a p):(p∈S.map (·.1)/\∃A as,DGet H d (.ref a) (some (.ref A))/\H A=some (.lst (as.map V.ref))/\Tps H as (cof S p))\/(p∉S.map (·.1)/\DGet H d (.ref a) none):=by
 have hk:H a=some (.tup ((p.map Sum.inl:List Key).map kV)):=by rw[AC];exact ha
 by_cases h:p∈S.map (·.1)
 ·obtain⟨e,he,rfl⟩:=List.mem_map.mp ((o.ks p).mpr h)
  obtain⟨h1,h2,_⟩:=o.ls e he;exact .inl ⟨h,e.2.1,e.2.2,.inr ⟨_,_,a,.inl o.hd,rfl,hk,(qy o.nk e he).symm⟩,h1,h2⟩
 ·exact .inr ⟨h,.inr ⟨_,_,a,.inl o.hd,rfl,hk,(EG fun z=>h ((o.ks p).mp z)).symm⟩⟩
def Ov.put{C H:Hp}{d L:Addr}{S:List Pp}{tab:List En}{f ps:List Int}{as:List Addr}(o:Ov C H d S tab)(F:H L=some (.lst (as.map V.ref)))(ht:Tps H as (cof S f++[ps]))(G:L∉tab.map (·.2.1))(I:C L=none):∃D,Ov C (upd H d (.dT (putK (dc tab) (f.map Sum.inl) (.ref L)))) d (S++[(f,ps)]) D/\∀x,x∉tab.map (·.2.1)->x≠L->x∉D.map (·.2.1):=by
 have j:∀{A:Addr}{xs:List V},H A=some (.lst xs)->upd H d (.dT (putK (dc tab) (f.map Sum.inl) (.ref L))) A=some (.lst xs):=fun{A xs} e=>by rw[au (dg e o.hd (by intro z;cases z))];exact e
 have a:∀{bs:List Addr}{J:Ξ},Tps H bs J->Tps (upd H d (.dT (putK (dc tab) (f.map Sum.inl) (.ref L)))) bs J:=fun h=>k_ h o.hd (by intro xs z;cases z);have E:∀r,r≠f->cof (S++[(f,ps)]) r=cof S r:=fun r hr=>by rw[vu,vw,if_neg (fun z=>hr z.symm),AT]
 have c:cof (S++[(f,ps)]) f=cof S f++[ps]:=by rw[vu,vw,if_pos rfl]
 by_cases hf:f∈tab.map (·.1)
 ·refine⟨cS f L as tab,⟨by rw[al,Nx hf],by rw[vF];exact o.nk,?_,fun e he=>?_,fun r=>?_,?_⟩,fun x hx l z=>?_⟩
  ·have key:∀{t:List En},(t.map (·.1)).Nodup->(t.map (·.2.1)).Nodup->L∉t.map (·.2.1)->((cS f L as t).map (·.2.1)).Nodup:=by
    intro t
    induction t with
    |nil=>intro _ _ _;exact List.nodup_nil
    |cons e r ih=>
     intro hk ha p;have hk':(e.1::r.map (·.1)).Nodup:=hk;have ha':(e.2.1::r.map (·.2.1)).Nodup:=ha;rw[List.nodup_cons] at hk' ha';have M:=ih hk'.2 ha'.2 (fun z=>p (At _ z));show(((if e.1=f then(f,L,as) else e).2.1)::(cS f L as r).map (·.2.1)).Nodup;rw[List.nodup_cons];refine⟨fun z=>?_,M⟩;obtain⟨y,hy,i⟩:=List.mem_map.mp z
     by_cases g:e.1=f
     ·rw[if_pos g] at i
      rcases setE_mem hy with ⟨rfl,q⟩|⟨hm,_⟩
      ·exact hk'.1 (by rw[g];exact q)
      ·exact p (At _ (by rw[show L=y.2.1 from i.symm];exact List.mem_map.mpr ⟨y,hm,rfl⟩))
     ·rw[if_neg g] at i
      rcases setE_mem hy with ⟨rfl,_⟩|⟨hm,_⟩
      ·exact p (by rw[show L=e.2.1 from i];exact Ar)
      ·exact ha'.1 (by rw[<-i];exact List.mem_map.mpr ⟨y,hm,rfl⟩)
   exact key o.nk o.na G
  ·rcases setE_mem he with ⟨rfl,_⟩|⟨hm,s⟩
   ·exact⟨j F,by rw[c];exact a ht,I⟩
   ·obtain⟨q1,u,v⟩:=o.ls e hm
    exact⟨j q1,by rw[E _ s];exact a u,v⟩
  ·rw[vF,Ah,List.mem_append,o.ks]
   refine⟨.inl,fun z=>z.elim id fun z=>?_⟩;have:r=f:=by simpa using z
   rw[this];exact(o.ks f).mp hf
  ·unfold cS
   rw[Ab,Af];have:=o.len;(first|lia|omega)
  ·obtain⟨y,hy,rfl⟩:=List.mem_map.mp z
   rcases setE_mem hy with ⟨rfl,_⟩|⟨hm,_⟩
   ·exact l rfl
   ·exact hx (List.mem_map.mpr ⟨y,hm,rfl⟩)
 ·refine⟨tab++[(f,L,as)],⟨by rw[al,Nw hf],?_,?_,fun e he=>?_,fun r=>?_,?_⟩,fun x hx l z=>?_⟩
  ·rw[Ah,AM]
   refine⟨o.nk,by simp,fun x hx y hy z=>hf ?_⟩;have:y=f:=by simpa using hy
   rw[<-this,<-z];exact hx
  ·rw[Ah,AM]
   refine⟨o.na,by simp,fun x hx y hy z=>G ?_⟩;have:y=L:=by simpa using hy
   rw[<-this,<-z];exact hx
  ·rcases List.mem_append.mp he with hm|hm
   ·obtain⟨q1,u,v⟩:=o.ls e hm
    exact⟨j q1,by rw[E _ (fun z=>hf (by rw[<-z];exact List.mem_map.mpr ⟨e,hm,rfl⟩))];exact a u,v⟩
   ·have:e=(f,L,as):=by simpa using hm
    subst this;exact⟨j F,by rw[c];exact a ht,I⟩
  ·rw[Ah,Ah,List.mem_append,List.mem_append,o.ks]
   simp
  ·rw[Af,Af]
   have:=o.len;simp;(first|lia|omega)
  ·rw[Ah] at z
   rcases List.mem_append.mp z with z|z
   ·exact hx z
   ·exact l (by simpa using z)
def Ov.app{I H:Hp}{d A a:Addr}{S:List Pp}{tab:List En}{f ps:List Int}{as:List Addr}(o:Ov I H d S tab)(he:(f,A,as)∈tab)(ha:Tp H a ps):∃D,Ov I (upd H A (.lst (as.map V.ref++[.ref a]))) d (S++[(f,ps)]) D/\D.map (·.2.1)=tab.map (·.2.1):=by
 obtain⟨l,y,J⟩:=o.ls _ he;have l:H A=some (.lst (as.map V.ref)):=l;have y:Tps H as (cof S f):=y;have O:d≠A:=(dg l o.hd (by intro z;cases z)).symm;have s:∀{bs:List Addr}{G:Ξ},Tps H bs G->Tps (upd H A (.lst (as.map V.ref++[.ref a]))) bs G:=fun h=>k_ h l (by intro xs z;cases z);have P:∀r,r≠f->cof (S++[(f,ps)]) r=cof S r:=fun r hr=>by rw[vu,vw,if_neg (fun z=>hr z.symm),AT]
 have u:cof (S++[(f,ps)]) f=cof S f++[ps]:=by rw[vu,vw,if_pos rfl]
 have C:f∈tab.map (·.1):=List.mem_map.mpr ⟨_,he,rfl⟩;have same:∀{t:List En},(t.map (·.1)).Nodup->(∀e∈t,e.1=f->e.2.1=A)->(cS f A (as++[a]) t).map (·.2.1)=t.map (·.2.1)/\dc (cS f A (as++[a]) t)=dc t:=by
  intro t _ hk;unfold cS dc;rw[AC,AC];refine⟨List.map_congr_left fun e he=>?_,List.map_congr_left fun e he=>?_⟩
  ·show(if e.1=f then(f,A,as++[a]) else e).2.1=e.2.1
   by_cases g:e.1=f
   ·rw[if_pos g];exact(hk e he g).symm
   ·rw[if_neg g]
  ·show(((if e.1=f then(f,A,as++[a]) else e).1.map Sum.inl:List Key),V.ref (if e.1=f then(f,A,as++[a]) else e).2.1)=_
   by_cases g:e.1=f
   ·rw[if_pos g]
    show((f.map Sum.inl:List Key),V.ref A)=_;rw[hk e he g,g]
   ·rw[if_neg g]
 have v:∀e∈tab,e.1=f->e=(f,A,as):=fun e hm g=>by
  have Q:=qy o.nk e hm;have T:=qy o.nk _ he;rw[g] at Q;obtain⟨i,hi⟩:=List.getElem?_of_mem hm;obtain⟨j,p⟩:=List.getElem?_of_mem he;have e1:(tab.map (·.1))[i]?=some f:=by rw[Ao,hi,Option.map_some,g]
  have e2:(tab.map (·.1))[j]?=some f:=by rw[Ao,p];rfl
  have c:=(List.getElem?_inj (i:=i) (j:=j) (List.getElem?_eq_some_iff.mp e1).1 o.nk).mp (e1.trans e2.symm);rw[c,p] at hi;exact(As hi).symm
 obtain⟨E,L⟩:=same (t:=tab) o.nk fun e hm g=>by rw[v e hm g]
 refine⟨cS f A (as++[a]) tab,⟨by rw[au O,L];exact o.hd,by rw[vF];exact o.nk,by rw[E];exact o.na,fun e hm=>?_,fun r=>?_,?_⟩,E⟩
 ·rcases setE_mem hm with ⟨rfl,_⟩|⟨F,q⟩
  ·refine⟨by show upd H A _ A=_;rw[al,Ah];rfl,?_,J⟩
   show Tps _ (as++[a]) (cof (S++[(f,ps)]) f);rw[u];exact Tps.snoc (s y) (by show upd H A _ a=_;rw[au (dg (show H a=some _ from ha) l (by intro z;cases z))];exact ha)
  ·obtain⟨q1,M,N⟩:=o.ls e F
   have x:e.2.1≠A:=fun z=>q (by
    obtain⟨i,hi⟩:=List.getElem?_of_mem F;obtain⟨j,p⟩:=List.getElem?_of_mem he;have e1:(tab.map (·.2.1))[i]?=some A:=by rw[Ao,hi,Option.map_some,z]
    have e2:(tab.map (·.2.1))[j]?=some A:=by rw[Ao,p];rfl
    have c:=(List.getElem?_inj (i:=i) (j:=j) (List.getElem?_eq_some_iff.mp e1).1 o.na).mp (e1.trans e2.symm);rw[c,p] at hi;rw[<-As hi])
   exact⟨by rw[au x];exact q1,by rw[P _ q];exact s M,N⟩
 ·rw[vF,Ah,List.mem_append,o.ks]
  refine⟨.inl,fun z=>z.elim id fun z=>?_⟩;have:r=f:=by simpa using z
  rw[this];exact(o.ks f).mp C
 ·unfold cS
  rw[Ab,Af];have:=o.len;(first|lia|omega)
end L2
end
section
namespace K51
open K1
open PySem L2 STb
abbrev vM:Stmt:=top 27
abbrev vS:Stmt:=top 29
def iO{H:Hp}{b:Addr}{ps:List Int}(h:Tp H b ps):H b=some (.tup ((ps.map Sum.inl:List Key).map kV)):=by rw[AC];exact h
def eM(kn:Ξ):List Pp:=kn.flatMap fun q=>(rims q).map fun r=>(r,q)
def HU{kn:Ξ}(h:∀p∈kn,p.length<=5):(eM kn).length<=5*kn.length:=by
 unfold eM
 induction kn with
 |nil=>simp
 |cons q r ih=>
  rw[List.flatMap_cons,Af,Ab,Am];have h1:=gd q;have h2:=h q Ar;have a:=ih fun p hp=>h p (At _ hp);(first|lia|omega)
def Ny{kn:Ξ}{q:List Int}{i:Nat}(h:kn[i]?=some q):eM (kn.take (i+1))=eM (kn.take i)++(rims q).map fun r=>(r,q):=by
 unfold eM;rw[AI h,List.flatMap_append];simp
abbrev Nz(K:Ac):List V->Hp->VK->Prop:=fun xs H Q=>∃p ys,xs=[.ref p]/\(SqL K H p ys\/SqT K H p ys)/\Q (.int ys.length) H
def NA{H:Hp}{a b:Addr}{x y:HO}(h:a≠b):upd (upd H a x) b y=upd (upd H b y) a x:=by
 funext c
 by_cases h1:c=a
 ·subst h1
  rw[au h,al,al]
 ·by_cases h2:c=b
  ·subst h2
   rw[al,au h1,al]
  ·rw[au h2,au h1,au h1,au h2]
def Ov.other{a H:Hp}{d x:Addr}{S:List Pp}{tab:List En}{xs ys:List V}(o:Ov a H d S tab)(hx:H x=some (.lst xs))(g:x∉tab.map (·.2.1)):Ov a (upd H x (.lst ys)) d S tab:=by
 refine⟨?_,o.nk,o.na,fun e he=>?_,o.ks,o.len⟩
 ·rw[au (dg hx o.hd (by intro z;cases z)).symm];exact o.hd
 ·obtain⟨q1,c,f⟩:=o.ls e he
  exact⟨by rw[au (fun z=>g (List.mem_map.mpr ⟨e,he,z⟩))];exact q1,k_ c hx (by intro xs z;cases z),f⟩
def EH(S:List Pp)(p:List Int):Pp:=(p,(cof S p).headD [])
def gJ(S:List Pp)(kn:Ξ):List Pp:=(kn.filter fun p=>decide ((cof S p).length=1)).map (EH S)
def NB{a c:Type}{f:a->Bool}{g:a->c}{l:List a}{i:Nat}{x:a}(h:l[i]?=some x):((l.take (i+1)).filter f).map g=((l.take i).filter f).map g++(if f x=true then [g x] else []):=by
 rw[AI h,List.filter_append,Ah]
 congr 1
 by_cases e:f x=true
 ·rw[if_pos e,List.filter_cons_of_pos e];rfl
 ·rw[if_neg e,List.filter_cons_of_neg e];rfl
abbrev qF(K:Ac):TT:=mU (dv Bc (j9 (Nz K) (zL (Gv (aM 1) (aM 0) (j7 bD)) bD)) (tC (.int 1)))
abbrev HV(K:Ac):TE:=cI (zL (aM 0) (zL (dv (pi K) (pk (aM 1) (aM 0)) (tC (.int 0))) bD))
section
variable{P:Program}{w:World}{K:Ac}{mg:Str->Option Value}{base:Heap}
def NC{H0 H2:Hp}{L D d:Addr}{as:List Addr}{kn:Ξ}{S:List Pp}{tab:List En}{Q:VK}(hl:SqL K H2 L (as.map V.ref))(ht:Tps H2 as kn)(ov:Ov H0 H2 d S tab)(hz:kn.length<=1000)(hS:S.length<=1000)(M:H2 D=none)(k:∀(c:Hp)(ts:List Addr),Same H2 c->c D=some (.lst (ts.map V.ref))->Prs2 c ts (gJ S kn)->Q (.ref D) c):c7 (eI K L) (cV 0) (qF K) (HV K) [none,some (.ref d)] H2 D Q:=by
 have Z:=ht.length;refine z0 (xs:=as.map V.ref) (fun j σ ys c=>∃(v:Option V)(ts:List Addr),σ=[v,some (.ref d)]/\Same H2 c/\c D=some (.lst ys)/\ys=ts.map V.ref/\Prs2 c ts (gJ S (kn.take j))) ?_ ?_ ?_ ?_
 ·exact⟨none,[],rfl,Same.new M,al,rfl,.nil⟩
 ·rintro j σ ys c ⟨v,ts,rfl,e,h,rfl,hp⟩
  exact e.seq hl
 ·rintro j σ ys c x hx C hy ⟨v,ts,rfl,e,h,rfl,hp⟩
  obtain⟨a,T,rfl⟩:=zQ hx;obtain⟨ps,U,W⟩:=ht.get T;have hsz:(as.map V.ref).length<=sizeLine:=by rw[Ab];exact aq ω
  have G:=NB (f:=fun p=>decide ((cof S p).length=1)) (g:=EH S) U;have hcl:=HR S ps;have I:=ov.same e;refine⟨_,rfl,d,rfl,.inr ⟨_,.inl I.hd⟩,_,rfl,aq (by simp),fun N O=>?_⟩;have i:=Same.new (o:=.lst []) O;have X:=I.same i;have l:=(e.trans i).tp W;have y:=i _ _ h;rcases X.get l with ⟨Y,A,bs,u,H,E⟩|⟨F,u⟩
  ·have J:=E.length
   refine⟨_,u,A,_,rfl,.inl (SqL.of H),rfl,_,rfl,?_⟩;rw[show(bs.map V.ref).length=(cof S ps).length from by rw[Ab];exact J]
   by_cases h1:(cof S ps).length=1
   ·rw[show decide (V.int ((cof S ps).length:Int)=V.int 1)=true from decide_eq_true (by rw[h1];rfl)]
    obtain⟨b,rfl⟩:∃b,bs=[b]:=by
     match bs,J with
     |[b],_=>exact⟨b,rfl⟩
     |[],z=>simp[h1] at z
     |_::_::_,z=>simp[h1] at z
    obtain⟨q,eq⟩:∃q,cof S ps=[q]:=by
     match hc:cof S ps,h1 with
     |[q],_=>exact⟨q,rfl⟩
    have hb:Tp (upd c N (.lst [])) b q:=by
     rw[eq] at E;cases E with
     |cons r _=>exact r
    refine bu ⟨_,rfl,_,rfl,_,rfl,d,_,rfl,u,A,_,0,_,rfl,rfl,SqL.of H,zD (j:=0) rfl,aq (by simp),fun t P=>?_⟩;have s:=Same.new (o:=.tup [.ref a,.ref b]) P;refine ci hsz C hy (s _ _ y) ⟨_,ts++[t],rfl,((e.trans i).trans s).then M,al,by rw[Ah];rfl,?_⟩;unfold gJ;rw[G,if_pos (decide_eq_true h1)];refine Prs2.upd (Prs2.snoc (hp.same (i.trans s)) ⟨a,b,al,s.tp l,?_⟩) (s _ _ y) (by intro xs z;cases z);show Tp _ b ((cof S ps).headD []);rw[eq];exact s.tp hb
   ·rw[show decide (V.int ((cof S ps).length:Int)=V.int 1)=false from decide_eq_false fun z=>h1 (by injection z with z;(first|lia|omega))]
    refine a9 (e_ C hy ⟨_,ts,rfl,e.trans i,y,rfl,?_⟩);unfold gJ;rw[G,if_neg (by rw[decide_eq_false h1];decide),AT];exact hp.same i
  ·refine⟨_,u,N,[],rfl,.inl (SqL.of al),rfl,_,rfl,?_⟩
   rw[show decide (V.int (([]:List V).length:Int)=V.int 1)=false from ξ];refine a9 (e_ C hy ⟨_,ts,rfl,e.trans i,y,rfl,?_⟩);unfold gJ;rw[G,if_neg (by rw[HS F];decide),AT];exact hp.same i
 ·rintro σ ys c ⟨v,ts,rfl,e,h,rfl,hp⟩
  rw[Ab,Z,take_all] at hp;exact k c ts e h hp
def vT(K:Ac):Sp:=fun vs H Q _=>∃l as kn,vs=[.ref l]/\SqL K H l (as.map V.ref)/\Tps H as kn/\(∀p∈kn,p.length<=5)/\kn.length<=200/\∀D H' ts,Same H H'->H D=none->H' D=some (.lst (ts.map V.ref))->Prs2 H' ts (gJ (eM kn) kn)->Q (.ref D) H'
def vV:zl ["every","above","piece","rim"] ["every"] (ze vM):=⟨rfl,rfl,rfl,δ,rfl,δ,δ⟩
def ND{f fr:Addr}{fd aU:FuncData}(F:Fun K "free_among" "free_among" vM f fd)(B:Bt mg)(Fr:Fun K "rims_of" "rims_of" hU fr aU)(br:Binds K aU ["piece"] [])(mr:mg "rims_of"=some (.ref fr)):FnOk P w K mg base aR 2 f fd ["every"] (vT K):=by
 have Gr:FnOk P w K mg base aR 1 fr aU ["piece"] k8:=n3 Fr B;refine F.ok vV (fun vs H Q E h=>?_) (fun cdv A outer s H vs Q E hr h=>?_)
 ·obtain⟨l,as,kn,rfl,_⟩:=h;rfl
 ·obtain⟨l,as,kn,rfl,hl,ht,h5,dC,k⟩:=h
  have hu:=fZ hr;refine⟨_,zd (zk (i:=1) vV.nd rfl (Or.inr rfl) zX)
   (zd (zV AE rfl (zv (pv 0)) (zi (i:=2) vV.nd rfl (Or.inl rfl))
    (zg (zV AE rfl (zv (zo Gr hr rfl mr Fr.kp br .nil aF (ae (pv 2) ap))) (zi (i:=3) vV.nd rfl (Or.inl rfl))
     (zg (zN (eY AN PySem.F.slot_list_append PySem.F.type_list_append kd
      (eY PySem.F.plainAttrs_dict PySem.F.slot_dict_setdefault PySem.F.type_dict_setdefault (Nu hu) (pv 1) (ae (pv 3) (ae (zr ap) ap))) (ae (pv 2) ap)))))))
   (zg (zm (zt ["every","above","piece","rim"] ["piece","above"] [none,some 1] (zv (pv 0)) (fun cl C s₀ H₀ ex=>zi (i:=0) (cO ["piece","above"]) rfl (Or.inl rfl))
    (fun cl C s₀ H₀ ex=>pN (zn eW (zw zp rfl B.len ei (ae (Gw hu (pv 1) (pv 0) (zr ap) ⟨rfl,rfl,rfl,rfl⟩) ap)) zf (aK _)))
    (fun cl C s₀ H₀ ex=>zx (ae (pv 0) (ae (cK zZ (ju hu (pv 1) (pv 0) (fun _ _=>rfl)) zf (fun _ _=>rfl)) ap))) (hfr:=cw (ze vM) δ) (tc:=qF K) (te:=HV K))))),?_⟩
  intro d hd;have aJ:=ht.length;have tF:=HU h5;refine⟨_,rfl,l,rfl,⟨_,(Same.new hd).seq hl⟩,zK (K:=K) (a:=l) (xs:=as.map V.ref) (fun i σ H2=>∃(v T:Option V)(tab:List En),σ=[some (.ref l),some (.ref d),v,T]/\Same H H2/\Ov H H2 d (eM (kn.take i)) tab)
   ⟨none,none,[],rfl,Same.new hd,by rw[List.take_zero];exact Ov.new al⟩ (fun i σ H2 _ ⟨_,_,_,_,G,_⟩=>G.seq hl) ?_ ?_⟩
  ·rintro i x σ H2 hx ⟨v,T,tab,rfl,G,ov⟩
   obtain⟨a,ea,rfl⟩:=zQ hx;obtain⟨ps,bX,bS⟩:=ht.get ea;have dy:=h5 ps (An bX);have hi:i<kn.length:=(List.getElem?_eq_some_iff.mp bX).1;refine⟨_,rfl,a,ps,rfl,G.tp bS,dy,fun D H3 cs bA bU Y bn=>⟨D,rfl,⟨_,SqL.of Y⟩,?_⟩⟩;have lD:=bn.length;have nD:=ov.same bA;have u0:D∉tab.map (·.2.1):=fun z=>by
    obtain⟨e,he,ee⟩:=List.mem_map.mp z;have:=(ov.ls e he).1;rw[show e.2.1=D from ee,bU] at this;cases this
   refine zK (K:=K) (a:=D) (xs:=cs.map V.ref) (fun j σ y=>∃(T:Option V)(I:List En),σ=[some (.ref l),some (.ref d),some (.ref a),T]/\Same H y/\y D=some (.lst (cs.map V.ref))/\Tps y cs (rims ps)/\D∉I.map (·.2.1)/\Ov H y d (eM (kn.take i)++((rims ps).take j).map fun r=>(r,ps)) I)
    ⟨_,tab,rfl,G.trans bA,Y,bn,u0,by rw[List.take_zero,List.map_nil,AT];exact nD⟩ (fun j σ y _ ⟨_,_,_,_,q,_⟩=>SqL.of q) ?_ ?_
   ·rintro j x σ y hx ⟨T,I,rfl,X,aZ,bJ,ge,J⟩
    obtain⟨c,ec,rfl⟩:=zQ hx;obtain⟨g,eg,hg⟩:=bJ.get ec;have tF:(eM (kn.take i)++((rims ps).take j).map fun r=>(r,ps)).length<=1000:=by
     have h1:=HU (kn:=kn.take i) fun p hp=>h5 p (List.mem_of_mem_take hp);have h2:=gd ps;rw[Av] at h1;rw[Af,Ab,Av];(first|lia|omega)
    have M:(dc I).length<sizeLine:=by
     have:=J.len;unfold dc;rw[Ab];exact zH ω
    have U:(eM (kn.take i)++((rims ps).take (j+1)).map fun r=>(r,ps))=(eM (kn.take i)++((rims ps).take j).map fun r=>(r,ps))++[(g,ps)]:=by rw[AI eg,Ah,AG];rfl
    generalize hS:eM (kn.take i)++((rims ps).take j).map (fun r=>(r,ps))=S at J tF U;refine⟨_,rfl,.inr (.inr (.inl ⟨rfl,.inr ⟨_,J.hd⟩⟩)),_,rfl,aq (by simp),fun u Z=>?_⟩;have N:=Same.new (o:=.lst []) Z;have O:=J.same N;have rW:=N.tp hg;have rK:=(X.trans N).tp bS;have cC:=N _ _ aZ;have lG:u∉I.map (·.2.1):=fun z=>by
     obtain⟨e,he,ee⟩:=List.mem_map.mp z;have:=(J.ls e he).1;rw[show e.2.1=u from ee,Z] at this;cases this
    have h00:H u=none:=X.free Z
    by_cases W:g∈I.map (·.1)
    ·obtain⟨⟨g',A,bs⟩,he,rfl⟩:=List.mem_map.mp W
     obtain⟨hA,kR,vH⟩:=O.ls _ he;have hA:upd y u (.lst []) A=some (.lst (bs.map V.ref)):=hA;have ki:=(show Tps _ bs (cof S g') from kR).length;have hcl:=HR S g';refine⟨d,_,g'.map Sum.inl,c,_,rfl,rfl,O.hd,iO rW,M,.inl ⟨_,qy O.nk _ he,.inl ⟨rfl,_,SqL.of hA⟩,_,rfl,A,_,_,rfl,rfl,hA,by rw[Ab];exact zH ω,?_⟩⟩;obtain⟨iP,oF,pI⟩:=O.app he rK;refine⟨_,iP,rfl,(X.trans N).then vH,?_,Tps.upd (N.tps bJ) hA (by intro xs z;cases z),by rw[pI];exact ge,by rw[U];exact oF⟩;rw[au (fun z=>ge (by rw[z];exact List.mem_map.mpr ⟨_,he,rfl⟩))];exact cC
    ·have oG:d≠u:=zh J.hd Z
     have e6:upd (upd (upd y u (.lst [])) d (.dT (putK (dc I) (g.map Sum.inl) (.ref u)))) u (.lst ([]++[.ref a]))=upd (upd (upd y u (.lst [])) u (.lst ([]++[.ref a]))) d (.dT (putK (dc I) (g.map Sum.inl) (.ref u))):=NA oG;refine⟨d,_,g.map Sum.inl,c,_,rfl,rfl,O.hd,iO rW,M,.inr ⟨EG W,.inl ⟨rfl,_,SqL.of (by rw[au (Ne.symm oG)];exact al)⟩,_,rfl,u,[],_,rfl,rfl,by rw[au (Ne.symm oG)];exact al,zH (by simp),?_⟩⟩;rw[e6];have uA:=Ov.other O (x:=u) (ys:=[]++[.ref a]) al lG;have ua:∀{bs:List Addr}{qs:Ξ},Tps (upd y u (.lst [])) bs qs->Tps (upd (upd y u (.lst [])) u (.lst ([]++[.ref a]))) bs qs:=fun h=>Tps.upd h al (by intro xs z;cases z);have hno:g∉S.map (·.1):=fun z=>W ((O.ks g).mpr z);obtain⟨iP,oF,hfr⟩:=uA.put (f:=g) (ps:=ps) (as:=[a]) (L:=u) (by rw[al];rfl) (by rw[HS hno];exact ua (.cons rK .nil)) lG h00;have lE:D≠u:=zh aZ Z;refine⟨_,iP,rfl,((X.trans N).then h00).then hd,?_,Tps.upd (ua (N.tps bJ)) uA.hd (by intro xs z;cases z),hfr D ge lE,by rw[U];exact oF⟩;rw[au (dg cC O.hd (by intro z;cases z)),au lE];exact cC
   ·rintro σ y ⟨T,I,rfl,X,aZ,bJ,ge,J⟩
    refine⟨_,_,I,rfl,X,?_⟩;rw[Ab,lD,take_all] at J;rw[Ny bX];exact J
  ·rintro σ H2 ⟨v,T,tab,rfl,G,ov⟩
   rw[Ab,aJ,take_all] at ov;exact⟨_,rfl,l,rfl,⟨_,G.seq hl⟩,fun D Y=>zB (NC (G.seq hl) (G.tps ht) ov ω ω Y fun H3 ts bA hD3 hp=>k D H3 ts (G.trans bA) (G.free Y) hD3 hp)⟩
def EJ{H2:Hp}{L D:Addr}{as:List Addr}{kn:Ξ}{Q:VK}{p:List Int->Bool}{tc:TT}{c:List (Option V)}(u:∀(o:Addr)(os:List Int)(H:Hp)(R:Bool->Hp->Prop),Same H2 H->Tp H o os->os∈kn->(∀H',Same H H'->R (p os) H')->tc (some (.ref o)::c) H R)(y:SqL K H2 L (as.map V.ref))(ht:Tps H2 as kn)(hz:kn.length<=1000)(l:H2 D=none)(k:∀d bs,Same H2 d->d D=some (.lst (bs.map V.ref))->Tps d bs (kn.filter p)->Q (.ref D) d):c7 (eI K L) (cV 0) tc (aM 0) (none::c) H2 D Q:=by
 have r:=ht.length;refine z0 (xs:=as.map V.ref) (fun j σ ys d=>∃(v:Option V)(bs:List Addr),σ=v::c/\Same H2 d/\d D=some (.lst ys)/\ys=bs.map V.ref/\Tps d bs ((kn.take j).filter p)) ?_ ?_ ?_ ?_
 ·exact⟨none,[],rfl,Same.new l,al,rfl,.nil⟩
 ·rintro j σ ys d ⟨v,bs,rfl,e,a,rfl,_⟩
  exact e.seq y
 ·rintro j σ ys d x hx h hy ⟨v,bs,rfl,e,a,rfl,hb⟩
  obtain⟨o,q,rfl⟩:=zQ hx;obtain⟨os,g,i⟩:=ht.get q;have s:(as.map V.ref).length<=sizeLine:=by rw[Ab];exact aq ω
  refine u o os d _ e (e.tp i) (An g) fun A f=>?_;cases hp:p os
  ·refine a9 (e_ h hy ⟨_,bs,rfl,e.trans f,f _ _ a,rfl,?_⟩)
   rw[AI g,List.filter_append,List.filter_cons_of_neg (by rw[hp];simp),List.filter_nil,AT];exact f.tps hb
  ·refine bu ⟨_,rfl,ci s h hy (f _ _ a) ⟨_,bs++[o],rfl,(e.trans f).then l,al,by rw[Ah];rfl,?_⟩⟩
   rw[AI g,List.filter_append,List.filter_cons_of_pos hp];exact Tps.upd (Tps.snoc (f.tps hb) ((e.trans f).tp i)) (f _ _ a) (by intro xs z;cases z)
 ·rintro σ ys d ⟨v,bs,rfl,e,a,rfl,hb⟩
  rw[Ab,r,Au (Ag _)] at hb;exact k d bs e a hb
def HW(K:Ac):Sp:=fun vs H Q _=>∃l t as kn z,vs=[.ref l,.ref t]/\SqL K H l (as.map V.ref)/\Tps H as kn/\kn.length<=1000/\Pr2 H t z/\∀D H' bs,Same H H'->H D=none->H' D=some (.lst (bs.map V.ref))->Tps H' bs (kn.filter fun x=>!decide (x=z.1\/x=z.2))->Q (.ref D) H'
def NE:zl ["every","pair"] ["every","pair"] (ze vS):=⟨rfl,rfl,rfl,δ,rfl,δ,δ⟩
def NF{f:Addr}{fd:FuncData}(F:Fun K "taken_out" "taken_out" vS f fd):FnOk P w K mg base aR 1 f fd ["every","pair"] (HW K):=by
 refine F.ok NE (fun vs H Q E h=>?_) (fun cdv A outer s H vs Q E hr h=>?_)
 ·obtain⟨l,t,as,kn,z,rfl,_⟩:=h;rfl
 ·obtain⟨l,t,as,kn,z,rfl,e,ht,hz,hp,k⟩:=h
  have r:=hr.units;refine⟨_,zg (zm (zt ["every","pair"] ["piece","pair"] [none,some 1] (zv (pv 0)) (fun c C s₀ H₀ ex=>zi (i:=0) (cO ["piece","pair"]) rfl (Or.inl rfl))
   (fun c C s₀ H₀ ex=>pN (zn (Nv (in1_units r)) (pv 0) (pv 1) (by with_unfolding_all rfl))) (fun c C s₀ H₀ ex=>pv 0) (hfr:=cw (ze vS) δ) (tc:=mU (dv (qw true K) (aM 0) (aM 1))))),?_⟩
  refine⟨_,rfl,l,rfl,⟨_,e⟩,fun D d=>?_⟩;refine zB (EJ (p:=fun x=>!decide (x=z.1\/x=z.2)) (fun o os H' R g j _ hR=>⟨_,rfl,_,rfl,o,t,os,z,rfl,rfl,j,hp.same g,_,rfl,?_⟩) e ht hz d fun u bs q a hb=>k D u bs q d a hb);rw[if_pos rfl];exact hR H' (Same.refl _)
end
end K51
end
section
namespace K1
open PySem L2 STb
abbrev Pq:=List Int×List Int
def iQ(x y:Pq):Bool:=decide (y.1≠x.1)&&decide (y.1∈rims x.2)
def vZ{x y:Pq}:iQ x y=true↔y.1≠x.1/\y.1∈rims x.2:=by unfold iQ;rw[AL,decide_eq_true_eq,decide_eq_true_eq]
def qG(A:List Pq):Prop:=∀x∈A,∃y∈A,iQ x y=true
def eF(l:List Pq):Prop:=∀A:List Pq,(∀x∈A,x∈l)->qG A->A=[]
def EK{l m:List Pq}(h:eF m)(hs:∀x∈l,x∈m):eF l:=fun A ha a=>h A (fun x hx=>hs x (ha x hx)) a
def dB:eF []:=fun A ha _=>by
 cases A with
 |nil=>rfl
 |cons a r=>exact absurd (ha a Ar) (by simp)
def n4(a:List Pq):Prop:=a≠[]/\∀i x,a[i]?=some x->∃y,a[(i+1)%a.length]?=some y/\iQ x y=true
def NG{a:List Pq}(h:n4 a):qG a:=fun x hx=>by
 obtain⟨i,e⟩:=List.mem_iff_getElem?.mp hx;obtain⟨y,c,hs⟩:=h.2 i x e;exact⟨y,An c,hs⟩
def HX{l c:List Pq}(h:n4 c)(hs:∀x∈c,x∈l):¬eF l:=fun a=>h.1 (a c hs (NG h))
def NH{l R:List Pq}{z:Pq}(h:eF l)(hR:∀x∈z::R,∀y∈z::l,iQ x y=true->y≠z/\y∈R)(f:∀x∈R,x∈l):eF (l++[z]):=fun A ha c=>by
 have key:∀x∈A,(x=z\/x∈R)->∃y∈A,y∈R/\iQ x y=true:=fun x hx hc=>by
  obtain⟨y,hy,e⟩:=c x hx;have g:y∈z::l:=by
   rcases List.mem_append.mp (ha y hy) with h|h
   ·exact At _ h
   ·rw[List.mem_singleton.mp h];exact Ar
  have:=hR x (hc.elim (fun e=>by rw[e];exact Ar) (At _)) y g e;exact⟨y,hy,this.2,e⟩
 have d:(A.filter fun x=>decide (x∈R))=[]:=by
  refine h _ (fun x hx=>f x (of_decide_eq_true (List.mem_filter.mp hx).2)) fun x hx=>?_;obtain⟨h1,h2⟩:=List.mem_filter.mp hx;obtain⟨y,hy,a,e⟩:=key x h1 (.inr (of_decide_eq_true h2));exact⟨y,List.mem_filter.mpr ⟨hy,decide_eq_true a⟩,e⟩
 have hz:z∉A:=fun hz=>by
  obtain⟨y,hy,a,_⟩:=key z hz (.inl rfl);have:y∈(A.filter fun x=>decide (x∈R)):=List.mem_filter.mpr ⟨hy,decide_eq_true a⟩;rw[d] at this;cases this
 refine h A (fun x hx=>?_) c;rcases List.mem_append.mp (ha x hx) with h|h
 ·exact h
 ·rw[List.mem_singleton.mp h] at hx;exact absurd hx hz
end K1
end
section
namespace K51
open K1
open PySem L2 STb
abbrev lc:Stmt:=top 41
abbrev qH:Stmt:=top 40
def eP(H:Hp)(kv:List Key×V)(x:Pq):Prop:=kv.1=x.1.map Sum.inl/\∃b,kv.2=.ref b/\Tp H b x.2
def Sec(H:Hp)(d:Addr)(ps:List Pq):Prop:=∃kvs,H d=some (.dT kvs)/\Paired (eP H) kvs ps
def Sec.same{H H':Hp}{d:Addr}{ps:List Pq}(h:Sec H d ps)(s:Same H H'):Sec H' d ps:=let ⟨kvs,e,p⟩:=h;⟨kvs,s _ _ e,Paired.mapP p fun _ _ ⟨h1,b,h2,a⟩=>⟨h1,b,h2,s.tp a⟩⟩
def Sec.upd{H:Hp}{d e:Addr}{ps:List Pq}{o o':HO}(h:Sec H d ps)(he:H e=some o')(f:∀xs,o'≠.tup xs)(hd:d≠e):Sec (L2.upd H e o) d ps:=let ⟨kvs,e1,p⟩:=h;⟨kvs,by rw[au hd];exact e1,Paired.mapP p fun _ _ ⟨h1,b,h2,a⟩=>⟨h1,b,h2,by
 show L2.upd H e o b=_;rw[au (fun z=>by subst z;have c:H b=some _:=a;rw[he] at c;cases c;exact f _ rfl)];exact a⟩⟩
def sec_val{H:Hp}:∀{kvs:List (List Key×V)}{ps:List Pq},Paired (eP H) kvs ps->∀p:List Int,(valV kvs (p.map Sum.inl)=none/\p∉ps.map (·.1))\/∃b q,valV kvs (p.map Sum.inl)=some (.ref b)/\(p,q)∈ps/\Tp H b q
 |_,_,.nil,p=>.inl ⟨rfl,by simp⟩
 |kv::kvs,x::ps,.cons ⟨h1,b,h2,h3⟩ t,p=>by
  by_cases e:x.1=p
  ·refine .inr ⟨b,x.2,?_,?_,h3⟩
   ·rw[mW (by rw[h1,e]),h2]
   ·rw[<-e];exact Ar
  ·have a:¬kv.1=p.map Sum.inl:=fun z=>e (f'.mp (h1.symm.trans z))
   rcases sec_val t p with ⟨g1,g2⟩|⟨c,q,g1,g2,g3⟩
   ·refine .inl ⟨by rw[jt a];exact g1,?_⟩
    rw[AF,List.mem_cons];rintro(z|z)
    ·exact e z.symm
    ·exact g2 z
   ·exact .inr ⟨c,q,by rw[jt a];exact g1,At _ g2,g3⟩
def HY{H:Hp}{kvs:List (List Key×V)}{ps:List Pq}(h:Paired (eP H) kvs ps){x:Pq}{b:Addr}(hx:x.1∉ps.map (·.1))(hb:Tp H b x.2):∃a,putK kvs (x.1.map Sum.inl) (.ref b)=a/\Paired (eP H) a (ps++[x])/\a.length=kvs.length+1:=by
 have c:valV kvs (x.1.map Sum.inl)=none:=by
  rcases sec_val h x.1 with ⟨g,_⟩|⟨e,q,_,g2,_⟩
  ·exact g
  ·exact absurd (List.mem_map.mpr ⟨_,g2,rfl⟩) hx
 refine⟨_,Gh _ c,?_,by rw[Af];rfl⟩;have d:∀{kvs:List (List Key×V)}{ps:List Pq},Paired (eP H) kvs ps->Paired (eP H) (kvs++[(x.1.map Sum.inl,.ref b)]) (ps++[x]):=fun{kvs ps} h=>by
  induction h with
  |nil=>exact .cons ⟨rfl,b,rfl,hb⟩ .nil
  |cons r t ih=>exact .cons r ih
 exact d h
abbrev EM(K:Ac):TT:=mU (dv (ku true K) (aM 0) (dv (j' K) (aM 1) (tC (.int 0))))
section
variable{P:Program}{w:World}{K:Ac}{mg:Str->Option Value}{base:Heap}
abbrev oth(x:Pq):Ξ:=(rims x.2).filter fun r=>!decide (r=x.1)
def v0:Sp:=fun vs H Q _=>∃t x,vs=[.ref t]/\Pr2 H t x/\x.2.length<=5/\∀D H' bs,Same H H'->H D=none->H' D=some (.lst (List.map V.ref bs))->Tps H' bs (oth x)->Q (.ref D) H'
def NI:zl ["pair"] ["pair"] (ze lc):=⟨rfl,rfl,rfl,δ,rfl,δ,δ⟩
def NJ{f fr:Addr}{fd g:FuncData}(F:Fun K "other_rims" "other_rims" lc f fd)(B:Bt mg)(Fr:Fun K "rims_of" "rims_of" hU fr g)(L:Binds K g ["piece"] [])(M:mg "rims_of"=some (.ref fr)):FnOk P w K mg base aR 2 f fd ["pair"] v0:=by
 have S:FnOk P w K mg base aR 1 fr g ["piece"] k8:=n3 Fr B;refine F.ok NI (fun vs H Q E h=>?_) (fun cdv A outer s H vs Q E hr h=>?_)
 ·obtain⟨t,x,rfl,_⟩:=h;rfl
 ·obtain⟨t,x,rfl,⟨a,b,ht,ha,hb⟩,I,k⟩:=h
  have J:=hr.units;refine⟨_,zg (zm (zt ["pair"] ["rim","pair"] [none,some 0] (zv (zo S hr rfl M Fr.kp L .nil aF (ae (cK eK (pv 0) zf (fun _ _=>rfl)) ap))) (fun l C s₀ H₀ ex=>zi (i:=0) (cO ["rim","pair"]) rfl (Or.inl rfl))
   (fun l C s₀ H₀ ex=>pN (zn (Lx J) (pv 0) (cK eK (pv 1) zf (fun _ _=>rfl)) (aK _))) (fun l C s₀ H₀ ex=>pv 0) (hfr:=cw (ze lc) δ) (tc:=EM K))),?_⟩
  refine⟨_,rfl,t,_,_,_,rfl,rfl,SqT.of ht,zD (j:=1) rfl,b,x.2,rfl,hb,I,fun N H1 T c _ q d=>⟨N,rfl,⟨_,SqL.of q⟩,fun D u=>?_⟩⟩;refine zB (EJ (p:=fun r=>!decide (r=x.1)) (fun o os H' R v y _ hR=>⟨_,rfl,_,rfl,t,_,_,_,rfl,rfl,SqT.of ((c.trans v) _ _ ht),zD (j:=0) rfl,.inl ⟨o,a,os,x.1,rfl,rfl,y,(c.trans v).tp ha,_,rfl,?_⟩⟩) (SqL.of q) d (AB (gd _) ω) u fun O bs z e G=>k D O bs (c.trans z) (c.free u) e G);rw[if_pos rfl];exact hR H' (Same.refl _)
end
end K51
end
section
namespace DCp
open PySem
def EN:mroOf (.type "dict")=pure [.type "dict",.type "object"]:=by rw[mroOf_type];kernel_rfl
def NK:typeLookup (.type "dict") "__new__"=pure (some (.builtin "dict.__new__")):=by rw[typeLookup_type,builtinLookup_eq_fast];kernel_rfl
def zW:TypeCalled "dict" "dict.__new__" "dict.__init__":=
 ⟨δ,δ,⟨_,_,EN⟩,madeBy_type EN NK δ,δ,by rw[isSubtype_type];kernel_rfl,PySem.F.slot_dict_init⟩
def NL(a:Value):checkTypeCall "dict" ⟨[a],[]⟩=pure ():=by kernel_rfl
def NM(a:Value):checkBuiltinCall "dict.__new__" ⟨[.type "dict",a],[]⟩=pure ():=by kernel_rfl
def NN:entryFor table "dict.__new__"=some Builtin.«dict.__new__»:=entryFor_of_tree (by kernel_rfl)
def HZ:plainId "dict.__new__"=true:=δ
def NO:isSubtype (.type "dict") (.type "dict")=pure true:=by rw[isSubtype_type];kernel_rfl
section
variable{prog:Program}{w:World}{A:Around}{E:Ω}{s:Shared}
def NP(a:Value){Q₁:Ω}(h:Q₁ (.ref s⁻¹) {s with heap:=s.heap.push {cls:=.type "dict",data:=.dict #[]}}):codeAny (model prog w) A (.call (.builtin "dict.__new__") ⟨[.type "dict",a],[]⟩) (wants Q₁ E) s:=by
 refine codeAny_of_tree (show wpAny _ A.in1 (do checkBuiltinCall "dict.__new__" ⟨[.type "dict",a],[]⟩;again (.builtin "dict.__new__" ⟨[.type "dict",a],[]⟩)) _ _ s from Aa (wpAny_of_eq (NM a) (Ad ⟨plainId_quiet HZ _,codeAny_builtin NN ?_⟩)));rw[Around.under_plainId HZ _];unfold Builtin.«dict.__new__»;have c:=NO;have e:=EN;obtain⟨hp,g,d,tk,os⟩:=s;dsimp only;refine Aa (wpAny_of_eq (a:=true) rfl ?_);simp only[Bool.not_true,Al,if_false];refine Aa (wpAny_of_eq c ?_);simp only[Bool.not_true,Al,if_false];refine Aa (wpAny_of_eq e ?_);rw[if_neg ξ];refine Aa (AW ?_);exact Ad h
end
end DCp
end
section
namespace DPr
open PySem PyProof.Rows
section
variable{prog:Program}{w:World}{A:Around}{E:Ω}{s:Shared}
def NQ:typeLookup (.type "list") "keys"=pure none:=by rw[typeLookup_type,builtinLookup_eq_fast];kernel_rfl
def NS{a:Addr}{o:Obj}{xs:Array Value}{k:Nat}{Q:Option Value->Shared->Prop}(hx:s.heap.get? a=some o)(hc:o.cls=.type "list")(l:o.data=.seq xs k)(hd:o.dict=none)(q:A.handled=none)(h:∀h' tk e,Heap.NewExcOf s.heap h' e "AttributeError"->Q none {s with heap:=h',toks:=tk}):wpAny (model prog w) A (getAttr? (.ref a) "keys") Q E s:=by
 obtain⟨c,u,v,p⟩:=o;simp only at hc l hd;subst hc l hd;obtain⟨hp,g,d,tk,os⟩:=s;have j:∀f,(⟨hp,g,d,f,os⟩:Shared).TypeIs (.ref a) "list":=fun _=>⟨_,hx,rfl⟩;have f1:=sub_AttributeError;have f3:=F.slot_list_getattribute.lookup;have f4:=F.slot_list_getattribute.bind (.ref a);have f5:=am_list_getattr_none;unfold getAttr? getAttrBy? getAttrBy
 repeat(any_goals(first|assumption|exact j _|((with_reducible show wpAny _ _ (call (Value.builtin "list.__getattribute__") _ _) _ _ _);refine call_meets F.slot_list_getattribute (j _) am_entry_list_getattribute (F.args_list_getattribute_2 _ _) (meets_getattribute_miss_list a xs k p "keys" _ NQ ξ (by size_fits)) ⟨hx,q,fun h' f e i=>?_⟩)|wp_step))
 obtain⟨t',r,he⟩:=i.there;show wpAny _ _ (getattributeRaised _ _ _ _ _ _ _) _ _ _;unfold getattributeRaised
 repeat(any_goals(first|assumption|wp_step))
 exact h _ _ _ i.of
def H_:entryFor table "dict.update.loop"=some Builtin.«dict.update.loop»:=entryFor_of_tree (by kernel_rfl)
def v7:plainId "dict.update.loop"=true:=δ
abbrev lp(D I:Addr)(i:Int):Code:=.builtin "dict.update.loop" ⟨[.ref D,.ref I,rawInt i,.none],[]⟩
variable{K:Type}[DecidableEq K]{knd:KeyKind prog w K}
abbrev Pr(K:Type):Type:=Addr×List K×Addr×Value
def Good(knd:KeyKind prog w K)(h:Heap)(x:Pr K):Prop:=h.IsTuple x.1 #[.ref x.2.2.1,x.2.2.2]/\AU knd h x.2.1 x.2.2.1
def qK(xs:List (List K×Addr×Value))(ts:List (Pr K)):List (List K×Addr×Value):=ts.foldl (fun acc x=>storedH acc x.2.1 x.2.2.1 x.2.2.2) xs
def Ia{h h':Heap}{x:Pr K}{D I:Addr}{o:Obj}(g:Good knd h x)(y:∃o,h.get? D=some o/\o.cls=.type "dict")(A:∃o,h.get? I=some o/\o.cls=.type "list_iterator")(i:∀b o,b≠D->b≠I->h.get? b=some o->h'.get? b=some o):Good knd h' x:=by
 obtain⟨⟨j,e1,e,l⟩,p,it,n,e2,f,q⟩:=g;obtain⟨C,r,s⟩:=y;obtain⟨E,u,v⟩:=A;have ne:∀{a:Addr}{d:Obj},h.get? a=some d->d.cls=.type "tuple"->a≠D/\a≠I:=fun{a d} c ca=>by
  refine⟨fun z=>?_,fun z=>?_⟩
  ·rw[z,r] at c
   rw[<-As c,s] at ca;exact absurd ca ξ
  ·rw[z,u] at c
   rw[<-As c,v] at ca;exact absurd ca ξ
 exact⟨⟨j,i _ _ (ne e1 e).1 (ne e1 e).2 e1,e,l⟩,p,it,n,i _ _ (ne e2 f).1 (ne e2 f).2 e2,f,q⟩
def Ib{h h':Heap}{D I:Addr}{xs:List (List K×Addr×Value)}(d:h.DictOfH (tupleKind knd) D xs)(c:D≠I)(r:∃o,h.get? I=some o/\o.cls=.type "list_iterator")(e:∀b o,b≠I->h.get? b=some o->h'.get? b=some o):h'.DictOfH (tupleKind knd) D xs:=by
 obtain⟨o,es,ep,f,hc,hd,he,g,i⟩:=d;obtain⟨s,j,l⟩:=r;refine⟨o,es,ep,e _ _ c f,hc,hd,he,fun x hx=>?_,i⟩;obtain⟨p,it,n,e2,a,q⟩:=g x hx;refine⟨p,it,n,e _ _ (fun z=>?_) e2,a,q⟩;rw[z,j] at e2;rw[<-As e2,l] at a;exact absurd a ξ
def pair_items{t:Addr}{c:Array Value}{Q:List Value->Shared->Prop}(ht:s.heap.IsTuple t c)(h:Q c.toList s):wpAny (model prog w) A (Builtin.Dict.pairItems (.ref t)) Q E s:=by
 obtain⟨o,a,hc,n,hd⟩:=ht;unfold Builtin.Dict.pairItems;refine Aa (wpAny_typeOf (show s.TypeIs (.ref t) "tuple" from⟨o,a,hc⟩) ?_);rw[if_pos ξ];exact Aa (wpAny_seqItems a hd (Ad h))
def NT(xs:List (List K×Addr×Value))(k:List K)(a:Addr)(v:Value):(storedH xs k a v).length<=xs.length+1:=by
 unfold storedH;split
 ·rw[Ab];(first|lia|omega)
 ·rw[Af];simp
def Ie{D I L:Addr}{ts:List (Pr K)}{R:Result->Shared->Prop}(u:A.handled=none)(hu:A.units+1<cLine)(p:D≠I)(F:L≠D)(y:L≠I):∀(k j:Nat)(s:Shared)(xs:List (List K×Addr×Value)),ts.length-j=k->j<=ts.length->s.heap.IsListIter I L j->s.heap.IsList L (ts.map fun x=>Value.ref x.1).toArray->(∀x∈ts,Good knd s.heap x)->
   s.heap.DictOfH (tupleKind knd) D xs->xs.length+k<=sizeLine->
   (∀h' tk,h'.DictOfH (tupleKind knd) D (qK xs (ts.drop j))->(∀b o,b≠D->b≠I->s.heap.get? b=some o->h'.get? b=some o)->R (.ok (.ret .none)) {s with heap:=h',toks:=tk})->
   codeAny (model prog w) A (lp D I j) R s
 |0,j,s,xs,hk,hj,aB,hl,hg,hd,hz,hQ=>by
  have Q:j=ts.length:=ω
  subst Q;have W:=Walks.list (prog:=prog) (w:=w) (A:=A.in1) u I L y (ts.map fun x=>Value.ref x.1).toArray;refine codeAny_builtin H_ ?_;rw[Around.under_plainId v7 _];unfold Builtin.«dict.update.loop»;dsimp only[rawInt];refine Aa (W.done s _ _ ⟨by simpa using aB,hl⟩ fun h' tk d=>?_);dsimp only;unfold Builtin.Dict.addKeywords;refine Aa (wpAny_of_eq (a:=()) rfl ?_);obtain⟨c,f,g,_⟩:=aB;refine Ad (hQ h' tk ?_ fun b o _ hb e=>d b o (by simpa using hb) e);rw[List.drop_length];exact Ib hd p ⟨c,f,g⟩ fun b o hb e=>d b o (by simpa using hb) e
 |k+1,j,s,xs,hk,hj,aB,hl,hg,hd,hz,hQ=>by
  have W:=Walks.list (prog:=prog) (w:=w) (A:=A.in1) u I L y (ts.map fun x=>Value.ref x.1).toArray;have h:j<ts.length:=ω
  refine codeAny_builtin H_ ?_;rw[Around.under_plainId v7 _];unfold Builtin.«dict.update.loop»;dsimp only[rawInt];refine Aa (W.item j s _ _ (by simpa using h) ⟨aB,hl⟩ fun v h1 tk G z d=>?_);have S:v=.ref (ts[j]).1:=by
   have:(ts.map fun x=>Value.ref x.1).toArray[j]?=some (Value.ref (ts[j]).1):=by simp[h]
   exact As (G.symm.trans this)
  subst S;have X:=hg ts[j] (List.getElem_mem h);obtain⟨c,f,g,_⟩:=id aB;have C:∃o,s.heap.get? D=some o/\o.cls=.type "dict":=by
   obtain⟨o,es,ep,N,hc,_⟩:=hd;exact⟨o,N,hc.1⟩
  have i:∀b o,b≠D->b≠I->s.heap.get? b=some o->h1.get? b=some o:=fun b o _ hb e=>d b o (by simpa using hb) e;have T:∀x∈ts,Good knd h1 x:=fun x hx=>Ia (o:=c) (hg x hx) C ⟨c,f,g⟩ i;have U:h1.DictOfH (tupleKind knd) D xs:=Ib hd p ⟨c,f,g⟩ fun b o hb e=>d b o (by simpa using hb) e;obtain⟨O,P⟩:=T ts[j] (List.getElem_mem h);dsimp only;refine Aa (A0 (Aa (wpAny_tryCatch (pair_items (s:={s with heap:=h1,toks:=tk}) O ?_))));dsimp only;refine A0 (wpAny_dictSet_heap (knd:=tupleKind knd) (s:={s with heap:=h1,toks:=tk}) (hsz:=by (first|lia|omega)) (tupleKind_room_in1 hu) P U fun h2 H q=>?_);have E:∀b o,b≠D->b≠I->s.heap.get? b=some o->h2.get? b=some o:=fun b o hb hi e=>by rw[q.2 b hb];exact i b o hb hi e
  have l:h2.IsListIter I L (j+1):=z.1.at fun o e=>by rw[q.2 I (Ne.symm p)];exact e
  have r:h2.IsList L (ts.map fun x=>Value.ref x.1).toArray:=z.2.at fun o e=>by rw[q.2 L F];exact e
  refine Ad ⟨plainId_quiet v7 _,?_⟩;refine Ie u hu p F y k (j+1) {s with heap:=h2,toks:=_} _ ω ω l r (fun x hx=>Ia (o:=c) (hg x hx) C ⟨c,f,g⟩ E) H (by have:=NT xs (ts[j]).2.1 (ts[j]).2.2.1 (ts[j]).2.2.2;(first|lia|omega)) fun h' J M k3=>hQ h' J ?_ fun b o hb hi e=>k3 b o hb hi (E b o hb hi e);rw[List.drop_eq_getElem_cons h];exact M
end
end DPr
end
section
namespace DPr
open PySem PyProof.Rows DCp
section
variable{prog:Program}{w:World}{A:Around}{E:Ω}{s:Shared}{K:Type}[DecidableEq K]{knd:KeyKind prog w K}
def EO{L:Addr}{o:Obj}{n:Nat}{ts:List (Pr K)}{Q:Ω}(H:A.handled=none)(hu:A.units+2<cLine)(J:s.heap.get? L=some o)(hc:o.cls=.type "list")(M:o.data=.seq (ts.map fun x=>Value.ref x.1).toArray n)(hdn:o.dict=none)(X:∀x∈ts,Good knd s.heap x)(hz:ts.length<=sizeLine)(h:∀h' tk,h'.DictOfH (tupleKind knd) s⁻¹ (qK [] ts)->(∀b o,b<s⁻¹->s.heap.get? b=some o->h'.get? b=some o)->Q (.ref s⁻¹) {s with heap:=h',toks:=tk}):wpAny (model prog w) A (call (.type "dict") [.ref L]) Q E s:=by
 obtain⟨c,tl,Y⟩:=zW.mro;have Z:=zW.made;have bg:=zW.sub;refine wpAny_call (codeAny_of_tree ?_);show wpAny _ _ (callAny (.type "dict") _) _ _ _;refine Ad ⟨Code.quiet_builtin _ δ,codeAny_builtin F.entry_type_call ?_⟩;rw[Around.under_plain (weight_type_call_type "dict" [.ref L] []) rfl];have h1:=zW.notType;have h2:=zW.canCreate;have tw:=NL (.ref L)
 repeat(any_goals(first|assumption|wp_step))
 refine codeAny_mono (NP (.ref L) (E:=E) (Q₁:=fun obj l=>obj=.ref s⁻¹/\l={s with heap:=s.heap.push {cls:=.type "dict",data:=.dict #[]}}) ⟨rfl,rfl⟩) fun r l hr=>?_;cases r with
 |error e=>exact hr
 |ok fl=>
  cases fl with
  |ret obj=>
   obtain⟨rfl,rfl⟩:=hr;have v:(s.heap.push {cls:=.type "dict",data:=.dict #[]}).get? s⁻¹=some {cls:=.type "dict",data:=.dict #[]}:=Aq _ rfl;have y:Shared.TypeIs {s with heap:=s.heap.push {cls:=.type "dict",data:=.dict #[]}} (.ref s⁻¹) "dict":=⟨_,v,rfl⟩;have yb:=zW.init.lookup;have wC:=zW.init.bind (.ref s⁻¹)
   repeat(any_goals(first|assumption|wp_step))
   refine codeAny_mono (codeAny_call_builtin (R:=wants (fun r p=>r=.none/\∃h' tk,p={s with heap:=h',toks:=tk}/\h'.DictOfH (tupleKind knd) s⁻¹ (qK [] ts)/\
     (∀b o,b<s⁻¹->s.heap.get? b=some o->h'.get? b=some o)) E) zW.init.plain F.entry_dict_init (zW.init.check _ _ _ _ _ _ _ _ y (F.args_dict_init_2 _ _) ?_)) fun N p d=>?_
   ·have z:L<s⁻¹:=Ap J
    have a:(s.heap.push {cls:=.type "dict",data:=.dict #[]}).get? L=some o:=Ae _ J;have W:Shared.TypeIs {s with heap:=s.heap.push {cls:=.type "dict",data:=.dict #[]}} (.ref L) "list":=⟨o,a,hc⟩;unfold Builtin.«dict.__init__»;refine Aa ?_;unfold Builtin.Dict.selfAndRest;refine Aa (wpAny_notOrdered_dict y ?_);refine Aa (show wpAny _ _ (pure s⁻¹) _ _ _ from Ad ?_);refine Ad ?_;show wpAny _ _ (Builtin.Dict.updateCommon "dict.__init__" "dict" s⁻¹ [Value.ref L] []) _ _ _;unfold Builtin.Dict.updateCommon Builtin.Dict.updateFrom;dsimp only;refine Aa (wpAny_typeOf W ?_);rw[if_pos ξ];refine Aa (NS (s:={s with heap:=s.heap.push {cls:=.type "dict",data:=.dict #[]}}) a hc M hdn H fun h2 q e2 f=>?_);rw[if_pos (by rfl)];refine Aa (wpAny_rule ?_);have C:h2.IsList L (ts.map fun x=>Value.ref x.1).toArray:=⟨o,f.keeps _ _ a,hc,n,M⟩;refine Aa (wpAny_pyIter_list (s:={s with heap:=h2,toks:=q}) C ?_);have G:h2.get? s⁻¹=some {cls:=.type "dict",data:=.dict #[]}:=f.keeps _ _ v;have g:s⁻¹<h2.objs.size:=Ap G;have i:∀b ob,h2.get? b=some ob->(h2.push {cls:=.type "list_iterator",data:=.fields #[.ref L,.int 0 0]}).get? b=some ob:=fun b ob e=>Ae _ e;have j:∀b ob,s.heap.get? b=some ob->(h2.push {cls:=.type "list_iterator",data:=.fields #[.ref L,.int 0 0]}).get? b=some ob:=fun b ob e=>i _ _ (f.keeps _ _ (Ae _ e));refine Ad ⟨plainId_quiet v7 _,?_⟩;refine Ie (knd:=knd) (ts:=ts) (L:=L) (D:=s⁻¹) (I:=h2.objs.size) (by exact H) (by first|exact hu|(show A.units+1<cLine;(first|lia|omega))) (AA g) (AA z) (AA (Nat.lt_trans z g)) ts.length 0 {s with heap:=h2.push {cls:=.type "list_iterator",data:=.fields #[.ref L,.int 0 0]},toks:=q} [] ω (AY _)
     ⟨_,Aq _ rfl,rfl,rfl⟩ (C.at fun ob e=>i _ _ e) (fun x hx=>?_) ⟨_,#[],0,i _ _ G,⟨rfl,rfl,rfl⟩,rfl,rfl,(fun x hx=>nomatch hx),List.nodup_nil⟩ (by simpa using hz) fun h' u dd k3=>⟨rfl,h',u,rfl,dd,fun b ob hb e=>k3 b ob (AA hb) (AA (Nat.lt_trans hb g)) (j _ _ e)⟩
    obtain⟨⟨O,e1,P⟩,S,it,m,e2,T⟩:=X x hx;exact⟨⟨O,j _ _ e1,P⟩,S,it,m,j _ _ e2,T⟩
   ·cases N with
    |error e=>exact d
    |ok fl₂=>
     cases fl₂ with
     |ret r=>
      obtain⟨rfl,h',u,rfl,U,hk'⟩:=d
      repeat(any_goals(first|assumption|wp_step))
      exact h _ _ U hk'
     |_=>exact d.elim
  |_=>exact hr.elim
end
end DPr
namespace L2
open PySem PySem.Spec PyProof.Rows
def v8(kvs:List (List Key×V)):List (List Key×V):=kvs.foldl (fun acc kv=>putK acc kv.1 kv.2) []
section
variable{X:Cx}
def Ig:∀(kvs acc:List (List Key×V)),(kvs.foldl (fun acc kv=>putK acc kv.1 kv.2) acc).length<=acc.length+kvs.length
 |[],acc=>by simp
 |kv::r,acc=>by
  rw[List.foldl_cons];have h1:=Ig r (putK acc kv.1 kv.2);have h2:=sB acc kv.1 kv.2;rw[Am];(first|lia|omega)
def EO(hc:X.calm=true)(hu:X.A.units+64<cLine):fm X (.type "dict") (fun xs H Q=>∃(l:Addr)(ts:List Addr)(kvs:List (List Key×V)),xs=[.ref l]/\SqL X.K H l (ts.map V.ref)/\
  Paired (fun t(kv:List Key×V)=>∃b,H t=some (.tup [.ref b,kv.2])/\H b=some (.tup (kv.1.map kV))) ts kvs/\∀D,H D=none->Q (.ref D) (upd H D (.dT (v8 kvs)))):=by
 intro aa s σ H xs us Q I r h;obtain⟨l,ts,kvs,rfl,hq,hp,q⟩:=h;obtain⟨u,rfl,g⟩:=vals1 r;cases g;obtain⟨c,i,⟨o,n,e1,j,p,y⟩,hz⟩:=I.list hq;obtain rfl:=bw i;have S:=A1 hp;have get:∀{ts:List Addr}{kvs:List (List Key×V)},Paired (fun t(kv:List Key×V)=>∃b,H t=some (.tup [.ref b,kv.2])/\H b=some (.tup (kv.1.map kV))) ts kvs->
   ∃ps:List (DPr.Pr Key),ps.map (fun x=>Value.ref x.1)=ts.map Value.ref/\(∀x∈ps,DPr.Good (zy X.prog X.w) s.heap x)/\∀acc(ys:List (List Key×Addr×Value)),KT H acc ys->KT H (kvs.foldl (fun acc kv=>putK acc kv.1 kv.2) acc) (DPr.qK ys ps):=by
  intro ts kvs z
  induction z with
  |nil=>exact⟨[],rfl,(fun x hx=>nomatch hx),fun acc ys k=>k⟩
  |@cons t kv ts kvs hh t' ih=>
   obtain⟨ps,g1,g2,g3⟩:=ih;obtain⟨b,ht,hb⟩:=hh;obtain⟨c,C,E,_⟩:=I.tuple (SqT.of (K:=X.K) ht);obtain⟨vs,e2,F⟩:∃v,c=[.ref b,v]/\RelV kv.2 v:=by
    cases C with
    |cons ra rb=>
     cases rb with
     |cons rc rd=>
      cases rd;cases ra;exact⟨_,rfl,rc⟩
   subst e2;refine⟨(t,kv.1,b,vs)::ps,by rw[AF,AF,g1],fun x hx=>?_,fun acc ys k=>?_⟩
   ·rcases List.mem_cons.mp hx with rfl|hx
    ·exact⟨E,iv I.hok hb⟩
    ·exact g2 x hx
   ·exact g3 _ _ (k.put kv.1 hb F)
 obtain⟨ps,g1,g2,g3⟩:=get hp;have N:ps.length=kvs.length:=by
  have:=congrArg List.length g1;rw[Ab,Ab] at this;(first|lia|omega)
 rw[Ab] at hz;refine DPr.EO (knd:=zy X.prog X.w) (ts:=ps) (n:=n) (I.ok.hd hc) ω e1 j (by rw[g1];exact y) p g2 ω fun h' tk dd f=>?_;have a:=g3 [] [] .nil;have d:H s⁻¹=none:=I.hok.fresh (Ag _);obtain⟨G,es,ep,O,h2,J,L,P,M⟩:=dd;refine⟨.ref s⁻¹,_,I.laid (o:=.dT (v8 kvs)) (fun b u e=>f b u (Ap e) e) (Ag _) ⟨?_,?_,DPr.qK [] ps,a.keeps fun b ys e=>?_,G,es,ep,O,h2,J,L,M⟩,rfl,q _ d⟩
 ·have:=Ig kvs []
  unfold v8;simp at this;(first|lia|omega)
 ·exact beq_eq_false_iff_ne.mpr (Nat.ne_of_gt I.big)
 ·rw[au (zh e d)];exact e
end
end L2
end
section
namespace Dk
open PySem PySem.Spec PyProof.Rows
def NU:entryFor table "dict_itemiterator.__iter__"=some Builtin.«dict_keyiterator.__iter__»:=
 entryFor_alias (id':="dict_keyiterator.__iter__") (by kernel_rfl) rfl δ (by kernel_rfl)
section
variable{prog:Program}{w:World}{A:Around}{E:Ω}{s:Shared}{it d:Addr}{i n ep:Nat}
def NV{Q:Ω}(c:II s.heap it d i n ep)(h:Q (.ref it) s):wpAny (model prog w) A (pyIter (.ref it)) Q E s:=by
 obtain⟨f0,b,k,v,_,e⟩:=c;have a:s.TypeIs (.ref it) "dict_itemiterator":=⟨_,e,rfl⟩;refine wpAny_pyIter_slot a PySem.F.slot_dict_itemiterator_iter (A8 PySem.F.slot_dict_itemiterator_iter a NU ?_ (PySem.F.args_dict_itemiterator_iter_1 _));show wpAny _ _ (ret (.ref it)) _ _ s;exact Ad ⟨_,rfl,"dict_itemiterator",_,a,PySem.F.slot_dict_itemiterator_next.lookup,h⟩
def NW{aT:List Expr}{h:Nat}{pos:Pos}{a:Addr}{Q:Unit->Shared->Prop}(j:II s.heap it d i n ep)(c:∀h',II h' it d i n ep->(∀b o,b≠it->s.heap.get? b=some o->h'.get? b=some o)->Q () {s with heap:=h'}):wpAny (model prog w) A (letOwnedTupleGo (.Tuple aT h pos) (.ref it) (.ref a)) Q E s:=by
 obtain⟨f0,g,k,v,hf,he⟩:=j;unfold letOwnedTupleGo;refine Aa (wpAny_load he ?_);show wpAny _ _ (if(["enumerate","zip","dict_itemiterator","dict_reverseitemiterator","odict_iterator","itertools.zip_longest","itertools.pairwise"].contains "dict_itemiterator" &&
   (#[f0,.bool g,.ref d,.int i 0,.int n 0,.int ep 0,k,v]:Array Value)[0]?==some (rawInt a))=true then _ else _) Q E s
 refine wpAny_ite_split (fun _=>?_) (fun _=>?_)
 ·refine Aa (wpAny_rule ?_)
  show wpAny _ _ (setField (.ref it) 0 .none) Q E s;exact A2 he (by simp) fun h' he' f=>c h' ⟨_,_,_,_,.inl rfl,he'⟩ fun b o hb e=>f.extBut b o hb e
 ·exact Ad (c s.heap ⟨_,_,_,_,hf,he⟩ fun b o _ e=>e)
end
end Dk
namespace L2
open PySem PySem.Spec PyProof.Rows
def EQ(d:Addr)(o:Obj)(kvs:List (List Key×V)):It:=⟨fun i H=>i<kvs.length/\H d=some (.frz o (.dT kvs)),fun i H v H'=>∃p kv b,kvs[i]?=some kv/\v=.ref p/\H p=none/\H b=some (.tup (kv.1.map kV))/\H'=upd H p (.tup [.ref b,kv.2]),fun i H=>i=kvs.length/\H d=some (.frz o (.dT kvs))⟩
def NX{P:Program}{w:World}{K:Ac}{aT:List Expr}{x1:Nat}{cr:Pos}(d it:Addr){o:Obj}{kvs:List (List Key×V)}{es:Array DictEntry}{ep:Nat}(hne:it≠d)(x:o.data=.dict es ep)(hsz:es.size=kvs.length)(hx:o.ExactDict):Turn P w K (.Tuple aT x1 cr) (EQ d o kvs) [it] it (fun i h=>Dk.II h it d i es.size ep) where
 mem:=by simp
 obj:=fun i h st b hb=>by
  have e:b=it:=by simpa using hb
  subst e;obtain⟨f0,O,k0,S,_,e⟩:=st;exact⟨_,e,fun v z=>by cases z⟩
 keep:=fun i h h' st k=>st.at fun o e=>k it (by simp) o e
 item:=by
  intro X g hw j hc i aa s σ H E I hf st l;subst g hw j;obtain⟨hi,p⟩:=l;obtain⟨T,z,hs,ys,c,o',U,W,h1,h2,C,Y,h5⟩:=(show zT X.prog X.w H s.heap d (.frz o (.dT kvs)) from I.hok d _ p);obtain rfl:o=o':=As (T.symm.trans h1);have Z:es=U/\ep=W:=by rw[C] at x;cases x;exact⟨rfl,rfl⟩
  obtain⟨rfl,rfl⟩:=Z;have hm:Dk.IsD s.heap d es ep:=⟨o,h1,hx,C⟩;have a:i<es.size:=by rw[hsz];exact hi
  have q:kvs[i]?=some kvs[i]:=Aj hi;obtain⟨y,D,g1,g2⟩:=HQ c q;obtain⟨y',F,g3⟩:=kt_at c q;rw[D] at F;obtain rfl:=As F;have r:es.toList[i]?=some es[i]:=by simp[a]
  rw[Y,Ao,D] at r;simp only[Option.map_some,Option.some.injEq] at r;refine Dk.qt st hm a fun h' G ht hk=>?_;have hfr:H s⁻¹=none:=I.hok.fresh (Ag _);have eT:h'.get? s⁻¹=some {cls:=.type "tuple",data:=.seq #[.ref y.2.1,y.2.2]}:=by rw[ht,<-r];rfl
  have I1:Inv X aa σ (upd H s⁻¹ (.tup [.ref y.2.1,kvs[i].2])) {s with heap:=h'}:=
   I.grown (ch:=[it]) (t':=s.toks) (fun b hb=>hf b hb) (fun b o hb e=>hk b o (by simpa using hb) e) (Ag _) (show zT X.prog X.w _ h' _ (.tup [.ref y.2.1,kvs[i].2]) from⟨by show 2<=sizeLine;rw[sizeLine_eq];(first|lia|omega),[.ref y.2.1,y.2.2],.cons rfl (.cons g2 .nil),⟨_,eT,rfl,_,rfl⟩⟩)
  have u:it<s⁻¹:=by
   obtain⟨f0,O,k0,S,_,e⟩:=st;exact Ap e
  have f:∀b∈[it],bW X aa (upd H s⁻¹ (.tup [.ref y.2.1,kvs[i].2])) b:=fun b hb=>by
   obtain⟨f0,fr⟩:=hf b hb;have e:b=it:=by simpa using hb
   subst e;exact⟨by rw[au (AA u)];exact f0,fr⟩
  refine⟨_,rfl,Dk.NW (s:={s with heap:=h'}) G fun J L M=>?_⟩;have I2:Inv X aa σ (upd H s⁻¹ (.tup [.ref y.2.1,kvs[i].2])) {s with heap:=J}:=I1.turneds (s:={s with heap:=h'}) (t':=s.toks) (ch:=[it]) f (fun b o hb e=>M b o (by simpa using hb) e);exact⟨.ref s⁻¹,_,I2,rfl,⟨_,_,y.2.1,q,rfl,hfr,g3,rfl⟩,L,fun b hb=>(f b hb).1⟩
 done:=by
  intro X g hw j hc i aa s σ H E I hf st l;subst g hw j;obtain⟨f0,f1,f2,f3,f4,f5⟩:=hf it (by simp);obtain⟨hi,p⟩:=l;have hm:Dk.IsD s.heap d es ep:=⟨o,(show zT X.prog X.w H s.heap d (.frz o (.dT kvs)) from I.hok d _ p).1,hx,x⟩;have a:i=es.size:=by rw[hsz];exact hi
  subst a;exact Dk.EF (I.ok.hd hc) st hm fun h' N=>⟨rfl,I.turned (t':=s.toks) (fun b o hb e=>N b o hb e) f0 f1 f3 f4 f5⟩
 self:=fun A i s Q E st h=>Dk.NV st h
section
variable{X:Cx}
def NY(te:TE):TI:=fun σ H R=>te σ H fun x H1=>∃v d o kvs,x=.ref v/\H1 v=some (qu v d)/\H1 d=some (.frz o (.dT kvs))/\R (EQ d o kvs) H1
def NZ{aT:List Expr}{u:Nat}{cr:Pos}{l:Expr}{tl:TE}(y:PE X l tl):PI X (.Tuple aT u cr) l (NY tl):=by
 intro aa s σ H R I h;refine aX (y aa s σ H _ I h) fun v a ⟨x,H1,I1,g,q1⟩=>?_;obtain⟨v,d,o,kvs,e,i,hd,q⟩:=q1;subst e;cases g;have r:a.heap.IsItemsView v d:=(show zT X.prog X.w H1 a.heap v (qu v d) from I1.hok v _ i).1;obtain⟨j,z,hs,ys,c,o',es,ep,h1,h2,f,p,A⟩:=(show zT X.prog X.w H1 a.heap d (.frz o (.dT kvs)) from I1.hok d _ hd);obtain rfl:o=o':=As (j.symm.trans h1);have hsz:es.size=kvs.length:=by
  have:=congrArg List.length p;rw[Ab,<-A1 c] at this
  simpa using this
 have hm:Dk.IsD a.heap d es ep:=⟨o,h1,h2,f⟩;refine Dk.qo r hm ?_;have hfr:H1 a⁻¹=none:=I1.hok.fresh (Ag _);refine⟨a⁻¹,[a⁻¹],_,_,_,rfl,I1.kept (t':=a.toks) fun b o e=>Ae _ e,NX d _ (Nat.ne_of_gt hm.lt) f hsz h2,⟨_,_,_,_,.inl rfl,Aq _ rfl⟩,fun b hb=>?_,q⟩;have e:b=a⁻¹:=by simpa using hb
 subst e;exact I1.fpOk (Ag _) hfr
def ER(t:TE):TE:=fun σ H Q=>t σ H fun x H1=>∃d kvs,x=.ref d/\H1 d=some (.dT kvs)/\∀o,Q (.ref d) (upd H1 d (.frz o (.dT kvs)))
def ES{e:Expr}{t:TE}(h:PE X e t):PE X e (ER t):=by
 intro aa s σ H Q I q;refine aX (h aa s σ H _ I q) fun v f ⟨x,H1,I1,g,d,kvs,ex,hd,k⟩=>?_;subst ex;obtain⟨z,hs,ys,c,o,es,ep,h1,h2,j,l,p⟩:=(show zT X.prog X.w H1 f.heap d (.dT kvs) from I1.hok d _ hd);have a:KT (upd H1 d (.frz o (.dT kvs))) kvs ys:=KT.keeps c fun b zs e=>by rw[au (fun i=>by rw[i,hd] at e;cases e)];exact e
 exact⟨.ref d,_,mZ (ob:=.frz o (.dT kvs)) (t':=f.toks) I1 (by rw[hd];exact True.intro) (Heap.SameBut.refl _ _) ⟨o,h1⟩ ⟨h1,z,hs,ys,a,o,es,ep,h1,h2,j,l,p⟩,g,k o⟩
def N0(tk tv:TE):TE:=fun σ H Q=>∀p,H p=none->DG [(tk,tv)] σ (upd H p (.dT [])) fun ps H2=>∃b k v,ps=[(.ref b,v)]/\H2 p=some (.dT [])/\H2 b=some (.tup (List.map kV k))/\Q (.ref p) (upd H2 p (.dT [(k,v)]))
def N1{j l:Expr}{pos:Pos}{tk tv:TE}(hu:X.A.units+1<cLine)(hk:PE X j tk)(G:PE X l tv):PE X (.Dict [some j] [l] pos) (N0 tk tv):=by
 intro aa s σ H Q I q;have F:=I.hok.fresh (Ag s⁻¹);have J:=I.laid (a:=s⁻¹) (o:=.dT []) (h':=s.heap.push {cls:=.type "dict",data:=.dict #[]}) (t':=s.toks) (fun _ _ q=>Ae _ q) (Ag _) (Gu s.heap I.big);refine wpAny_Dict_any rfl rfl (by simp) (by simp) (aX (Kx hk G Kw aa _ σ _ _ J (q _ F)) fun L M ⟨ps,H2,I2,d,b,k,v,ep,e,f,p⟩=>?_);subst ep;cases d with
 |@cons p' w0 cB Bo h t=>
  cases t;obtain⟨u,N⟩:=w0;obtain⟨x,y⟩:=h;cases(show u=Value.ref b from x);obtain⟨z,hd,xs,d,dd⟩:=Dg I2.hok e;cases d;unfold storeAll;rw[List.forIn_cons];refine Aa (Aa (wpAny_dictSet_heap (hsz:=AY _) (knd:=tupleKind (zy X.prog X.w)) (by show X.A.units<cLine;(first|lia|omega)) (iv I2.hok f) dd fun h' r hs=>Ad ?_));show wpAny _ _ (forIn _ _ _) _ _ _;rw[List.forIn_nil];refine Ad ⟨.ref s⁻¹,_,?_,rfl,p⟩;obtain⟨i,es,ep,hq,h2,C,D,_,E⟩:=r;refine mZ I2 (by rw[e];exact True.intro) hs ⟨i,hq⟩ ⟨by show 1<=sizeLine;rw[sizeLine_eq];(first|lia|omega),hd,_,(KT.put (kvs:=[]) .nil k f y).keeps fun c ys g=>?_,i,es,ep,hq,h2,C,D,E⟩;rw[au (dg g e (fun z=>nomatch z))];exact g
end
end L2
end
section
namespace K51
open K1
open PySem L2 STb
abbrev n7:Stmt:=top 33
abbrev iU:Stmt:=top 34
abbrev Ch:Type:=List (List Int×Int)
def ksC(a:Ch):Ξ:=a.map (·.1)
def b'(a:Ch):List (List Key×V):=a.map fun c=>((c.1.map Sum.inl:List Key),V.int c.2)
def cF(a:Ch)(ps:List Int)(n:Int):Ch:=if ps∈ksC a then a.map (fun c=>if c.1=ps then(c.1,n) else c) else a++[(ps,n)]
def og(a:Ch):(b' a).length=a.length:=Ab _
def ET(a:Ch):(ksC a).length=a.length:=Ab _
def EU(a:Ch)(ps:List Int)(n:Int):putK (b' a) (ps.map Sum.inl) (.int n)=b' (cF a ps n):=by
 unfold putK b' cF;have ha:((a.map fun c=>((c.1.map Sum.inl:List Key),V.int c.2)).any fun kv=>decide (kv.1=ps.map Sum.inl))=decide (ps∈ksC a):=by
  rw[List.any_map]
  by_cases h:ps∈ksC a
  ·rw[decide_eq_true h,List.any_eq_true]
   obtain⟨c,hc,e⟩:=List.mem_map.mp h;exact⟨c,hc,decide_eq_true (f'.mpr e)⟩
  ·rw[decide_eq_false h,List.any_eq_false]
   intro c hc;simp only[Function.comp,decide_eq_true_eq,f'];rintro rfl;exact h (List.mem_map.mpr ⟨c,hc,rfl⟩)
 rw[ha]
 by_cases h:ps∈ksC a
 ·rw[decide_eq_true h,if_pos rfl,if_pos h,AC,AC]
  refine List.map_congr_left fun c hc=>?_;simp only[Function.comp]
  by_cases e:c.1=ps
  ·rw[if_pos e,if_pos (f'.mpr e)]
  ·rw[if_neg e,if_neg (fun z=>e (f'.mp z))]
 ·rw[decide_eq_false h,if_neg (by simp),if_neg h,Ah]
  rfl
def EV(a:Ch)(ps:List Int)(n:Int):ksC (cF a ps n)=if ps∈ksC a then ksC a else ksC a++[ps]:=by
 unfold cF
 by_cases h:ps∈ksC a
 ·rw[if_pos h,if_pos h]
  unfold ksC;rw[AC];refine List.map_congr_left fun c _=>?_;simp only[Function.comp];split<;>rfl
 ·rw[if_neg h,if_neg h]
  unfold ksC;rw[Ah]
  rfl
def N2{c:Ch}(ps:List Int)(n:Int)(h:(ksC c).Nodup):(ksC (cF c ps n)).Nodup:=by
 rw[EV]
 by_cases e:ps∈ksC c
 ·rw[if_pos e];exact h
 ·rw[if_neg e,AM]
  refine⟨h,by simp,fun a ha b hb z=>?_⟩;rw[List.mem_singleton] at hb;subst hb;subst z;exact e ha
def putC_mem{a:Ch}{ps q:List Int}{n:Int}(h:q∈ksC (cF a ps n)):q∈ksC a\/q=ps:=by
 rw[EV] at h
 by_cases e:ps∈ksC a
 ·rw[if_pos e] at h;exact .inl h
 ·rw[if_neg e] at h
  rcases List.mem_append.mp h with h|h
  ·exact .inl h
  ·exact .inr (List.mem_singleton.mp h)
def N3(a:Ch)(ps:List Int)(n:Int):(cF a ps n).length<=a.length+1:=by
 unfold cF;split
 ·rw[Ab];(first|lia|omega)
 ·rw[Af];simp
def Ih:∀{a:Ch},(ksC a).Nodup->∀c∈a,valV (b' a) (c.1.map Sum.inl)=some (.int c.2)
 |[],_,c,hc=>absurd hc (by simp)
 |d::a,h,c,hc=>by
  have h':(d.1::ksC a).Nodup:=h;rw[List.nodup_cons] at h';unfold valV b';rw[AF,List.find?_cons];rcases List.mem_cons.mp hc with rfl|hc
  ·rw[decide_eq_true rfl];rfl
  ·have e:¬d.1.map Sum.inl=(c.1.map Sum.inl:List Key):=fun z=>h'.1 (by rw[f'.mp z];exact List.mem_map.mpr ⟨c,hc,rfl⟩)
   rw[decide_eq_false e];exact Ih h'.2 c hc
abbrev oh(c:List Int×Int):Bool:=!decide (V.int c.2=V.int 0)
def EW(H:Hp)(t:Addr)(c:List Int×Int):Prop:=∃b,H t=some (.tup [.ref b,.int c.2])/\Tp H b c.1
def Prs(H:Hp)(ts:List Addr)(a:Ch):Prop:=Paired (EW H) ts a
def Prs.same{H H':Hp}{ts:List Addr}{a:Ch}(h:Prs H ts a)(s:Same H H'):Prs H' ts a:=Paired.mapP h fun _ _ ⟨b,e1,e2⟩=>⟨b,s _ _ e1,s.tp e2⟩
def Prs.length{H:Hp}{ts:List Addr}{a:Ch}(h:Prs H ts a):ts.length=a.length:=A1 h
def Prs.upd{H:Hp}{d:Addr}{o o':HO}{ts:List Addr}{a:Ch}(h:Prs H ts a)(hd:H d=some o')(e:∀xs,o'≠.tup xs):Prs (L2.upd H d o) ts a:=
 Paired.mapP h fun t c ⟨b,e1,e2⟩=>⟨b,by rw[au (dg e1 hd fun z=>e _ z.symm)];exact e1,by show L2.upd H d o b=_;rw[au (dg (show H b=some _ from e2) hd fun z=>e _ z.symm)];exact e2⟩
def Prs.snoc{H:Hp}{ts:List Addr}{a:Ch}{t:Addr}{c:List Int×Int}(h:Prs H ts a)(q:EW H t c):Prs H (ts++[t]) (a++[c]):=Paired.snoc h q
def Prs.append{H:Hp}{ts us:List Addr}{a ds:Ch}(h:Prs H ts a)(q:Prs H us ds):Prs H (ts++us) (a++ds):=by
 induction h with
 |nil=>exact q
 |cons r t ih=>exact .cons r ih
def Prs.get{H:Hp}:∀{ts:List Addr}{a:Ch}{i:Nat}{t:Addr},Prs H ts a->ts[i]?=some t->∃c,a[i]?=some c/\EW H t c
 |_,_,0,_,.cons h _,e=>by cases e;exact⟨_,rfl,h⟩
 |_,_,i+1,_,.cons _ t,e=>Prs.get (i:=i) t (by simpa using e)
def i5(a:Ch)(q:List Int):Int:=((a.find? fun c=>decide (c.1=q)).map (·.2)).getD 0
def N4(a:Ch)(q:List Int):(valV (b' a) (q.map Sum.inl)).getD (.int 0)=.int (i5 a q):=by
 unfold valV i5 b'
 induction a with
 |nil=>rfl
 |cons c r ih=>
  rw[AF,List.find?_cons,List.find?_cons]
  by_cases e:c.1=q
  ·rw[decide_eq_true e,decide_eq_true (f'.mpr e)];rfl
  ·rw[decide_eq_false e,decide_eq_false (fun z=>e (f'.mp z))];exact ih
def lf(acc:Ch)(t:List Int×Int):Ch:=cF acc t.1 (i5 acc t.1+t.2)
def b_(ts:Ch):Ch:=ts.foldl lf []
def gP(ts:Ch):Ch:=(b_ ts).filter oh
def v'(ts:Ch)(t:List Int×Int):b_ (ts++[t])=lf (b_ ts) t:=by unfold b_;rw[List.foldl_append];rfl
def wa{d:Type}{P:List d->Prop}(e:P [])(hs:∀l x,P l->P (l++[x]))(l:List d):P l:=by
 have:∀n,∀l:List d,l.length=n->P l:=by
  intro n
  induction n with
  |zero=>intro l a;rw[List.eq_nil_of_length_eq_zero a];exact e
  |succ n ih=>
   intro l a;have c:l≠[]:=fun z=>by rw[z] at a;simp at a
   rw[<-List.dropLast_concat_getLast c];exact hs _ _ (ih _ (by rw[List.length_dropLast];(first|lia|omega)))
 exact this _ l rfl
def Ii(ts:Ch):(ksC (b_ ts)).Nodup:=wa (P:=fun ts=>(ksC (b_ ts)).Nodup) List.nodup_nil (fun l x h=>by rw[v'];exact N2 _ _ h) ts
def Ij(ts:Ch):(b_ ts).length<=ts.length:=wa (P:=fun ts=>(b_ ts).length<=ts.length) (Ag _) (fun l x h=>by
 rw[v',Af];have:=N3 (b_ l) x.1 (i5 (b_ l) x.1+x.2);unfold lf;simp;(first|lia|omega)) ts
def N5{a:Ch}{q:List Int}(v:Int)(h:q∉ksC a):cF a q v=a++[(q,v)]:=by unfold cF;rw[if_neg h]
def sg(k:Nat)(n:Int):Int:=if(k:Int)%2=0 then n else -n
def stm(ps:List Int)(n:Int):Ch:=(rims ps).zipIdx.map fun q=>(q.1,sg q.2 n)
def N6(ps:List Int)(n:Int):(stm ps n).length=(rims ps).length:=by unfold stm;rw[Ab,List.length_zipIdx]
abbrev Il:TE:=cI (zL (aM 1) (zL (FH (mU (dv Bc (dv (rI (fun _ j=>0<j) fun i j=>.int (i%j)) (aM 0) (tC (.int 2))) (tC (.int 0)))) (aM 2) (zc (rU fun i=>.int (-i)) (aM 2))) bD))
section
variable{P:Program}{w:World}{K:Ac}{mg:Str->Option Value}{base:Heap}
def N7{H2:Hp}{L D:Addr}{as:List Addr}{l:Ξ}{n:Int}{Q:VK}(A:H2 L=some (.lst (as.map V.ref)))(ht:Tps H2 as l)(hz:l.length<=1000)(E:H2 D=none)(k:∀(c:Hp)(ts:List Addr),Same H2 c->c D=some (.lst (ts.map V.ref))->Prs c ts (l.zipIdx.map fun q=>(q.1,sg q.2 n))->Q (.ref D) c):c7 (nK K L) (fi K 2 (gh (cV 0) (gh (cV 1) fg))) cz Il [none,none,some (.int n)] H2 D Q:=by
 have M:=ht.length;refine kt as.length (fun j σ ys c=>∃(g h:Option V)(ts:List Addr),σ=[g,h,some (.int n)]/\Same H2 c/\c D=some (.lst ys)/\ys=ts.map V.ref/\Prs c ts ((l.zipIdx.map fun q=>(q.1,sg q.2 n)).take j)) ?_ ?_ ?_ ?_ ?_
 ·exact⟨none,none,[],rfl,Same.new E,al,rfl,.nil⟩
 ·rintro σ ys c ⟨g,h,ts,rfl,f,d,rfl,hp⟩
  exact⟨_,SqL.of (f _ _ A),by rw[Ab]⟩
 ·rintro i σ ys c hi ⟨g,h,ts,rfl,f,d,rfl,hp⟩
  exact⟨_,SqL.of (f _ _ A),by rw[Ab];exact hi⟩
 ·rintro i σ ys c x H' hi hy ⟨g,h,ts,rfl,f,d,rfl,hp⟩ ⟨p,y,rfl,G,rfl,H⟩
  have N:=H _ (SqL.of (f _ _ A));obtain⟨a,I,rfl⟩:=zQ N;obtain⟨r,J,hr⟩:=ht.get I;have O:=Same.new (o:=.tup [.int i,.ref a]) G;have e:(l.zipIdx.map fun q=>(q.1,sg q.2 n))[i]?=some (r,sg i n):=by rw[Ao,List.getElem?_zipIdx,J];simp
  have P:as.length<=sizeLine:=aq ω;have fin:∀(t:Addr)(v:Int),v=sg i n->upd c p (.tup [.int i,.ref a]) t=none->eB as.length (fun j σ ys c=>∃(g h:Option V)(ts:List Addr),σ=[g,h,some (.int n)]/\Same H2 c/\c D=some (.lst ys)/\ys=ts.map V.ref/\Prs c ts ((l.zipIdx.map fun q=>(q.1,sg q.2 n)).take j)) D i [some (.int i),some (.ref a),some (.int n)] (.ref t) (upd (upd c p (.tup [.int i,.ref a])) t (.tup [.ref a,.int v])):=by
   intro t v F s;have u:=O.trans (Same.new (o:=.tup [.ref a,.int v]) s);have C:=u _ _ d;refine ci P hi hy C ⟨_,_,ts++[t],rfl,(f.trans u).then E,al,by rw[Ah];rfl,?_⟩;rw[AI e];exact Prs.upd (Prs.snoc (hp.same u) ⟨a,by rw[al,F],u.tp (f.tp hr)⟩) C (by intro xs z;cases z)
  refine⟨p,_,rfl,SqT.of al,rfl,_,_,rfl,_,_,rfl,rfl,iy ?_⟩;refine⟨_,rfl,_,rfl,_,_,rfl,rfl,(by show(0:Int)<2;decide),rfl,_,rfl,?_⟩
  by_cases hk:(i:Int)%2=0
  ·rw[decide_eq_true (congrArg V.int hk)]
   exact bu ⟨_,rfl,aq (by simp),fun t s=>fin t n (by unfold sg;rw[if_pos hk]) s⟩
  ·rw[decide_eq_false (fun z=>hk (by injection z))]
   exact a9 ⟨_,rfl,_,rfl,aq (by simp),fun t s=>fin t (-n) (by unfold sg;rw[if_neg hk]) s⟩
 ·rintro σ ys c ⟨g,h,ts,rfl,f,d,rfl,hp⟩
  rw[M,Au (by rw[Ab,List.length_zipIdx];exact Ag _)] at hp;exact k c ts f d hp
def wc:Sp:=fun vs H Q _=>∃a ps n,vs=[.ref a,.int n]/\Tp H a ps/\ps.length<=5/\∀D H2(ts:List Addr),Same H H2->H D=none->H2 D=some (.lst (ts.map V.ref))->Prs H2 ts (stm ps n)->Q (.ref D) H2
def N8:zl ["piece","often"] ["piece","often"] (ze n7):=⟨rfl,rfl,rfl,δ,rfl,δ,δ⟩
def N9{f fr:Addr}{fd d:FuncData}(F:Fun K "seam_terms" "seam_terms" n7 f fd)(B:Bt mg)(Fr:Fun K "rims_of" "rims_of" hU fr d)(r:Binds K d ["piece"] [])(u:mg "rims_of"=some (.ref fr)):FnOk P w K mg base aR 2 f fd ["piece","often"] wc:=by
 have x:FnOk P w K mg base aR 1 fr d ["piece"] k8:=n3 Fr B;refine F.ok N8 (fun vs H Q E h=>?_) (fun cdv A outer s H vs Q E hr h=>?_)
 ·obtain⟨a,ps,n,rfl,_⟩:=h;rfl
 ·obtain⟨a,ps,n,rfl,ha,q,k⟩:=h
  refine⟨_,zg (zm (zt ["piece","often"] ["k","rim","often"] [none,none,some 1] (GT rfl B.enumerate Hv (ae (zo x hr rfl u Fr.kp r .nil aF (ae (pv 0) ap)) ap))
   (fun e C s₀ H₀ ex=>mI rfl (fV (zi (i:=0) (cO ["k","rim","often"]) rfl (Or.inl rfl)) (fV (zi (i:=1) (cO ["k","rim","often"]) rfl (Or.inl rfl)) mH)))
   (fun e C s₀ H₀ ex=>zM) (fun e C s₀ H₀ ex=>zx (ae (pv 1) (ae (JD (zn eW (zu jm (pv 0) zf) zf (aK _)) (pv 2) (mP mR (pv 2))) ap)))
   (hfr:=cw (ze n7) δ) (g:=fi K 2 (gh (cV 0) (gh (cV 1) fg))) (te:=Il))),?_⟩
  have z:=gd ps;exact⟨_,rfl,a,ps,rfl,ha,q,fun L H1 bs j y l hb=>⟨L,rfl,⟨_,SqL.of l⟩,fun D o=>zB (N7 l hb ω o fun v ts p c hp=>k D v ts (j.trans p) (j.free o) c hp)⟩⟩
def Im(K:Ac):Sp:=fun vs H Q _=>∃l ts a,vs=[.ref l]/\SqL K H l (ts.map V.ref)/\Prs H ts a/\a.length<=1000/\∀D H',Same H H'->H D=none->H' D=some (.dT (b' (gP a)))->Q (.ref D) H'
def oj:zl ["terms","sums","piece","weight","told"] ["terms"] (ze iU):=⟨rfl,rfl,rfl,δ,rfl,δ,δ⟩
def N_{f:Addr}{fd:FuncData}(F:Fun K "sum_of" "sum_of" iU f fd):FnOk P w K mg base aR 1 f fd ["terms"] (Im K):=by
 refine F.ok oj (fun vs H Q E h=>?_) (fun cdv A outer s H vs Q E hr h=>?_)
 ·obtain⟨l,ts,D,rfl,_⟩:=h;rfl
 ·obtain⟨l,ts,D,rfl,hl,hp,hz,k⟩:=h
  have hu:=fZ hr;have fI:=hp.length;refine⟨_,zd (zk (i:=1) oj.nd rfl (Or.inl rfl) zX)
   (zd (zV AE rfl (zv (pv 0)) (mI rfl (fV (zi (i:=2) oj.nd rfl (Or.inl rfl)) (fV (zi (i:=3) oj.nd rfl (Or.inl rfl)) mH)))
    (zg (fA hu (pv 1) (pv 2) (zu dn (Gw hu (pv 1) (pv 2) zf ⟨rfl,rfl,rfl,rfl⟩) (pv 3)) rfl)))
   (zd (zk (i:=4) oj.nd rfl (Or.inl rfl) zX)
   (zd (zV AE rfl (Nm (pv 1)) (zi (i:=2) oj.nd rfl (Or.inl rfl))
    (zg (zU (zn ij (ju hu (pv 1) (pv 2) (fun _ _=>rfl)) zf (aK _)) (zg (fA hu (pv 4) (pv 2) (ju hu (pv 1) (pv 2) (fun _ _=>rfl)) rfl)) zq)))
   (zg (zm (pv 4)))))),?_⟩
  intro d hd;refine⟨_,rfl,l,rfl,⟨_,(Same.new hd).seq hl⟩,zK (K:=K) (a:=l) (xs:=ts.map V.ref) (fun i σ H2=>∃(C N:Option V),σ=[some (.ref l),some (.ref d),C,N,none]/\Same H H2/\H2 d=some (.dT (b' (b_ (D.take i)))))
   ⟨none,none,rfl,Same.new hd,al⟩ (fun i σ H2 _ ⟨_,_,_,r,_⟩=>r.seq hl) ?_ ?_⟩
  ·rintro i x σ H2 hx ⟨C,N,rfl,r,v⟩
   obtain⟨t,et,rfl⟩:=zQ hx;obtain⟨c,I,b,e1,e2⟩:=hp.get et;have m_:H2 b=some (.tup ((c.1.map Sum.inl:List Key).map kV)):=by rw[AC];exact r.tp e2
   have q:(b' (b_ (D.take i))).length<sizeLine:=by
    rw[og];have:=Ij (D.take i);rw[Av] at this;exact zH ω
   refine⟨t,_,rfl,SqT.of (r _ _ e1),rfl,_,_,rfl,_,_,rfl,rfl,?_⟩;refine⟨_,rfl,d,rfl,.inr ⟨_,.inl v⟩,_,rfl,_,DGet.t (k:=c.1.map Sum.inl) v m_,?_⟩;rw[N4];refine⟨_,rfl,_,_,rfl,rfl,_,rfl,_,rfl,d,_,rfl,DPut.t (k:=c.1.map Sum.inl) v m_ q,⟨_,_,rfl,r.then hd,?_⟩⟩;rw[al,EU,AI I,v']
   rfl
  ·rintro σ H2 ⟨C,N,rfl,r,v⟩
   rw[Ab,fI,take_all] at v;intro T hT;have Y:H T=none:=r.free hT;have W:d≠T:=zh v hT;have Z:=Ii D;have hsl:=Ij D;unfold gP at k;generalize b_ D=p at v Z hsl k;refine⟨_,rfl,d,b' p,rfl,.inl (by rw[au W];exact v),fun o H3 yp gc=>No (fun i σ y=>∃(C:Option V),σ=[some (.ref l),some (.ref d),C,N,some (.ref T)]/\Same H y/\y d=some (.frz o (.dT (b' p)))/\y T=some (.dT (b' ((p.take i).filter oh))))
    ⟨_,rfl,fun b u e=>by rw[gc b (zh e hd),au (zh e Y)];exact r _ _ e,yp,by rw[gc T (Ne.symm W)];exact al⟩ (fun i σ y _ ⟨_,_,_,h,_⟩=>h) ?_ ?_⟩
   ·rintro i kv b σ y O hb ⟨C,rfl,S,U,J⟩
    have hi:i<p.length:=by
     have:=(List.getElem?_eq_some_iff.mp O).1;rw[og] at this;exact this
    have I:p[i]?=some p[i]:=Aj hi;obtain rfl:(((p[i]).1.map Sum.inl:List Key),V.int (p[i]).2)=kv:=by
     unfold b' at O;rw[Ao,I] at O;exact As O
    have L:p[i]∈p:=List.getElem_mem hi;have M:(p[i]).1∉ksC ((p.take i).filter oh):=fun z=>by
     obtain⟨c',il,e'⟩:=List.mem_map.mp z;obtain⟨j,X⟩:=List.getElem?_of_mem ((List.mem_filter.mp il).1);have hj':j<i:=by
      have:=(List.getElem?_eq_some_iff.mp X).1;rw[Av] at this;(first|lia|omega)
     rw[List.getElem?_take_of_lt hj'] at X;have h1:(ksC p)[j]?=some (p[i]).1:=by unfold ksC;rw[Ao,X];exact congrArg some e'
     have h2:(ksC p)[i]?=some (p[i]).1:=by unfold ksC;rw[Ao,I];rfl
     have hji:j<(ksC p).length:=by rw[ET];(first|lia|omega)
     have:=(List.getElem?_inj hji Z).mp (h1.trans h2.symm);(first|lia|omega)
    have q:(b' ((p.take i).filter oh)).length<sizeLine:=by
     rw[og];have:=List.length_filter_le oh (p.take i);rw[Av] at this;exact zH ω
    have g:DGet y d (.ref b) (some (.int (p[i]).2)):=.inr ⟨b' p,(p[i]).1.map Sum.inl,b,.inr ⟨o,U⟩,rfl,hb,(Ih Z _ L).symm⟩;have yY:T≠d:=Ne.symm W;refine⟨_,rfl,_,rfl,d,_,rfl,g,rfl,_,rfl,?_⟩;cases hz0:oh p[i] with
    |true=>
     have G:(!decide (V.int (p[i]).2=V.int 0))=true:=hz0;rw[G];refine bu ⟨_,rfl,_,rfl,d,_,rfl,g,_,rfl,_,rfl,T,_,rfl,DPut.t (k:=(p[i]).1.map Sum.inl) J hb q,⟨_,rfl,S.then Y,by rw[au W];exact U,?_⟩⟩;rw[al,EU,N5 _ M,AI I,List.filter_append,List.filter_cons_of_pos hz0]
     rfl
    |false=>
     have G:(!decide (V.int (p[i]).2=V.int 0))=false:=hz0;rw[G];refine a9 ⟨_,rfl,S,U,?_⟩;rw[AI I,List.filter_append,List.filter_cons_of_neg (by rw[hz0];decide),List.filter_nil,AT];exact J
   ·rintro σ y ⟨C,rfl,S,U,J⟩
    rw[og,take_all] at J;exact⟨_,rfl,k T y S Y J⟩
end
def zcG(ts:Ch):Ch:=ts.foldl (fun acc t=>cF acc t.1 t.2) []
def Io:∀(ts acc:Ch),(b' ts).foldl (fun acc kv=>putK acc kv.1 kv.2) (b' acc)=b' (ts.foldl (fun acc t=>cF acc t.1 t.2) acc)
 |[],_=>rfl
 |t::r,acc=>by
  show(b' r).foldl _ (putK (b' acc) (t.1.map Sum.inl) (.int t.2))=_;rw[EU];exact Io r _
def Oa(ts:Ch):v8 (b' ts)=b' (zcG ts):=Io ts []
def Ob{H:Hp}{ts:List Addr}{a:Ch}(h:Prs H ts a):Paired (fun t(kv:List Key×V)=>∃b,H t=some (.tup [.ref b,kv.2])/\H b=some (.tup (kv.1.map kV))) ts (b' a):=by
 unfold b'
 induction h with
 |nil=>exact .nil
 |cons r t ih=>
  obtain⟨b,e1,e2⟩:=r;exact .cons ⟨b,e1,iO e2⟩ ih
def putC_at{a:Ch}{ps:List Int}{n:Int}{c:List Int×Int}(h:c∈cF a ps n):c∈a\/c=(ps,n):=by
 unfold cF at h;split at h
 ·obtain⟨d,hd,e⟩:=List.mem_map.mp h
  by_cases z:d.1=ps
  ·rw[if_pos z] at e;exact .inr (by rw[<-e,z])
  ·rw[if_neg z] at e;exact .inl (e▸hd)
 ·rcases List.mem_append.mp h with h|h
  ·exact .inl h
  ·exact .inr (List.mem_singleton.mp h)
def Ip{a:Ch}{q ps:List Int}{n:Int}(h:q∈ksC a\/q=ps):q∈ksC (cF a ps n):=by
 rw[EV]
 by_cases e:ps∈ksC a
 ·rw[if_pos e];exact h.elim id fun z=>z▸e
 ·rw[if_neg e,List.mem_append,List.mem_singleton];exact h
def Oc{P:Int->Prop}(ts:Ch):(∀t∈ts,P t.2)->(∀c∈zcG ts,P c.2)/\∀t∈ts,t.1∈ksC (zcG ts):=wa (P:=fun ts=>(∀t∈ts,P t.2)->(∀c∈zcG ts,P c.2)/\∀t∈ts,t.1∈ksC (zcG ts)) (fun _=>⟨fun c hc=>(by cases hc),fun t ht=>(by cases ht)⟩) (fun l x a h=>by
 obtain⟨h1,h2⟩:=a fun t ht=>h t (Aw _ ht);have e:zcG (l++[x])=cF (zcG l) x.1 x.2:=by unfold zcG;rw[List.foldl_append];rfl
 rw[e];refine⟨fun c hc=>?_,fun t ht=>?_⟩
 ·rcases putC_at hc with hc|rfl
  ·exact h1 c hc
  ·exact h x (by simp)
 ·rcases List.mem_append.mp ht with ht|ht
  ·exact Ip (.inl (h2 t ht))
  ·exact Ip (.inr (by rw[List.mem_singleton.mp ht]))) ts
def EY:∀{a:Ch}{q:List Int},q∈ksC a->∃c∈a,c.1=q/\valV (b' a) (q.map Sum.inl)=some (.int c.2)
 |[],q,h=>by cases h
 |d::a,q,h=>by
  by_cases e:d.1=q
  ·exact⟨d,Ar,e,by unfold b';rw[AF,mW (by show d.1.map Sum.inl=_;rw[e])]⟩
  ·have h':q∈ksC a:=by
    rcases List.mem_cons.mp (show q∈d.1::ksC a from h) with z|z
    ·exact absurd z.symm e
    ·exact z
   obtain⟨c,hc,f,g⟩:=EY h';exact⟨c,At _ hc,f,by
    unfold b';rw[AF,jt (by show ¬d.1.map Sum.inl=_;exact fun z=>e (f'.mp z))];exact g⟩
def Od{ts:Ch}{q:List Int}(h:q∈ksC (gP ts)):∃t∈ts,t.1=q:=by
 have h1:q∈ksC (b_ ts):=by
  obtain⟨c,hc,e⟩:=List.mem_map.mp h;exact List.mem_map.mpr ⟨c,(List.mem_filter.mp hc).1,e⟩
 exact wa (P:=fun ts=>q∈ksC (b_ ts)->∃t∈ts,t.1=q) (fun h=>by cases h) (fun l x a h=>by
  rw[v'] at h;rcases putC_mem h with h|h
  ·obtain⟨t,ht,e⟩:=a h
   exact⟨t,Aw _ ht,e⟩
  ·exact⟨x,by simp,h.symm⟩) ts h1
def Oe(ts:Ch):(ksC (gP ts)).Nodup:=by
 unfold gP ksC;exact(Ii ts).sublist (List.filter_sublist.map _)
def EZ{p:List Int}{n:Int}{t:List Int×Int}(h:t∈stm p n):t.1∈rims p/\(t.2=n\/t.2=-n):=by
 unfold stm at h;obtain⟨q,hq,rfl⟩:=List.mem_map.mp h;refine⟨(List.mem_zipIdx' hq).2▸List.getElem_mem _,?_⟩;show sg q.2 n=n\/sg q.2 n=-n;unfold sg;split
 ·exact .inl rfl
 ·exact .inr rfl
def Of{p r:List Int}{n:Int}(h:r∈rims p):∃t∈stm p n,t.1=r:=by
 obtain⟨i,hi⟩:=List.getElem?_of_mem h;refine⟨(r,sg i n),An (i:=i) ?_,rfl⟩;unfold stm;rw[Ao,List.getElem?_zipIdx,hi];simp
abbrev ol:Stmt:=top 48
abbrev qN:List Str:=["terms","ends","told","rim","often"]
abbrev En:Type:=List Int×Ch
def fM(H:Hp)(kv:List Key×V)(x:En):Prop:=kv.1=x.1.map Sum.inl/\∃b o,kv.2=.ref b/\H b=some (.frz o (.dT (b' x.2)))
def Ends(H:Hp)(d:Addr)(es:List En):Prop:=∃kvs,H d=some (.dT kvs)/\Paired (fM H) kvs es
def Ends.same{H H':Hp}{d:Addr}{es:List En}(h:Ends H d es)(s:Same H H'):Ends H' d es:=let ⟨kvs,e,p⟩:=h;⟨kvs,s _ _ e,Paired.mapP p fun _ _ ⟨h1,b,o,h2,a⟩=>⟨h1,b,o,h2,s _ _ a⟩⟩
def Ends.upd{H:Hp}{d e:Addr}{es:List En}{o o':HO}(h:Ends H d es)(he:H e=some o')(c:∀p q,o'≠.frz p q)(hd:d≠e):Ends (L2.upd H e o) d es:=let ⟨kvs,e1,p⟩:=h;⟨kvs,by rw[au hd];exact e1,Paired.mapP p fun _ _ ⟨h1,b,ob,h2,a⟩=>⟨h1,b,ob,h2,by
 rw[au (fun z=>by subst z;rw[he] at a;cases a;exact c _ _ rfl)];exact a⟩⟩
def end_val{H:Hp}:∀{kvs:List (List Key×V)}{es:List En},Paired (fM H) kvs es->∀p:List Int,(valV kvs (p.map Sum.inl)=none/\p∉es.map (·.1))\/∃b o c,valV kvs (p.map Sum.inl)=some (.ref b)/\(p,c)∈es/\H b=some (.frz o (.dT (b' c)))
 |_,_,.nil,p=>.inl ⟨rfl,by simp⟩
 |kv::kvs,x::es,.cons ⟨h1,b,o,h2,h3⟩ t,p=>by
  by_cases e:x.1=p
  ·refine .inr ⟨b,o,x.2,?_,?_,h3⟩
   ·rw[mW (by rw[h1,e]),h2]
   ·rw[<-e];exact Ar
  ·have a:¬kv.1=p.map Sum.inl:=fun z=>e (f'.mp (h1.symm.trans z))
   rcases end_val t p with ⟨g1,g2⟩|⟨d,o',c,g1,g2,g3⟩
   ·refine .inl ⟨by rw[jt a];exact g1,?_⟩
    rw[AF,List.mem_cons];rintro(z|z)
    ·exact e z.symm
    ·exact g2 z
   ·exact .inr ⟨d,o',c,by rw[jt a];exact g1,At _ g2,g3⟩
def Og{H:Hp}{kvs:List (List Key×V)}{es:List En}(h:Paired (fM H) kvs es){x:En}{b:Addr}{o:Obj}(hx:x.1∉es.map (·.1))(hb:H b=some (.frz o (.dT (b' x.2)))):∃a,putK kvs (x.1.map Sum.inl) (.ref b)=a/\Paired (fM H) a (es++[x]):=by
 have c:valV kvs (x.1.map Sum.inl)=none:=by
  rcases end_val h x.1 with ⟨g,_⟩|⟨e,o',q,_,g2,_⟩
  ·exact g
  ·exact absurd (List.mem_map.mpr ⟨_,g2,rfl⟩) hx
 refine⟨_,Gh _ c,?_⟩;have d:∀{kvs:List (List Key×V)}{ps:List En},Paired (fM H) kvs ps->Paired (fM H) (kvs++[(x.1.map Sum.inl,.ref b)]) (ps++[x]):=fun{kvs ps} h=>by
  induction h with
  |nil=>exact .cons ⟨rfl,b,o,rfl,hb⟩ .nil
  |cons r t ih=>exact .cons r ih
 exact d h
def Oh{a:Ch}{i:Nat}{kv:List Key×V}(h:(b' a)[i]?=some kv):∃c,a[i]?=some c/\kv=((c.1.map Sum.inl:List Key),V.int c.2):=by
 unfold b' at h;rw[Ao] at h;cases e:a[i]? with
 |none=>rw[e] at h;cases h
 |some c=>rw[e] at h;exact⟨c,rfl,(As h).symm⟩
def Oi{H:Hp}{b:Addr}{ps:List Int}(h:H b=some (.tup ((ps.map Sum.inl:List Key).map kV))):Tp H b ps:=by rw[AC] at h;exact h
def Ok(l:Ξ)(es:List En):Prop:=∀x∈es,x.2.length<=200/\∀k∈ksC x.2,k∈l
abbrev qO:TE:=cI (zL (aM 0) (zL (dv (rI CMul fun i j=>.int (i*j)) (aM 2) (aM 1)) bD))
section
variable{P:Program}{w:World}{K:Ac}{mg:Str->Option Value}{base:Heap}
def Oj{H2:Hp}{d D:Addr}{o:Obj}{g:Ch}{n:Int}{Q:VK}(hd:H2 d=some (.frz o (.dT (b' g))))(hz:g.length<=1000)(F:n=1\/n=-1)(v:H2 D=none)(k:∀(a:Hp)(ts:List Addr),Same H2 a->a D=some (.lst (ts.map V.ref))->Prs a ts (g.map fun c=>(c.1,n*c.2))->Q (.ref D) a):c7 (EQ d o (b' g)) (fi K 2 (gh (cV 0) (gh (cV 1) fg))) cz qO [none,none,some (.int n)] H2 D Q:=by
 refine kt g.length (fun j σ ys a=>∃(l q:Option V)(ts:List Addr),σ=[l,q,some (.int n)]/\Same H2 a/\a D=some (.lst ys)/\ys=ts.map V.ref/\Prs a ts ((g.map fun c=>(c.1,n*c.2)).take j)) ?_ ?_ ?_ ?_ ?_
 ·exact⟨none,none,[],rfl,Same.new v,al,rfl,.nil⟩
 ·rintro σ ys a ⟨l,q,ts,rfl,h,f,rfl,hp⟩
  exact⟨by rw[og],h _ _ hd⟩
 ·rintro i σ ys a hi ⟨l,q,ts,rfl,h,f,rfl,hp⟩
  exact⟨by rw[og];exact hi,h _ _ hd⟩
 ·rintro i σ ys a x H' hi hy ⟨l,q,ts,rfl,h,f,rfl,hp⟩ ⟨p,kv,b,A,rfl,C,hb,rfl⟩
  obtain⟨c,E,rfl⟩:=Oh A;have G:=Same.new (o:=.tup [.ref b,.int c.2]) C;have e:(g.map fun c=>(c.1,n*c.2))[i]?=some (c.1,n*c.2):=by rw[Ao,E];rfl
  have s:g.length<=sizeLine:=aq ω;refine⟨p,_,rfl,SqT.of al,rfl,_,_,rfl,_,_,rfl,rfl,iy ?_⟩;refine⟨_,rfl,_,rfl,_,rfl,_,_,rfl,rfl,.inl (by rcases F with rfl|rfl<;>decide),aq (by simp),fun t y=>?_⟩;have r:=G.trans (Same.new (o:=.tup [.ref b,.int (n*c.2)]) y);have u:=r _ _ f;refine ci s hi hy u ⟨_,_,ts++[t],rfl,(h.trans r).then v,al,by rw[Ah];rfl,?_⟩;rw[AI e];exact Prs.upd (Prs.snoc (hp.same r) ⟨b,al,r.tp (Oi hb)⟩) u (by intro xs z;cases z)
 ·rintro σ ys a ⟨l,q,ts,rfl,h,f,rfl,hp⟩
  rw[Au (by rw[Ab];exact Ag _)] at hp;exact k a ts h f hp
def i6(K:Ac):Sp:=fun vs H Q _=>∃l d ts a es L,vs=[.ref l,.ref d]/\SqL K H l (ts.map V.ref)/\Prs H ts a/\Ends H d es/\(∀c∈a,c.1∈es.map (·.1)/\(c.2=1\/c.2=-1))/\a.length<=5/\Ok L es/\
 ∀D H' c,Same H H'->H D=none->H' D=some (.dT (b' c))->(ksC c).Nodup->(∀k∈ksC c,k∈L)->Q (.ref D) H'
def i7:zl qN ["terms","ends"] (ze ol):=⟨rfl,rfl,rfl,δ,rfl,δ,δ⟩
def Ol{f fs:Addr}{fd U:FuncData}(F:Fun K "brought_to_ends" "brought_to_ends" ol f fd)(Fs:Fun K "sum_of" "sum_of" iU fs U)(bs:Binds K U ["terms"] [])(ms:mg "sum_of"=some (.ref fs)):FnOk P w K mg base aR 2 f fd ["terms","ends"] (i6 K):=by
 have Gs:FnOk P w K mg base aR 1 fs U ["terms"] (Im K):=N_ Fs;refine F.ok i7 (fun vs H Q E h=>?_) (fun cdv A outer s H vs Q E hr h=>?_)
 ·obtain⟨l,d,ts,Z,es,L,rfl,_⟩:=h;rfl
 ·obtain⟨l,d,ts,Z,es,L,rfl,hl,hp,he,hc,h5,N,k⟩:=h
  have hu:=fZ hr;refine⟨_,zd (zk (i:=2) i7.nd rfl (Or.inl rfl) (zr ap))
   (zd (zV AE rfl (zv (pv 0)) (mI rfl (fV (zi (i:=3) i7.nd rfl (Or.inl rfl)) (fV (zi (i:=4) i7.nd rfl (Or.inr rfl)) mH)))
    (zg (zN (eY AN PySem.F.slot_list_extend PySem.F.type_list_extend Gg (pv 2) (ae
     (zt qN ["piece","worth","often"] [none,none,some 4] (NZ (Nr (ju hu (pv 1) (pv 3) (fun _ _=>rfl))))
      (fun W C s₀ H₀ ex=>mI rfl (fV (zi (i:=0) (cO ["piece","worth","often"]) rfl (Or.inl rfl)) (fV (zi (i:=1) (cO ["piece","worth","often"]) rfl (Or.inl rfl)) mH)))
      (fun W C s₀ H₀ ex=>zM) (fun W C s₀ H₀ ex=>zx (ae (pv 0) (ae (zu dU (pv 2) (pv 1)) ap)))
      (hfr:=cw (ze ol) δ) (g:=fi K 2 (gh (cV 0) (gh (cV 1) fg))) (te:=qO)) ap)))))
   (zg (zm (zo Gs hr rfl ms Fs.kp bs .nil aF (ae (pv 2) ap))))),?_⟩
  refine⟨aq (by simp),fun T X=>?_⟩;have sT:=Same.new (o:=.lst []) X;have S:=hp.length;refine⟨_,rfl,l,rfl,⟨_,sT.seq hl⟩,zK (K:=K) (a:=l) (xs:=ts.map V.ref) (fun i σ j=>∃(J M:Option V)(us:List Addr)(tc:Ch),σ=[some (.ref l),some (.ref d),some (.ref T),J,M]/\Same H j/\j T=some (.lst (us.map V.ref))/\Prs j us tc/\tc.length<=200*i/\∀t∈tc,t.1∈L)
   ⟨none,none,[],[],rfl,sT,al,.nil,by simp,fun t ht=>(by cases ht)⟩ (fun i σ j _ ⟨_,_,_,_,_,e,_⟩=>e.seq hl) ?_ ?_⟩
  ·rintro i v σ j I ⟨J,M,us,tc,rfl,e,r,u,uh,O⟩
   obtain⟨t,et,rfl⟩:=zQ I;obtain⟨c,ec,b,e1,e2⟩:=hp.get et;have hi:i<Z.length:=(List.getElem?_eq_some_iff.mp ec).1;obtain⟨gF,cx⟩:=hc c (An ec);obtain⟨kvs,bG,vx⟩:=he.same e;rcases end_val vx c.1 with ⟨_,g⟩|⟨q,o,x,g1,g2,g3⟩
   ·exact absurd gF g
   have hx:=N _ g2;have jM:x.length<=200:=hx.1;refine⟨t,_,rfl,SqT.of (e _ _ e1),rfl,_,_,rfl,_,_,rfl,rfl,?_⟩;refine⟨_,rfl,.inl ⟨rfl,_,SqL.of r⟩,_,rfl,_,rfl,d,_,rfl,.inr ⟨kvs,c.1.map Sum.inl,b,.inl bG,rfl,iO (e.tp e2),g1.symm⟩,q,b' x,rfl,rfl,.inr ⟨o,g3⟩,fun v I=>?_⟩;have p:=Same.new (o:=qu v q) I;refine⟨v,q,o,b' x,rfl,al,p _ _ g3,fun D hD=>zB (Oj (p _ _ g3) ω cx hD fun H6 ws s6 fJ Y=>?_)⟩;have G:=p.trans s6;have DU:=u.length;have wp:=Y.length;rw[Ab] at wp;refine⟨T,D,_,_,rfl,rfl,G _ _ r,fJ,by rw[Ab,Ab];exact aq ω,⟨_,_,us++ws,tc++x.map fun y=>(y.1,c.2*y.2),rfl,(e.trans G).then X,by rw[al,Ah],?_,?_,?_⟩⟩
   ·exact Prs.upd ((u.same G).append Y) (G _ _ r) (by intro xs z;cases z)
   ·rw[Af,Ab];(first|lia|omega)
   ·intro y hy
    rcases List.mem_append.mp hy with hy|hy
    ·exact O y hy
    ·obtain⟨z,hz,rfl⟩:=List.mem_map.mp hy
     exact hx.2 _ (List.mem_map.mpr ⟨z,hz,rfl⟩)
  ·rintro σ j ⟨J,M,us,tc,rfl,e,r,u,uh,O⟩
   rw[Ab,S] at uh;refine⟨_,rfl,T,us,tc,rfl,SqL.of r,u,ω,fun D H5 p bU cC=>k D H5 _ (e.trans p) (e.free bU) cC (Oe _) fun q hq=>?_⟩;obtain⟨t,ht,rfl⟩:=Od hq;exact O t ht
end
structure Pth(z:Pq)(R cs:List Pq):Prop where
 hd:∃r,cs=z::r
 st:∀(i:Nat)(x y:Pq),cs[i]?=some x->cs[i+1]?=some y->iQ x y=true
 nd:cs.Nodup
 mem:∀x∈cs,x=z\/x∈R
def Pth.mono{z:Pq}{R c a:List Pq}(h:Pth z R a)(hs:∀x∈R,x∈c):Pth z c a:=⟨h.hd,h.st,h.nd,fun x hx=>(h.mem x hx).imp id (hs x)⟩
structure RI(ps:List Pq)(z:Pq)(R:List Pq)(aH:List (List Pq)):Prop where
 sub:∀y∈R,y∈ps
 nd:(R.map (·.1)).Nodup
 pth:∀cs∈aH,Pth z R cs
def RI.le{ps R:List Pq}{z:Pq}{a:List (List Pq)}(h:RI ps z R a):R.length<=ps.length:=by
 have:=h.nd.length_le_of_subset (l₂:=ps.map (·.1)) fun x hx=>by
  obtain⟨y,hy,rfl⟩:=List.mem_map.mp hx;exact List.mem_map.mpr ⟨y,h.sub y hy,rfl⟩
 rw[Ab,Ab] at this;exact this
def Done(ps:List Pq)(z:Pq)(R:List Pq)(x:Pq):Prop:=∀r∈oth x,r≠z.1/\(r∈ps.map (·.1)->r∈R.map (·.1))
def Done.mono{ps R a:List Pq}{z x:Pq}(h:Done ps z R x)(hs:∀y∈R,y∈a):Done ps z a x:=fun r hr=>⟨(h r hr).1,fun hm=>by
 obtain⟨y,hy,e⟩:=List.mem_map.mp ((h r hr).2 hm);exact List.mem_map.mpr ⟨y,hs y hy,e⟩⟩
def wh{x:Pq}{r:List Int}:r∈oth x↔r∈rims x.2/\r≠x.1:=by
 show r∈(rims x.2).filter _↔_;rw[List.mem_filter,Bool.not_eq_true',decide_eq_false_iff_not]
def Om{ps R:List Pq}{z:Pq}(v:(ps.map (·.1)).Nodup)(ha:eF ps)(hs:∀y∈R,y∈ps)(hd:∀x∈z::R,Done ps z R x):eF (ps++[z]):=by
 refine NH ha (R:=R) (fun x hx y hy e=>?_) hs;obtain⟨e1,e2⟩:=vZ.mp e;obtain⟨s,u⟩:=hd x hx y.1 (wh.mpr ⟨e2,e1⟩);have o:y≠z:=fun q=>s (by rw[q]);refine⟨o,?_⟩;have p:y∈ps:=(List.mem_cons.mp hy).resolve_left o;obtain⟨d,i,e'⟩:=List.mem_map.mp (u (List.mem_map.mpr ⟨y,p,rfl⟩));have:d=y:=by
  have g:∀{l:List Pq},(l.map (·.1)).Nodup->∀a∈l,∀b∈l,a.1=b.1->a=b:=fun{l}=>by
   induction l with
   |nil=>intro _ a ha;cases ha
   |cons c r ih=>
    intro h a ha b hb e;rw[AF,List.nodup_cons] at h;rcases List.mem_cons.mp ha with j|ha'
    ·rcases List.mem_cons.mp hb with f|hb'
     ·rw[j,f]
     ·exact absurd (List.mem_map.mpr ⟨b,hb',by rw[<-e,j]⟩) h.1
    ·rcases List.mem_cons.mp hb with f|hb'
     ·exact absurd (List.mem_map.mpr ⟨a,ha',by rw[e,f]⟩) h.1
     ·exact ih h.2 a ha' b hb' e
  exact g v d (hs d i) y p e'
 rw[<-this];exact i
def On{z x:Pq}{R c:List Pq}(h:Pth z R (c++[x]))(hx:iQ x z=true):n4 (c++[x]):=by
 refine⟨by simp,fun i y e=>?_⟩;have hi:=(List.getElem?_eq_some_iff.mp e).1;rw[Af,AK] at hi
 by_cases f:i=c.length
 ·subst f
  rw[List.getElem?_append_right (Ag _),Nat.sub_self] at e;cases e;obtain⟨r,d⟩:=h.hd;refine⟨z,?_,hx⟩;rw[Af,AK,Nat.mod_self,d]
  rfl
 ·have a:i+1<(c++[x]).length:=by rw[Af,AK];(first|lia|omega)
  refine⟨(c++[x])[i+1],?_,h.st i y _ e (Aj a)⟩;rw[Nat.mod_eq_of_lt a];exact Aj a
def Oo{z x y:Pq}{R f:List Pq}(h:Pth z R (f++[x]))(hs:iQ x y=true)(hz:y≠z)(hy:y∉R):Pth z (R++[y]) (f++[x]++[y]):=by
 refine⟨?_,fun i a b c d=>?_,?_,fun a ha=>?_⟩
 ·obtain⟨r,j⟩:=h.hd
  exact⟨r++[y],by rw[j];rfl⟩
 ·have hi:=(List.getElem?_eq_some_iff.mp d).1
  rw[Af,AK] at hi
  by_cases g:i+1=(f++[x]).length
  ·rw[List.getElem?_append_right ω,g,Nat.sub_self] at d
   cases d;rw[List.getElem?_append_left ω] at c;have:i=f.length:=by rw[Af,AK] at g;(first|lia|omega)
   subst this;rw[List.getElem?_append_right (Ag _),Nat.sub_self] at c;cases c;exact hs
  ·rw[List.getElem?_append_left ω] at c d
   exact h.st i a b c d
 ·rw[AM]
  refine⟨h.nd,by simp,fun a ha b hb e=>?_⟩;rw[List.mem_singleton.mp hb] at e;subst e;exact(h.mem a ha).elim hz hy
 ·rcases List.mem_append.mp ha with ha|ha
  ·exact(h.mem a ha).imp id (Aw _)
  ·exact .inr (Az _ ha)
def Prs2.last{H:Hp}:∀{ts:List Addr}{d:List Pq}{x:Pq},Prs2 H ts (d++[x])->∃a t,ts=a++[t]/\Prs2 H a d/\Pr2 H t x
 |_,[],x,.cons r .nil=>⟨[],_,rfl,.nil,r⟩
 |_,c::d,x,.cons r t=>by
  obtain⟨a,t',e,h1,h2⟩:=Prs2.last t;exact⟨_::a,t',by rw[e];rfl,.cons r h1,h2⟩
def Prs2.add{H:Hp}:∀{ts:List Addr}{a:List Pq}{t:Addr}{x:Pq},Prs2 H ts a->Pr2 H t x->Prs2 H (ts++[t]) (a++[x])
 |_,_,_,_,.nil,h=>.cons h .nil
 |_,_,_,_,.cons r q,h=>.cons r (Prs2.add q h)
def Pr2.upd{H:Hp}{t d:Addr}{x:Pq}{o o':HO}(h:Pr2 H t x)(hd:H d=some o')(f:∀xs,o'≠.tup xs):Pr2 (L2.upd H d o) t x:=by
 obtain⟨a,b,e,p,q⟩:=h;have key:∀{c:Addr}{xs:List V},H c=some (.tup xs)->L2.upd H d o c=some (.tup xs):=fun{c xs} e=>by
  rw[au (fun z=>by subst z;rw[hd] at e;cases e;exact f _ rfl)];exact e
 exact⟨a,b,key e,key p,key q⟩
def Prs2.upd{H:Hp}{ts:List Addr}{d:Addr}{xs:List Pq}{o o':HO}(h:Prs2 H ts xs)(hd:H d=some o')(a:∀xs,o'≠.tup xs):Prs2 (L2.upd H d o) ts xs:=Paired.mapP h fun _ _ q=>Pr2.upd q hd a
def RowH(c H:Hp)(r:Addr)(a:List Pq):Prop:=c r=none/\∃ts,H r=some (.lst (List.map V.ref ts))/\Prs2 H ts a
def RowH.same{c H H':Hp}{r:Addr}{a:List Pq}(h:RowH c H r a)(s:Same H H'):RowH c H' r a:=⟨h.1,let ⟨ts,e,p⟩:=h.2;⟨ts,s _ _ e,p.same s⟩⟩
def RowH.upd{c H:Hp}{r d:Addr}{a:List Pq}{o o':HO}(h:RowH c H r a)(hd:H d=some o')(f:∀xs,o'≠.tup xs)(hr:r≠d):RowH c (L2.upd H d o) r a:=⟨h.1,let ⟨ts,e,p⟩:=h.2;⟨ts,by rw[au hr];exact e,Prs2.upd p hd f⟩⟩
abbrev Rows(H0 H:Hp)(aL:List Addr)(aH:List (List Pq)):Prop:=Paired (RowH H0 H) aL aH
def Rows.upd{e H:Hp}{a:List Addr}{c:List (List Pq)}{d:Addr}{o o':HO}(h:Rows e H a c)(hd:H d=some o')(f:∀xs,o'≠.tup xs)(hr:d∉a):Rows e (L2.upd H d o) a c:=by
 induction h with
 |nil=>exact .nil
 |cons r t ih=>exact .cons (r.upd hd f fun z=>hr (by rw[z];exact Ar)) (ih fun z=>hr (At _ z))
def Rows.last{d H:Hp}:∀{f:List Addr}{a:List (List Pq)}{x:List Pq},Rows d H f (a++[x])->∃g r,f=g++[r]/\Rows d H g a/\RowH d H r x
 |_,[],x,.cons r .nil=>⟨[],_,rfl,.nil,r⟩
 |_,c::a,x,.cons r t=>by
  obtain⟨h,t',e,h1,h2⟩:=Rows.last t;exact⟨_::h,t',by rw[e];rfl,.cons r h1,h2⟩
def Rows.add{a H:Hp}:∀{c:List Addr}{d:List (List Pq)}{r:Addr}{e:List Pq},Rows a H c d->RowH a H r e->Rows a H (c++[r]) (d++[e])
 |_,_,_,_,.nil,h=>.cons h .nil
 |_,_,_,_,.cons r q,h=>.cons r (Rows.add q h)
def Op{ps:List Pq}{z:Pq}:RI ps z [] [[z]]:=by
 refine⟨fun y hy=>(by cases hy),(by simp),fun c a=>?_⟩;rw[List.mem_singleton.mp a];refine⟨⟨[],rfl⟩,fun i x y e1 e2=>?_,by simp,fun x hx=>.inl (List.mem_singleton.mp hx)⟩;have:=(List.getElem?_eq_some_iff.mp e2).1;simp at this
abbrev Oq:List Str:=["seconds","new","rows","seen","row","rim"]
section
variable{P:Program}{w:World}{K:Ac}{mg:Str->Option Value}{base:Heap}
def lg:Sp:=fun vs H Q _=>∃d t ps z,vs=[.ref d,.ref t]/\Sec H d ps/\Pr2 H t z/\(ps.map (·.1)).Nodup/\z.1∉ps.map (·.1)/\(∀x∈ps,x.2.length<=5)/\z.2.length<=5/\ps.length<=1000/\eF ps/\
 (∀D H',Same H H'->H D=none->H' D=some (.lst [])->eF (ps++[z])->Q (.ref D) H')/\
 ∀D H' ts a,Same H H'->H D=none->H' D=some (.lst (List.map V.ref ts))->Prs2 H' ts a->n4 a->a.Nodup->(∀x∈a,x∈ps++[z])->Q (.ref D) H'
def gQ:zl Oq ["seconds","new"] (ze qH):=⟨rfl,rfl,rfl,δ,rfl,δ,δ⟩
def Os{f fo:Addr}{fd bH:FuncData}(F:Fun K "round_with" "round_with" qH f fd)(B:Bt mg)(Fo:Fun K "other_rims" "other_rims" lc fo bH)(bo:Binds K bH ["pair"] [])(mo:mg "other_rims"=some (.ref fo))(Go:FnOk P w K mg base aR 2 fo bH ["pair"] v0):FnOk P w K mg base aR 3 f fd ["seconds","new"] lg:=by
 refine F.ok gQ (fun vs H Q E h=>?_) (fun cdv A outer s H vs Q E hr h=>?_)
 ·obtain⟨d,t,ps,z,rfl,_⟩:=h;rfl
 ·obtain⟨d,t,ps,z,rfl,hd,ht,hnd,hz,h5,z5,hpl,fF,k0,k1⟩:=h
  have hu:=fZ hr;have aE:=hr.units;refine⟨_,zd (zk (i:=2) gQ.nd rfl (Or.inl rfl) (zr (ae (zr (ae (pv 1) ap)) ap)))
   (zd (zk (i:=3) gQ.nd rfl (Or.inl rfl) zX)
   (zd (yy AE (zn jn (zw zp rfl B.len ei (ae (pv 2) ap)) zf (aK _))
    (zd (zk (i:=4) gQ.nd rfl (Or.inl rfl) (Kk AN PySem.F.slot_list_pop PySem.F.type_list_pop Km (pv 2)))
    (zg (zV AE rfl (zv (zo Go hr rfl mo Fo.kp bo .nil aF (ae (cK zZ (pv 4) (mP mR zf) (fun _ _=>rfl)) ap))) (zi (i:=5) gQ.nd rfl (Or.inl rfl))
     (zd (zU (zn (G7 aE) (pv 5) (cK eK (pv 1) zf (fun _ _=>rfl)) (aK _)) (zg (zm (pv 4))) zq)
     (zg (zU (PW.pt (Jz (rE (sH hu (pv 5) (pv 0)) (by with_unfolding_all rfl)) (Jy (rE (DA hu (pv 5) (pv 3)) (by with_unfolding_all rfl)))))
      (zd (fA hu (pv 3) (pv 5) ej rfl)
      (zg (zN (eY AN PySem.F.slot_list_append PySem.F.type_list_append kd (pv 2) (ae (zu iu (pv 4) (zr (ae (zx (ae (pv 5) (ae (ju hu (pv 0) (pv 5) (fun _ _=>rfl)) ap))) ap))) ap))))) zq)))))))
   (zg (zm (zr ap))))),?_⟩
  refine⟨_,rfl,aq (by simp),fun T hr1=>⟨aq (by simp),fun l qA=>?_⟩⟩;have s1:=Same.new (o:=.lst [.ref t]) hr1;have s2:=Same.new (o:=.lst [.ref T]) qA;have cE:=s1.trans s2;have e1:upd (upd H T (.lst [.ref t])) l (.lst [.ref T]) T=some (.lst ([t].map V.ref)):=s2 _ _ al;have e2:upd (upd H T (.lst [.ref t])) l (.lst [.ref T]) l=some (.lst ([T].map V.ref)):=al;have j4:l≠T:=Ne.symm (zh (al (H:=H) (a:=T) (o:=.lst [.ref t])) qA);have kD:H l=none:=s1.free qA;generalize upd (upd H T (.lst [.ref t])) l (.lst [.ref T])=H2 at cE e1 e2;intro G n_;have s3:=Same.new (o:=.dT []) n_;have fU:=cE.trans s3;have pJ:H G=none:=cE.free n_;have oQ:l≠G:=zh e2 n_;refine⟨fun m σ O=>∃(C:List Addr)(p:List (List Pq))(R:List Pq)(v4 v5:Option V),m=2*(ps.length-R.length)+p.length/\σ=[some (.ref d),some (.ref t),some (.ref l),some (.ref G),v4,v5]/\Same H O/\O l=some (.lst (C.map V.ref))/\Rows H O C p/\l∉C/\O G=some (.dT (cg (R.map (·.1))))/\RI ps z R p/\(∀x∈z::R,(∃J,J++[x]∈p)\/Done ps z R x)/\2*(ps.length-R.length)+p.length<=2*ps.length+1,
   ⟨_,[T],[[z]],[],none,none,rfl,rfl,fU,s3 _ _ e2,.cons ⟨hr1,[t],s3 _ _ e1,.cons (ht.same fU) .nil⟩ .nil,by simpa using j4,al,Op,fun x hx=>.inl ⟨[],by rw[List.mem_singleton.mp hx];simp⟩,by simp⟩,?_⟩
  rintro m σ O ⟨C,p,R,v4,v5,rfl,rfl,sm,cX,sC,uT,nY,ri,uk,mh⟩;have q9:=A1 sC;refine⟨_,rfl,l,_,rfl,.inl (SqL.of cX),_,_,rfl,rfl,_,rfl,?_⟩;rw[Ab,q9];rcases List.eq_nil_or_concat p with rfl|⟨dF,L,W⟩
  ·refine a9 ⟨aq (by simp),fun D hD=>k0 D _ (sm.then (sm.free hD)) (sm.free hD) al ?_⟩
   exact Om hnd fF ri.sub fun x hx=>(uk x hx).elim (fun⟨J,hc⟩=>by cases hc) id
  have W:p=dF++[L]:=by rw[W,List.concat_eq_append]
  subst W;rw[decide_eq_true (show(0:Int)<(((dF++[L]).length:Nat):Int) by rw[Af,AK];(first|lia|omega))];obtain⟨N,r,wZ,pZ,⟨sG,ts,fI,bS⟩⟩:=Rows.last sC;subst wZ;have pH:Pth z R L:=ri.pth L (by simp);obtain⟨J,x,W⟩:∃J x,L=J++[x]:=by
   rcases List.eq_nil_or_concat L with e|⟨J,x,e⟩
   ·obtain⟨r,er⟩:=pH.hd
    rw[e] at er;cases er
   ·exact⟨J,x,by rw[e,List.concat_eq_append]⟩
  subst W;obtain⟨t0,tx,wM,mV,wb⟩:=Prs2.last bS;have iN:r≠l:=fun e=>uT (by rw[e];simp);have lL:l∉N:=fun e=>uT (Aw _ e);refine bu ⟨fun ak H'=>∃m',m'<2*(ps.length-R.length)+(dF++[J++[x]]).length/\∃(C:List Addr)(p:List (List Pq))(R:List Pq)(v4 v5:Option V),m'=2*(ps.length-R.length)+p.length/\ak=[some (.ref d),some (.ref t),some (.ref l),some (.ref G),v4,v5]/\Same H H'/\H' l=some (.lst (C.map V.ref))/\Rows H H' C p/\l∉C/\H' G=some (.dT (cg (R.map (·.1))))/\RI ps z R p/\(∀x∈z::R,(∃J,J++[x]∈p)\/Done ps z R x)/\2*(ps.length-R.length)+p.length<=2*ps.length+1,fun ak H' h=>h,?_⟩;rw[Af,AK] at mh;refine⟨_,rfl,.inl ⟨rfl,_,SqL.of cX⟩,l,_,.ref r,rfl,rfl,cX,by rw[Ab,Ah];simp,?_⟩;rw[show((N++[r]).map V.ref).dropLast=N.map V.ref by rw[Ah];simp];have aD:Same H (upd O l (.lst (N.map V.ref))):=sm.then kD;have iW:=al (H:=O) (a:=l) (o:=.lst (N.map V.ref));have jG:Rows H (upd O l (.lst (N.map V.ref))) N dF:=Rows.upd pZ cX (by intro xs z;cases z) lL;have kI:RowH H (upd O l (.lst (N.map V.ref))) r (J++[x]):=RowH.upd ⟨sG,ts,fI,bS⟩ cX (by intro xs z;cases z) iN;have ik:upd O l (.lst (N.map V.ref)) r=some (.lst (ts.map V.ref)):=by rw[au iN];exact fI
  have hps4:Prs2 (upd O l (.lst (N.map V.ref))) ts (J++[x]):=Prs2.upd bS cX (by intro xs z;cases z);have kG:Pr2 (upd O l (.lst (N.map V.ref))) tx x:=Pr2.upd wb cX (by intro xs z;cases z);have ic:upd O l (.lst (N.map V.ref)) G=some (.dT (cg (R.map (·.1)))):=by rw[au (Ne.symm oQ)];exact nY
  generalize upd O l (.lst (N.map V.ref))=H4 at aD iW jG kI ik hps4 kG ic;have lY:x.2.length<=5:=by
   rcases pH.mem x (by simp) with e|e
   ·rw[e];exact z5
   ·exact h5 x (ri.sub x e)
  have elast:eX (ts.map V.ref) (-1)=some (.ref tx):=by rw[wM,Ah];exact F' _ _
  refine⟨_,rfl,_,rfl,r,_,_,_,rfl,rfl,SqL.of ik,elast,tx,x,rfl,kG,lY,fun OL H5 os s5 lr ln tS=>⟨OL,rfl,⟨_,SqL.of ln⟩,?_⟩⟩;have BT:OL≠l:=Ne.symm (zh iW lr);have xg:OL≠G:=Ne.symm (zh ic lr);have hol:=tS.length;refine zK (K:=K) (a:=OL) (xs:=os.map V.ref) (fun j σ I=>∃(C:List Addr)(p:List (List Pq))(R':List Pq)(v5:Option V),σ=[some (.ref d),some (.ref t),some (.ref l),some (.ref G),some (.ref r),v5]/\Same H I/\I OL=some (.lst (os.map V.ref))/\Tps I os (oth x)/\I r=some (.lst (ts.map V.ref))/\Prs2 I ts (J++[x])/\I l=some (.lst (C.map V.ref))/\Rows H I C p/\l∉C/\I G=some (.dT (cg (R'.map (·.1))))/\RI ps z R' p/\(∀y∈R,y∈R')/\
    (∀y∈z::R',y=x\/(∃J,J++[y]∈p)\/Done ps z R' y)/\(∀g∈(oth x).take j,g≠z.1/\(g∈ps.map (·.1)->g∈R'.map (·.1)))/\2*(ps.length-R'.length)+p.length<=2*(ps.length-R.length)+dF.length)
   ⟨N,dF,R,v5,rfl,aD.trans s5,ln,tS,s5 _ _ ik,hps4.same s5,s5 _ _ iW,Paired.mapP jG fun _ _ q=>q.same s5,lL,s5 _ _ ic,⟨ri.sub,ri.nd,fun L bn=>ri.pth L (Aw _ bn)⟩,fun y hy=>hy,fun y hy=>?_,by simp,Ag _⟩ (fun i σ I _ ⟨_,_,_,_,_,_,h,_⟩=>SqL.of h) ?_ ?_
  ·rcases uk y hy with ⟨c1,gF⟩|hdn
   ·rcases List.mem_append.mp gF with h|h
    ·exact .inr (.inl ⟨c1,h⟩)
    ·have:=List.mem_singleton.mp h
     have e:=List.append_inj' this rfl;exact .inl (by have:=e.2;simpa using this)
   ·exact .inr (.inr hdn)
  ·rintro j v σ I hv ⟨C,p,R',jR,rfl,cT,gm,jU,iC,eJ,eV,dL,dM,U,X,kL,d0,jA,pf⟩
   obtain⟨ea,xk,rfl⟩:=zQ hv;obtain⟨g,n6,jO⟩:=jU.get xk;have lQ:g∈oth x:=An n6;obtain⟨nv,rL⟩:=wh.mp lQ;obtain⟨za,zb,ez,yo,Dc⟩:=ht.same cT;refine⟨_,rfl,_,rfl,t,_,_,_,rfl,rfl,SqT.of ez,zD (j:=0) rfl,.inl ⟨ea,za,g,z.1,rfl,rfl,jO,yo,_,rfl,?_⟩⟩;rw[if_neg ξ];have dH:Pth z R' (J++[x]):=pH.mono kL
   by_cases M:g=z.1
   ·rw[decide_eq_true M]
    refine bu ⟨_,rfl,k1 r I ts (J++[x]) cT sG iC eJ (On dH (vZ.mpr ⟨by rw[<-M];exact rL,by rw[<-M];exact nv⟩)) dH.nd fun y hy=>?_⟩;rcases dH.mem y hy with e|e
    ·rw[e];simp
    ·exact Aw _ (X.sub y e)
   rw[decide_eq_false M];obtain⟨kvs,gZ,qM⟩:=hd.same cT;have skip:(g∈ps.map (·.1)->g∈R'.map (·.1))->∀q∈(oth x).take (j+1),q≠z.1/\(q∈ps.map (·.1)->q∈R'.map (·.1)):=fun h q hq=>by
    rw[AI n6] at hq;rcases List.mem_append.mp hq with hq|hq
    ·exact jA q hq
    ·rw[List.mem_singleton.mp hq];exact⟨M,h⟩
   refine a9 ⟨_,rfl,_,rfl,d,_,rfl,DGet.t (k:=g.map Sum.inl) gZ (by rw[AC];exact jO),_,rfl,?_⟩;rcases sec_val qM g with ⟨ev,hno⟩|⟨b,q,ev,hin,hb⟩
   ·rw[ev]
    exact a9 ⟨C,p,R',_,rfl,cT,gm,jU,iC,eJ,eV,dL,dM,U,X,kL,d0,skip fun h=>absurd h hno,pf⟩
   rw[ev];refine bu ⟨_,rfl,_,rfl,G,_,rfl,DGet.t (k:=g.map Sum.inl) U (by rw[AC];exact jO),_,rfl,?_⟩;rw[ql]
   by_cases S:g∈R'.map (·.1)
   ·rw[decide_eq_true S]
    exact a9 ⟨C,p,R',_,rfl,cT,gm,jU,iC,eJ,eV,dL,dM,U,X,kL,d0,skip fun _=>S,pf⟩
   rw[decide_eq_false S];have hG:=X.le;refine bu ⟨_,rfl,_,rfl,G,_,rfl,DPut.t (k:=g.map Sum.inl) U (by rw[AC];exact jO) (zH (AB (iE _) (by rw[Ab];(first|lia|omega)))),?_⟩;rw[iF];have mT:Same H (upd I G (.dT (cg (R'.map (·.1)++[g])))):=cT.then pJ;have iz:∀xs,(HO.dT (cg (R'.map (·.1))))≠.tup xs:=by intro xs z;cases z
   have tk:∀{c:Addr}{xs:List V},I c=some (.tup xs)->upd I G (.dT (cg (R'.map (·.1)++[g]))) c=some (.tup xs):=fun{c xs} e=>by
    rw[au (fun z=>by subst z;rw[U] at e;cases e)];exact e
   have hOL7:upd I G (.dT (cg (R'.map (·.1)++[g]))) OL=some (.lst (os.map V.ref)):=by rw[au xg];exact gm
   have uv:=Tps.upd (o:=.dT (cg (R'.map (·.1)++[g]))) jU U iz;have xi:r≠G:=fun e=>by rw[e,U] at iC;cases iC
   have hr7:upd I G (.dT (cg (R'.map (·.1)++[g]))) r=some (.lst (ts.map V.ref)):=by rw[au xi];exact iC
   have fO:=Prs2.upd (o:=.dT (cg (R'.map (·.1)++[g]))) eJ U iz;have fY:upd I G (.dT (cg (R'.map (·.1)++[g]))) l=some (.lst (C.map V.ref)):=by rw[au oQ];exact eV
   have hSr:G∉C:=fun hm=>by
    obtain⟨L,bn⟩:∃L,RowH H I G L:=by
     have:∀{C:List Addr}{p:List (List Pq)},Rows H I C p->G∈C->∃L,RowH H I G L:=fun{C p} h=>by
      induction h with
      |nil=>intro hm;cases hm
      |cons r t ih=>
       intro hm;rcases List.mem_cons.mp hm with rfl|hm
       ·exact⟨_,r⟩
       ·exact ih hm
     exact this dL hm
    obtain⟨_,CP,e,_⟩:=bn;rw[U] at e;cases e
   have Y:Rows H (upd I G (.dT (cg (R'.map (·.1)++[g])))) C p:=Rows.upd dL U iz hSr;have jZ:=al (H:=I) (a:=G) (o:=.dT (cg (R'.map (·.1)++[g])));have i4:Tp (upd I G (.dT (cg (R'.map (·.1)++[g])))) ea g:=tk jO;have ui:Sec (upd I G (.dT (cg (R'.map (·.1)++[g])))) d ps:=hd.same mT;generalize upd I G (.dT (cg (R'.map (·.1)++[g])))=H7 at mT hOL7 uv hr7 fO fY Y jZ i4 ui;obtain⟨n9,o9,pM⟩:=ui;obtain⟨b7,Z,B4,kU,xa⟩:∃b q,valV n9 (g.map Sum.inl)=some (.ref b)/\(g,q)∈ps/\Tp H7 b q:=by
    rcases sec_val pM g with ⟨_,hno⟩|h
    ·exact absurd (List.mem_map.mpr ⟨_,hin,rfl⟩) hno
    ·exact h
   have hlt:=fO.length;have hcl:(J++[x]).length<=ps.length+1:=by
    have:=dH.nd.length_le_of_subset (l₂:=z::R') fun y hy=>(dH.mem y hy).elim (fun e=>by rw[e];exact Ar) (At _);rw[Am] at this;(first|lia|omega)
   have jP:=DGet.t (k:=g.map Sum.inl) o9 (by rw[AC];exact i4);rw[B4] at jP;refine⟨_,rfl,.inl ⟨rfl,_,SqL.of fY⟩,_,rfl,_,rfl,_,rfl,_,rfl,d,_,rfl,jP,aq (by simp),fun TT vd=>⟨aq (by simp),fun L1 jc=>?_⟩⟩;have u1:=Same.new (o:=.tup [.ref ea,.ref b7]) vd;have u2:=Same.new (o:=.lst [.ref TT]) jc;have lN:=u1.trans u2;have oX:Pr2 (upd (upd H7 TT (.tup [.ref ea,.ref b7])) L1 (.lst [.ref TT])) TT (g,Z):=⟨ea,b7,u2 _ _ al,lN.tp i4,lN.tp xa⟩;refine⟨r,L1,_,_,rfl,rfl,lN _ _ hr7,al,aq (by rw[Ab];simp;(first|lia|omega)),fun NR tW=>?_⟩;have u3:=Same.new (o:=.lst (ts.map V.ref++[.ref TT])) tW;have u:=lN.trans u3;have jK:=al (H:=upd (upd H7 TT (.tup [.ref ea,.ref b7])) L1 (.lst [.ref TT])) (a:=NR) (o:=.lst (ts.map V.ref++[.ref TT]));have jJ:H7 NR=none:=lN.free tW;have kY:=oX.same u3;generalize upd (upd (upd H7 TT (.tup [.ref ea,.ref b7])) L1 (.lst [.ref TT])) NR (.lst (ts.map V.ref++[.ref TT]))=H9 at u jK kY;have vD:=mT.trans u;have gi:=u _ _ fY;have nN:C.length<=3000:=by have:=A1 Y;(first|lia|omega)
   refine⟨l,_,_,rfl,rfl,gi,by rw[Ab];exact zH ω,?_⟩;have uL:NR≠l:=Ne.symm (zh fY jJ);have qV:∀xs,(HO.lst (C.map V.ref))≠.tup xs:=by intro xs z;cases z
   have hnew:(g,Z)∉R':=fun h=>S (List.mem_map.mpr ⟨_,h,rfl⟩);have wj:(g,Z)≠z:=fun e=>M (by rw[<-e]);have lT:=Oo dH (y:=(g,Z)) (vZ.mpr ⟨rL,nv⟩) wj hnew;have kP:RowH H H9 NR (J++[x]++[(g,Z)]):=⟨mT.free jJ,ts++[TT],by rw[jK,Ah];rfl,Prs2.add (fO.same u) kY⟩;refine⟨C++[NR],p++[J++[x]++[(g,Z)]],R'++[(g,Z)],_,rfl,vD.then kD,by rw[au BT];exact u _ _ hOL7,Tps.upd (u.tps uv) gi qV,by rw[au iN];exact u _ _ hr7,Prs2.upd (fO.same u) gi qV,by rw[al,Ah];rfl,?_,?_,?_,⟨?_,?_,?_⟩,fun y hy=>Aw _ (kL y hy),fun y hy=>?_,fun qq t_=>?_,?_⟩
   ·exact Rows.upd (Rows.add (Paired.mapP Y fun _ _ h=>h.same u) kP) gi qV fun hm=>by
     rcases List.mem_append.mp hm with h|h
     ·exact dM h
     ·exact uL (List.mem_singleton.mp h).symm
   ·intro hm
    rcases List.mem_append.mp hm with h|h
    ·exact dM h
    ·exact uL (List.mem_singleton.mp h).symm
   ·rw[au (Ne.symm oQ),Ah];exact u _ _ jZ
   ·intro y hy
    rcases List.mem_append.mp hy with h|h
    ·exact X.sub y h
    ·rw[List.mem_singleton.mp h];exact kU
   ·rw[Ah,AM]
    refine⟨X.nd,by simp,fun a ha b hb e=>?_⟩;rw[List.mem_singleton.mp hb] at e;have e':a=g:=e;exact S (by rw[<-e'];exact ha)
   ·intro L bn
    rcases List.mem_append.mp bn with h|h
    ·exact(X.pth L h).mono fun y hy=>Aw _ hy
    ·rw[List.mem_singleton.mp h];exact lT
   ·have:y∈z::R'\/y=(g,Z):=by
     rcases List.mem_cons.mp hy with h|h
     ·exact .inl (by rw[h];exact Ar)
     ·rcases List.mem_append.mp h with h|h
      ·exact .inl (At _ h)
      ·exact .inr (List.mem_singleton.mp h)
    rcases this with h|rfl
    ·rcases d0 y h with e|⟨c1,gF⟩|hdn
     ·exact .inl e
     ·exact .inr (.inl ⟨c1,Aw _ gF⟩)
     ·exact .inr (.inr (hdn.mono fun y hy=>Aw _ hy))
    ·exact .inr (.inl ⟨J++[x],Az _ (List.mem_singleton.mpr rfl)⟩)
   ·rw[AI n6] at t_
    rw[Ah];rcases List.mem_append.mp t_ with h|h
    ·exact⟨(jA qq h).1,fun hm=>Aw _ ((jA qq h).2 hm)⟩
    ·rw[List.mem_singleton.mp h]
     exact⟨M,fun _=>Az _ (List.mem_singleton.mpr rfl)⟩
   ·have Bq:R'.length<ps.length:=by
     have hnd2:((R'++[(g,Z)]).map (·.1)).Nodup:=by
      rw[Ah,AM];refine⟨X.nd,by simp,fun a ha b hb e=>?_⟩;rw[List.mem_singleton.mp hb] at e;have e':a=g:=e;exact S (by rw[<-e'];exact ha)
     have:=hnd2.length_le_of_subset (l₂:=ps.map (·.1)) fun a ha=>by
      obtain⟨y,hy,rfl⟩:=List.mem_map.mp ha;rcases List.mem_append.mp hy with h|h
      ·exact List.mem_map.mpr ⟨y,X.sub y h,rfl⟩
      ·rw[List.mem_singleton.mp h];exact List.mem_map.mpr ⟨_,kU,rfl⟩
     rw[Ab,Ab,Af,AK] at this;(first|lia|omega)
    rw[Af,Af,AK,AK];(first|lia|omega)
  ·rintro σ I ⟨C,p,R',jR,rfl,cT,gm,jU,iC,eJ,eV,dL,dM,U,X,kL,d0,jA,pf⟩
   rw[Ab,hol,take_all] at jA;refine⟨_,?_,C,p,R',_,_,rfl,rfl,cT,eV,dL,dM,U,X,fun y hy=>?_,?_⟩
   ·rw[Af,AK];(first|lia|omega)
   ·rcases d0 y hy with e|h|h
    ·rw[e];exact .inr jA
    ·exact .inl h
    ·exact .inr h
   ·(first|lia|omega)
end
abbrev wl:Stmt:=top 38
abbrev qP:Stmt:=top 37
abbrev wo:Stmt:=top 39
abbrev qQ:Stmt:=top 36
def stds(ps:List Pq):Ξ:=ps.flatMap fun x=>[x.1,x.2]
def lh(ps a:List Pq):stds (ps++a)=stds ps++stds a:=by unfold stds;rw[List.flatMap_append]
def oo(x:Pq):stds [x]=[x.1,x.2]:=rfl
structure PG(kn:Ξ)(ps:List Pq):Prop where
 has:∀x∈ps,x.2∈kn/\x.1∈rims x.2
 nd:(stds ps).Nodup
 ac:eF ps
def E1{ps:List Pq}(h:(stds ps).Nodup):(ps.map (·.1)).Nodup:=by
 have:(ps.map (·.1)).Sublist (stds ps):=by
  induction ps with
  |nil=>exact List.Sublist.slnil
  |cons x r ih=>
   have e:stds (x::r)=[x.1,x.2]++stds r:=rfl;rw[e,AM] at h;rw[e];exact((ih h.2.1).cons x.2).cons_cons x.1
 exact h.sublist this
def Iq{ps:List Pq}{x:Pq}(h:x∈ps):x.1∈stds ps/\x.2∈stds ps:=⟨List.mem_flatMap.mpr ⟨x,h,by simp⟩,List.mem_flatMap.mpr ⟨x,h,by simp⟩⟩
section
variable{P:Program}{w:World}{K:Ac}{mg:Str->Option Value}{base:Heap}
def Prs2.get{H:Hp}:∀{ts:List Addr}{xs:List Pq}{i:Nat}{t:Addr},Prs2 H ts xs->ts[i]?=some t->∃x,xs[i]?=some x/\Pr2 H t x
 |_,_,_,_,.nil,e=>by simp at e
 |_,_,0,_,.cons r _,e=>by simp at e;subst e;exact⟨_,rfl,r⟩
 |_,_,i+1,t,.cons _ q,e=>by
  obtain⟨x,h1,h2⟩:=Prs2.get (i:=i) (t:=t) q (by simpa using e);exact⟨x,by simpa using h1,h2⟩
def Ot:zl ["every","pair"] ["every","pair"] (ze wl):=⟨rfl,rfl,rfl,δ,rfl,δ,δ⟩
def Ir{H2:Hp}{t d D:Addr}{x:Pq}{seq:Ξ}{Q:VK}(ht:Pr2 H2 t x)(hd:H2 d=some (.dT (cg seq)))(i:H2 D=none)(k:∀(g:Hp),Same H2 g->g D=some (.lst ([decide (x.1∈seq),decide (x.2∈seq)].map V.bl))->Q (.ref D) g):c7 (jl K t) (cV 0) cz (fy (aM 0) (aM 1)) [none,some (.ref d)] H2 D Q:=by
 obtain⟨a,b,q,ha,hb⟩:=ht;refine GV (xs:=[.ref a,.ref b]) (fun j σ ys g=>∃(v:Option V),σ=[v,some (.ref d)]/\Same H2 g/\g D=some (.lst ys)/\ys=(([decide (x.1∈seq),decide (x.2∈seq)]:List Bool).take j).map V.bl) ?_ ?_ ?_ ?_
 ·exact⟨none,rfl,Same.new i,al,rfl⟩
 ·rintro j σ ys g ⟨v,rfl,f,c,rfl⟩
  exact SqT.of (f _ _ q)
 ·rintro j σ ys g y hy l o ⟨v,rfl,f,c,rfl⟩
  have p:([.ref a,.ref b]:List V).length<=sizeLine:=aq (by simp);have h:j=0\/j=1:=by have:=(List.getElem?_eq_some_iff.mp hy).1;simp at this;(first|lia|omega)
  rcases h with rfl|rfl
  ·have e:V.ref a=y:=by simpa using hy
   subst e;refine cR ⟨_,rfl,_,rfl,d,_,rfl,DGet.t (k:=x.1.map Sum.inl) (f _ _ hd) (by rw[AC];exact f.tp ha),?_⟩;rw[ql];exact ci p l o c ⟨_,rfl,f.then i,al,rfl⟩
  ·have e:V.ref b=y:=by simpa using hy
   subst e;refine cR ⟨_,rfl,_,rfl,d,_,rfl,DGet.t (k:=x.2.map Sum.inl) (f _ _ hd) (by rw[AC];exact f.tp hb),?_⟩;rw[ql];exact ci p l o c ⟨_,rfl,f.then i,al,rfl⟩
 ·rintro σ ys g ⟨v,rfl,f,c,rfl⟩
  exact k g f c
abbrev Is:List Str:=["every","pairs","stands","k","pair","piece"]
def qR:zl Is ["every","pairs"] (ze qP):=⟨rfl,rfl,rfl,δ,rfl,δ,δ⟩
end
abbrev qT:Stmt:=top 47
def Ou:AV "dict"=some (.type "dict"):=δ
abbrev qW(K:Ac):TE:=cI (zL (aM 0) (zL (dv (rI CMul fun i j=>.int (i*j)) (zc (rU fun i=>.int (-i)) (pk (aM 1) (aM 0))) (pk (aM 1) (dv (j' K) (aM 2) (tC (.int 0))))) bD))
section
variable{P:Program}{w:World}{K:Ac}{mg:Str->Option Value}{base:Heap}
def Ow{H2:Hp}{L D W t:Addr}{as:List Addr}{i:Ξ}{x:Pq}{u:Ch}{Q:VK}(X:H2 L=some (.lst (as.map V.ref)))(ht:Tps H2 as i)(hz:i.length<=1000)(hx:Pr2 H2 t x)(F:H2 W=some (.dT (b' u)))(hr:∀r∈i,r∈ksC u)(Y:x.1∈ksC u)(hw:∀c∈u,c.2=1\/c.2=-1)(G:H2 D=none)(k:∀(f:Hp)(ts:List Addr)(d:Ch),Same H2 f->f D=some (.lst (ts.map V.ref))->Prs f ts d->ksC d=i->(∀c∈d,c.2=1\/c.2=-1)->Q (.ref D) f):c7 (eI K L) (cV 0) cz (qW K) [none,some (.ref W),some (.ref t)] H2 D Q:=by
 have T:=ht.length;refine z0 (xs:=as.map V.ref) (fun j σ ys f=>∃(y:Option V)(ts:List Addr)(d:Ch),σ=[y,some (.ref W),some (.ref t)]/\Same H2 f/\f D=some (.lst ys)/\ys=ts.map V.ref/\Prs f ts d/\ksC d=i.take j/\∀c∈d,c.2=1\/c.2=-1) ?_ ?_ ?_ ?_
 ·exact⟨none,[],[],rfl,Same.new G,al,rfl,.nil,rfl,fun c hc=>(by cases hc)⟩
 ·rintro j σ ys f ⟨y,ts,d,rfl,h,g,rfl,_⟩
  exact SqL.of (h _ _ X)
 ·rintro j σ ys f v I J hy ⟨y,ts,d,rfl,h,g,rfl,hp,hk,h1⟩
  obtain⟨o,M,rfl⟩:=zQ I;obtain⟨r,A,C⟩:=ht.get M;have U:(as.map V.ref).length<=sizeLine:=by rw[Ab];exact aq ω
  obtain⟨a,b,N,ha,hb⟩:=hx.same h;obtain⟨l,O,e1,g1⟩:=EY (hr r (An A));obtain⟨q,P,e2,g2⟩:=EY Y;have S:=hw l O;have E:=hw q P;refine cR ⟨_,rfl,_,rfl,_,rfl,W,_,rfl,.inr ⟨_,r.map Sum.inl,o,.inl (h _ _ F),rfl,iO (h.tp C),g1.symm⟩,_,rfl,_,rfl,_,rfl,t,_,_,_,rfl,rfl,SqT.of N,zD (j:=0) rfl,W,_,rfl,.inr ⟨_,x.1.map Sum.inl,a,.inl (h _ _ F),rfl,iO ha,g2.symm⟩,_,_,rfl,rfl,.inr (by rcases E with e|e<;>rw[e]<;>decide),aq (by simp),fun p H=>?_⟩;have s:=Same.new (o:=.tup [.ref o,.int (-l.2*q.2)]) H;refine ci U J hy (s _ _ g) ⟨_,ts++[p],d++[(r,-l.2*q.2)],rfl,(h.trans s).then G,al,by rw[Ah];rfl,?_,?_,fun c hc=>?_⟩
  ·exact Prs.upd (Prs.snoc (hp.same s) ⟨o,al,s.tp (h.tp C)⟩) (s _ _ g) (by intro xs z;cases z)
  ·rw[AI A,<-hk];unfold ksC;rw[Ah];rfl
  ·rcases List.mem_append.mp hc with hc|hc
   ·exact h1 c hc
   ·rw[List.mem_singleton.mp hc]
    show -l.2*q.2=1\/-l.2*q.2=-1;rcases S with e|e<;>rcases E with e'|e'<;>rw[e,e']<;>decide
 ·rintro σ ys f ⟨y,ts,d,rfl,h,g,rfl,hp,hk,h1⟩
  rw[Ab,T,Au (Ag _)] at hk;exact k f ts d h g hp hk h1
def Iu:Sp:=fun vs H Q _=>∃t x,vs=[.ref t]/\Pr2 H t x/\x.2.length<=5/\x.1∈rims x.2/\∀D H' ts a,Same H H'->H D=none->H' D=some (.lst (List.map V.ref ts))->Prs H' ts a->ksC a=oth x->(∀c∈a,c.2=1\/c.2=-1)->Q (.ref D) H'
def Iv:zl ["pair","weights"] ["pair"] (ze qT):=⟨rfl,rfl,rfl,δ,rfl,δ,δ⟩
def Ox{f g l:Addr}{fd p q:FuncData}(F:Fun K "step_terms" "step_terms" qT f fd)(B:Bt mg)(j5:mg "dict"=none)(Fo:Fun K "other_rims" "other_rims" lc g p)(bo:Binds K p ["pair"] [])(mo:mg "other_rims"=some (.ref g))(Go:FnOk P w K mg base aR 2 g p ["pair"] v0)(Ft:Fun K "seam_terms" "seam_terms" n7 l q)(bt:Binds K q ["piece","often"] [])(mt:mg "seam_terms"=some (.ref l))(Gt:FnOk P w K mg base aR 2 l q ["piece","often"] wc):FnOk P w K mg base aR 3 f fd ["pair"] Iu:=by
 refine F.ok Iv (fun vs H Q E h=>?_) (fun cdv A outer s H vs Q E hr h=>?_)
 ·obtain⟨t,x,rfl,_⟩:=h;rfl
 ·obtain⟨t,x,rfl,hx,G,Y,k⟩:=h
  have hu:=fZ hr;have aE:=hr.units;refine⟨_,zd (zk (i:=1) Iv.nd rfl (Or.inr rfl) (zG (EO rfl aE) rfl j5 Ou (ae (zo Gt hr rfl mt Ft.kp bt .nil aF (ae (cK eK (pv 0) zf (fun _ _=>rfl)) (ae zf ap))) ap)))
   (zg (zm (zt ["pair","weights"] ["rim","weights","pair"] [none,some 1,some 0] (zv (zo Go hr rfl mo Fo.kp bo .nil aF (ae (pv 0) ap))) (fun v C s₀ H₀ ex=>zi (i:=0) (cO ["rim","weights","pair"]) rfl (Or.inl rfl))
    (fun v C s₀ H₀ ex=>zM) (fun v C s₀ H₀ ex=>zx (ae (pv 0) (ae (zu dU (mP mR (ju hu (pv 1) (pv 0) (fun _ _=>rfl))) (ju hu (pv 1) (cK eK (pv 2) zf (fun _ _=>rfl)) (fun _ _=>rfl))) ap)))
    (hfr:=cw (ze qT) δ) (te:=qW K)))),?_⟩
  obtain⟨a,b,Z,ha,hb⟩:=id hx;refine⟨_,rfl,t,_,_,_,rfl,rfl,SqT.of Z,zD (j:=1) rfl,b,x.2,1,rfl,hb,G,fun D1 H1 us I yJ J L=>?_⟩;refine⟨D1,us,b' (stm x.2 1),rfl,SqL.of J,Ob L,fun W M=>?_⟩;rw[Oa];have sW:=Same.new (o:=.dT (b' (zcG (stm x.2 1)))) M;have d:=I.trans sW;obtain⟨d1,d2⟩:=Oc (P:=fun n=>n=1\/n=-1) (stm x.2 1) fun u hu=>(EZ hu).2;have has:∀r∈rims x.2,r∈ksC (zcG (stm x.2 1)):=fun r hr=>by
   obtain⟨u,hu,rfl⟩:=Of (n:=1) hr;exact d2 u hu
  refine⟨_,rfl,t,x,rfl,hx.same d,G,fun RL H3 rs c _ y e=>⟨RL,rfl,⟨_,SqL.of y⟩,fun D z=>?_⟩⟩;have nN:=gd x.2;have hol:(oth x).length<=(rims x.2).length:=List.length_filter_le _ _;exact zB (Ow y e ω (hx.same (d.trans c)) (c _ _ al) (fun r hr=>has r (wh.mp hr).1) (has _ Y) d1 z fun H4 ts N O S T U X=>k D H4 ts N ((d.trans c).trans O) ((d.trans c).free z) S T U X)
def Oy{H2:Hp}{L D d:Addr}{as:List Addr}{h:Ξ}{es:List En}{Q:VK}(C:H2 L=some (.lst (as.map V.ref)))(ht:Tps H2 as h)(hz:h.length<=1000)(he:Ends H2 d es)(l:H2 D=none)(k:∀(f:Hp),Same H2 f->f D=some (.lst ((h.map fun r=>decide (r∈es.map (·.1))).map V.bl))->Q (.ref D) f):c7 (eI K L) (cV 0) cz (fy (aM 0) (aM 1)) [none,some (.ref d)] H2 D Q:=by
 have y:=ht.length;refine z0 (xs:=as.map V.ref) (fun j σ ys f=>∃(i:Option V),σ=[i,some (.ref d)]/\Same H2 f/\f D=some (.lst ys)/\ys=(((h.map fun r=>decide (r∈es.map (·.1))).take j).map V.bl)) ?_ ?_ ?_ ?_
 ·exact⟨none,rfl,Same.new l,al,rfl⟩
 ·rintro j σ ys f ⟨i,rfl,g,a,rfl⟩
  exact SqL.of (g _ _ C)
 ·rintro j σ ys f v p q hy ⟨i,rfl,g,a,rfl⟩
  obtain⟨o,s,rfl⟩:=zQ p;obtain⟨r,u,x⟩:=ht.get s;have z:(as.map V.ref).length<=sizeLine:=by rw[Ab];exact aq ω
  obtain⟨kvs,hd,hp⟩:=he.same g;have e:(h.map fun r=>decide (r∈es.map (·.1)))[j]?=some (decide (r∈es.map (·.1))):=by rw[Ao,u];rfl
  refine cR ⟨_,rfl,_,rfl,d,_,rfl,.inr ⟨kvs,r.map Sum.inl,o,.inl hd,rfl,iO (g.tp x),rfl⟩,?_⟩;have A:(valV kvs (r.map Sum.inl)).isSome=decide (r∈es.map (·.1)):=by
   rcases end_val hp r with ⟨g1,g2⟩|⟨b,ob,c,g1,g2,g3⟩
   ·rw[g1,decide_eq_false g2];rfl
   ·rw[g1,decide_eq_true (List.mem_map.mpr ⟨_,g2,rfl⟩)];rfl
  rw[A];refine ci z q hy a ⟨_,rfl,g.then l,al,?_⟩;rw[AI e,Ah];rfl
 ·rintro σ ys f ⟨i,rfl,g,a,rfl⟩
  rw[Ab,y,Au (by rw[Ab];exact Ag _)] at a;exact k f g a
end
def Iw:∀ps:List Pq,(stds ps).Perm (ps.map (·.1)++ps.map (·.2))
 |[]=>.nil
 |x::ps=>by
  have h:=((Iw ps).cons x.2).cons x.1;exact h.trans (List.Perm.cons _ (List.perm_middle.symm))
structure EI(left:Ξ)(ps:List Pq)(N:Nat)(es:List En)(W:List Pq):Prop where
 sub:W.Sublist ps
 cnt:es.length+W.length=N
 fst:∀x∈ps,x∈W\/x.1∈es.map (·.1)
 new:∀x∈W,x.1∉es.map (·.1)
 lft:∀p∈left,p∈es.map (·.1)
 snd:∀x∈ps,x.2∈es.map (·.1)
 ok:Ok left es
def EI.stuck{kn left:Ξ}{ps W:List Pq}{N:Nat}{es:List En}(e:EI left ps N es W)(g:PG kn ps)(l:∀p∈kn,p∉stds ps->p∈left)(hc:∀p∈kn,∀r∈rims p,r∈kn)(h:∀x∈W,∃r∈oth x,r∉es.map (·.1)):W=[]:=by
 refine g.ac W (fun x hx=>e.sub.subset hx) fun x hx=>?_;obtain⟨r,hr,c⟩:=h x hx;obtain⟨a,d⟩:=wh.mp hr;have i:r∈kn:=hc x.2 (g.has x (e.sub.subset hx)).1 r a;have j:r∈stds ps:=Classical.byContradiction fun z=>c (e.lft r (l r i z));obtain⟨y,hy,f⟩:=List.mem_flatMap.mp j;simp only[List.mem_cons,List.not_mem_nil,or_false] at f;rcases f with rfl|rfl
 ·rcases e.fst y hy with z|z
  ·exact⟨y,z,vZ.mpr ⟨d,a⟩⟩
  ·exact absurd z c
 ·exact absurd (e.snd y hy) c
def EI.put{left:Ξ}{ps A B:List Pq}{N:Nat}{es:List En}{x:Pq}{c:Ch}(e:EI left ps N es (A++x::B))(hf:(ps.map (·.1)).Nodup)(hk:c.length<=200/\∀k∈ksC c,k∈left):EI left ps N (es++[(x.1,c)]) (A++B):=by
 have sub:(A++B).Sublist (A++x::B):=List.Sublist.append (List.Sublist.refl _) (List.sublist_cons_self _ _);have d:∀{q},q∈es.map (·.1)->q∈(es++[(x.1,c)]).map (·.1):=fun{q} h=>by rw[Ah];exact Aw _ h
 have g:x.1∈(es++[(x.1,c)]).map (·.1):=by rw[Ah];simp
 have a:((A++x::B).map (·.1)).Nodup:=hf.sublist (e.sub.map _);refine⟨sub.trans e.sub,?_,fun y hy=>?_,fun y hy h=>?_,fun p hp=>d (e.lft p hp),fun y hy=>d (e.snd y hy),fun y hy=>?_⟩
 ·have:=e.cnt
  rw[Af,Am] at this;rw[Af,Af,AK];(first|lia|omega)
 ·rcases e.fst y hy with h|h
  ·rcases List.mem_append.mp h with h|h
   ·exact .inl (Aw _ h)
   ·rcases List.mem_cons.mp h with rfl|h
    ·exact .inr g
    ·exact .inl (Az _ h)
  ·exact .inr (d h)
 ·rw[Ah] at h
  rcases List.mem_append.mp h with h|h
  ·exact e.new y (sub.subset hy) h
  ·have f:y.1=x.1:=by simpa using h
   rw[Ah,AF,AM,List.nodup_cons] at a;rcases List.mem_append.mp hy with hy|hy
   ·exact a.2.2 _ (List.mem_map.mpr ⟨y,hy,rfl⟩) x.1 Ar f
   ·exact a.2.1.1 (List.mem_map.mpr ⟨y,hy,f⟩)
 ·rcases List.mem_append.mp hy with hy|hy
  ·exact e.ok y hy
  ·rw[List.mem_singleton.mp hy];exact hk
abbrev qY:Stmt:=top 46
abbrev Ix:List Str:=["left","pairs","ends","piece","pair","waiting","later"]
def Ends.put{H:Hp}{T b j:Addr}{es:List En}{x:En}{o:Obj}(h:Ends H T es)(hx:x.1∉es.map (·.1))(hb:H b=some (.frz o (.dT (b' x.2))))(hk:Tp H j x.1)(q:es.length<=1000):∃a,DPut H T (.ref j) (.ref b) (L2.upd H T (.dT a))/\Ends (L2.upd H T (.dT a)) T (es++[x]):=by
 obtain⟨kvs,g,hp⟩:=h;obtain⟨a,e,p⟩:=Og hp hx hb;have i:=A1 hp;have d:=DPut.t (k:=x.1.map Sum.inl) (v:=.ref b) g (iO hk) (zH ω);rw[e] at d;refine⟨a,d,a,al,Paired.mapP p fun _ _ ⟨h1,c,l,h2,f⟩=>⟨h1,c,l,h2,?_⟩⟩;rw[au (fun z=>by subst z;rw[g] at f;cases f)];exact f
def Oz{c:Ch}{l:Ξ}(h:(ksC c).Nodup)(hs:∀k∈ksC c,k∈l):c.length<=l.length:=by
 have:=h.length_le_of_subset (l₂:=l) fun x hx=>hs x hx;rw[ET] at this;exact this
section
variable{P:Program}{w:World}{K:Ac}{mg:Str->Option Value}{base:Heap}
def Iy(K:Ac):Sp:=fun vs H Q _=>∃l m as ts kn ps,vs=[.ref l,.ref m]/\SqL K H l (as.map V.ref)/\Tps H as (kn.filter fun p=>!decide (p∈stds ps))/\SqL K H m (ts.map V.ref)/\Prs2 H ts ps/\PG kn ps/\kn.Nodup/\(∀p∈kn,∀r∈rims p,r∈kn)/\(∀p∈kn,p.length<=5)/\kn.length<=200/\ps.length<=100/\
 ∀D H' es,Same H H'->H D=none->Ends H' D es->(∀p∈kn,p∈es.map (·.1))->Ok (kn.filter fun p=>!decide (p∈stds ps)) es->Q (.ref D) H'
def jD:zl Ix ["left","pairs"] (ze qY):=⟨rfl,rfl,rfl,δ,rfl,δ,δ⟩
def OA{f fo fs fb:Addr}{fd bH iJ eL:FuncData}(F:Fun K "ends_of" "ends_of" qY f fd)(B:Bt mg)(Fo:Fun K "other_rims" "other_rims" lc fo bH)(bo:Binds K bH ["pair"] [])(mo:mg "other_rims"=some (.ref fo))(Go:FnOk P w K mg base aR 2 fo bH ["pair"] v0)(Fs:Fun K "step_terms" "step_terms" qT fs iJ)(bs:Binds K iJ ["pair"] [])(ms:mg "step_terms"=some (.ref fs))(Gs:FnOk P w K mg base aR 3 fs iJ ["pair"] Iu)(Fb:Fun K "brought_to_ends" "brought_to_ends" ol fb eL)(bb:Binds K eL ["terms","ends"] [])(mb:mg "brought_to_ends"=some (.ref fb))(Gb:FnOk P w K mg base aR 2 fb eL ["terms","ends"] (i6 K)):FnOk P w K mg base aR 4 f fd ["left","pairs"] (Iy K):=by
 refine F.ok jD (fun vs H Q E h=>?_) (fun cdv A outer s H vs Q E hr h=>?_)
 ·obtain⟨l,m,as,ts,kn,ps,rfl,_⟩:=h;rfl
 ·obtain⟨l,m,as,ts,kn,ps,rfl,hl,ha,hm,ht,pg,ng,hcl,h5,hz,CY,k⟩:=h
  have hu:=fZ hr;have hr2:Room 2 _:=hr.mono ξ;refine⟨_,zd (zk (i:=2) jD.nd rfl (Or.inr rfl) zX)
   (zd (zV AE rfl (zv (pv 0)) (zi (i:=3) jD.nd rfl (Or.inl rfl)) (zg (fA hu (pv 2) (pv 3) (ES (N1 hu (pv 3) zf)) rfl)))
   (zd (zV AE rfl (zv (pv 1)) (zi (i:=4) jD.nd rfl (Or.inl rfl)) (zg (fA hu (pv 2) (cK eK (pv 4) zf (fun _ _=>rfl)) (ES zX) rfl)))
   (zd (zk (i:=5) jD.nd rfl (Or.inl rfl) (zG zR rfl B.list gI (ae (pv 1) ap)))
   (zd (yy AE (zn jn (zw zp rfl B.len ei (ae (pv 5) ap)) zf (aK _))
    (zd (zk (i:=6) jD.nd rfl (Or.inl rfl) (zr ap))
    (zd (zV AE rfl (zv (pv 5)) (zi (i:=4) jD.nd rfl (Or.inl rfl))
     (zg (zU (jh (zw (D8 rfl) rfl B.all Ep (ae (zt Ix ["rim","ends"] [none,some 2] (zv (zo Go hr2 rfl mo Fo.kp bo .nil aF (ae (pv 4) ap))) (fun cl C s₀ H₀ ex=>zi (i:=0) (cO ["rim","ends"]) rfl (Or.inl rfl)) (fun cl C s₀ H₀ ex=>zM)
       (fun cl C s₀ H₀ ex=>xV (sH hu (pv 0) (pv 1)) (by with_unfolding_all rfl)) (hfr:=cw (ze qY) δ) (te:=fy (aM 0) (aM 1))) ap)))
      (zg (fA hu (pv 2) (cK eK (pv 4) zf (fun _ _=>rfl)) (ES (zo Gb hr2 rfl mb Fb.kp bb .nil aF (ae (zo Gs hr rfl ms Fs.kp bs .nil aF (ae (pv 4) ap)) (ae (pv 2) ap)))) rfl))
      (zg (zN (eY AN PySem.F.slot_list_append PySem.F.type_list_append kd (pv 6) (ae (pv 4) ap)))))))
    (zg (zk (i:=5) jD.nd rfl (Or.inl rfl) (pv 6))))))
   (zg (zm (pv 2))))))),?_⟩
  generalize hLf:(kn.filter fun p=>!decide (p∈stds ps))=left at ha k;have nI:∀p,p∈left↔p∈kn/\p∉stds ps:=fun p=>by rw[<-hLf,List.mem_filter];simp
  have hln:left.Nodup:=by rw[<-hLf];exact ng.sublist List.filter_sublist
  have hlz:left.length<=200:=by rw[<-hLf];exact AB (List.length_filter_le _ _) hz
  have hnd:=(Iw ps).nodup_iff.mp pg.nd;rw[AM] at hnd;obtain⟨xo,nd2,CF⟩:=hnd;have aJ:=ha.length;have fu:=ht.length;intro T hT;have sT:=Same.new (o:=.dT []) hT;refine⟨_,rfl,l,rfl,⟨_,sT.seq hl⟩,zK (K:=K) (a:=l) (xs:=as.map V.ref) (fun i σ J=>∃(N:Option V)(es:List En),σ=[some (.ref l),some (.ref m),some (.ref T),N,none,none,none]/\Same H J/\Ends J T es/\es.map (·.1)=left.take i/\Ok left es)
   ⟨none,[],rfl,sT,⟨[],al,.nil⟩,rfl,fun x hx=>(by cases hx)⟩ (fun i σ J _ ⟨_,_,_,u,_⟩=>u.seq hl) ?_ ?_⟩
  ·rintro i v σ J hv ⟨N,es,rfl,u,Y,hk,I⟩
   obtain⟨b,eb,rfl⟩:=zQ hv;obtain⟨p,ep,hp⟩:=ha.get eb;have hi:i<left.length:=(List.getElem?_eq_some_iff.mp ep).1;have gK:p∈left:=An ep;have g:p∉es.map (·.1):=by
    rw[hk];intro z;have:=hln;rw[<-List.take_append_drop i left,AM] at this;exact this.2.2 p z p (by rw[List.drop_eq_getElem_cons hi];rw[(List.getElem?_eq_some_iff.mp ep).2];exact Ar) rfl
   have S:es.length=i:=by have:=congrArg List.length hk;rw[Ab,Av] at this;(first|lia|omega)
   intro q hq;have sq:=Same.new (o:=.dT []) hq;refine⟨_,rfl,b,p.map Sum.inl,.int 1,rfl,al,iO (sq.tp (u.tp hp)),q,_,rfl,al,fun o=>?_⟩;have X:Same J (upd (upd (upd J q (.dT [])) q (.dT [(p.map Sum.inl,.int 1)])) q (.frz o (.dT [(p.map Sum.inl,.int 1)]))):=(sq.then hq).then hq;obtain⟨ay,d,lJ⟩:=(Y.same X).put (x:=(p,[(p,1)])) g al (X.tp (u.tp hp)) ω;refine⟨_,rfl,_,rfl,T,_,rfl,d,⟨_,_,rfl,(u.trans X).then hT,lJ,?_,fun x hx=>?_⟩⟩
   ·rw[Ah,hk,AI ep];rfl
   ·rcases List.mem_append.mp hx with hx|hx
    ·exact I x hx
    ·rw[List.mem_singleton.mp hx]
     refine⟨by show 1<=200;decide,fun kk iZ=>?_⟩;have:kk=p:=by simpa[ksC] using iZ
     rw[this];exact gK
  ·rintro σ J ⟨N,es,rfl,u,Y,hk,I⟩
   rw[Ab,aJ,take_all] at hk;have S:es.length=left.length:=by have:=congrArg List.length hk;rw[Ab] at this;exact this
   refine⟨_,rfl,m,rfl,⟨_,u.seq hm⟩,zK (K:=K) (a:=m) (xs:=ts.map V.ref) (fun i σ J=>∃(G:Option V)(es:List En),σ=[some (.ref l),some (.ref m),some (.ref T),N,G,none,none]/\Same H J/\Ends J T es/\es.map (·.1)=left++(ps.map (·.2)).take i/\Ok left es)
    ⟨none,es,rfl,u,Y,by rw[List.take_zero,AT];exact hk,I⟩ (fun i σ J _ ⟨_,_,_,u,_⟩=>u.seq hm) ?_ ?_⟩
   ·rintro i v σ H4 hv ⟨G,es,rfl,u,Y,hk,I⟩
    obtain⟨t,et,rfl⟩:=zQ hv;obtain⟨x,ex,hx⟩:=ht.get et;have hi:i<ps.length:=(List.getElem?_eq_some_iff.mp ex).1;have lW:x∈ps:=An ex;have tR:(ps.map (·.2))[i]?=some x.2:=by rw[Ao,ex];rfl
    have hi2:i<(ps.map (·.2)).length:=by rw[Ab];exact hi
    have g:x.2∉es.map (·.1):=by
     rw[hk,List.mem_append];rintro(z|z)
     ·exact((nI _).mp z).2 (Iq lW).2
     ·have:=nd2
      rw[<-List.take_append_drop i (ps.map (·.2)),AM] at this;exact this.2.2 x.2 z x.2 (by rw[List.drop_eq_getElem_cons hi2];rw[(List.getElem?_eq_some_iff.mp tR).2];exact Ar) rfl
    have S:es.length<=300:=by
     have:=congrArg List.length hk;rw[Ab,Af,Av,Ab] at this;(first|lia|omega)
    obtain⟨a4,b4,gW,nG,bZ⟩:=hx.same u;intro q hq;have sq:=Same.new (o:=.dT []) hq;refine⟨q,_,rfl,al,fun o=>?_⟩;have X:Same H4 (upd (upd H4 q (.dT [])) q (.frz o (.dT []))):=sq.then hq;obtain⟨ay,d,lJ⟩:=(Y.same X).put (x:=(x.2,[])) g al (X.tp bZ) ω;refine⟨_,rfl,_,rfl,t,_,_,_,rfl,rfl,SqT.of (X _ _ gW),zD (j:=1) rfl,T,_,rfl,d,⟨_,_,rfl,(u.trans X).then hT,lJ,?_,fun y hy=>?_⟩⟩
    ·rw[Ah,hk,AI tR,AG];rfl
    ·rcases List.mem_append.mp hy with hy|hy
     ·exact I y hy
     ·rw[List.mem_singleton.mp hy]
      exact⟨AY _,fun kk iZ=>(by cases iZ)⟩
   ·rintro σ H4 ⟨G,es,rfl,u,Y,hk,I⟩
    rw[Ab,fu,<-Ab (f:=(·.2)),take_all] at hk;refine⟨_,rfl,m,_,rfl,.inl (u.seq hm),fun L wn=>?_⟩;have sW:=Same.new (o:=.lst (ts.map V.ref)) wn;have S:es.length+ps.length=left.length+2*ps.length:=by
     have:=congrArg List.length hk;rw[Ab,Af,Ab] at this;(first|lia|omega)
    have U:EI left ps (left.length+2*ps.length) es ps:=by
     refine⟨List.Sublist.refl _,S,fun x hx=>.inl hx,fun x hx h=>?_,fun p hp=>by rw[hk];exact Aw _ hp,fun x hx=>by rw[hk];exact Az _ (List.mem_map.mpr ⟨x,hx,rfl⟩),I⟩;rw[hk,List.mem_append] at h;rcases h with z|z
     ·exact((nI _).mp z).2 (Iq hx).1
     ·exact CF x.1 (List.mem_map.mpr ⟨x,hx,rfl⟩) _ z rfl
    refine⟨fun n σ J=>∃(L:Addr)(us:List Addr)(W:List Pq)(es:List En)(N G v6:Option V),n=W.length/\σ=[some (.ref l),some (.ref m),some (.ref T),N,G,some (.ref L),v6]/\Same H J/\J L=some (.lst (us.map V.ref))/\Prs2 H us W/\Ends J T es/\EI left ps (left.length+2*ps.length) es W,
     ⟨_,L,ts,ps,es,N,G,none,rfl,rfl,u.trans sW,al,ht,Y.same sW,U⟩,?_⟩
    rintro n σ H5 ⟨L,us,W,es,N,G,v6,rfl,rfl,gO,jE,tM,nR,U⟩;have g_:=tM.length;refine⟨_,rfl,L,_,rfl,.inl (SqL.of jE),_,_,rfl,rfl,_,rfl,?_⟩;rw[Ab,g_]
    by_cases Z:W=[]
    ·subst Z
     refine a9 ⟨_,rfl,k T H5 es gO hT nR (fun p hp=>?_) U.ok⟩
     by_cases hs:p∈stds ps
     ·obtain⟨y,hy,ug⟩:=List.mem_flatMap.mp hs
      simp only[List.mem_cons,List.not_mem_nil,or_false] at ug;rcases ug with rfl|rfl
      ·exact(U.fst y hy).elim (fun z=>by cases z) id
      ·exact U.snd y hy
     ·exact U.lft p ((nI p).mpr ⟨hp,hs⟩)
    have hWp:0<W.length:=List.length_pos_iff.mpr Z;rw[decide_eq_true (show(0:Int)<((W.length:Nat):Int) from ω)];refine bu ⟨fun ak H'=>∃n',n'<W.length/\∃(L:Addr)(us:List Addr)(W:List Pq)(es:List En)(N G v6:Option V),n'=W.length/\ak=[some (.ref l),some (.ref m),some (.ref T),N,G,some (.ref L),v6]/\Same H H'/\H' L=some (.lst (us.map V.ref))/\Prs2 H us W/\Ends H' T es/\EI left ps (left.length+2*ps.length) es W,fun ak H' h=>h,?_⟩;refine⟨aq (by simp),fun LL nU=>?_⟩;have sL:=Same.new (o:=.lst []) nU;have qr:H LL=none:=gO.free nU;have BE:L≠LL:=zh jE nU;have mD:T≠LL:=by obtain⟨kv,e,_⟩:=nR;exact zh e nU
    have hTW:L≠T:=by obtain⟨kv,e,_⟩:=nR;intro z;rw[z,e] at jE;cases jE
    refine⟨_,rfl,L,rfl,⟨_,SqL.of (sL _ _ jE)⟩,zK (K:=K) (a:=L) (xs:=us.map V.ref) (fun i σ H6=>∃(vs:List Addr)(LP:List Pq)(M:List En)(G:Option V),σ=[some (.ref l),some (.ref m),some (.ref T),N,G,some (.ref L),some (.ref LL)]/\Same H H6/\H6 L=some (.lst (us.map V.ref))/\H6 LL=some (.lst (vs.map V.ref))/\Prs2 H vs LP/\Ends H6 T M/\EI left ps (left.length+2*ps.length) M (LP++W.drop i)/\LP.length<=i/\
      (LP.length<i\/(LP=W.take i/\M=es/\∀x∈LP,∃r∈oth x,r∉es.map (·.1))))
     ⟨[],[],es,G,rfl,gO.trans sL,sL _ _ jE,al,.nil,nR.same sL,U,Ag _,.inr ⟨rfl,rfl,fun x hx=>(by cases hx)⟩⟩ (fun i σ H6 _ ⟨_,_,_,_,_,_,h,_⟩=>SqL.of h) ?_ ?_⟩
    ·rintro i v σ H6 hv ⟨vs,LP,M,G,rfl,cT,ow,nC,jY,kJ,O,hG,jF⟩
     obtain⟨t,et,rfl⟩:=zQ hv;obtain⟨x,ex,hx⟩:=tM.get et;have hi:i<W.length:=(List.getElem?_eq_some_iff.mp ex).1;have w5:W.drop i=x::W.drop (i+1):=by rw[List.drop_eq_getElem_cons hi,(List.getElem?_eq_some_iff.mp ex).2]
     rw[w5] at O;have BK:x∈ps:=O.sub.subset (Az _ Ar);obtain⟨jr,jM⟩:=pg.has x BK;have lY:=h5 _ jr;have o6:=O.cnt;refine⟨_,rfl,t,x,rfl,hx.same cT,lY,fun RL H7 rs s7 _ pV hr7=>⟨RL,rfl,⟨_,SqL.of pV⟩,fun D hD=>?_⟩⟩;have nN:=gd x.2;have hol:(oth x).length<=(rims x.2).length:=List.length_filter_le _ _;refine zB (Oy pV hr7 ω (kJ.same s7) hD fun H8 s8 mn=>⟨D,_,rfl,SqL.of mn,_,rfl,?_⟩);have nV:=s7.trans s8;have mF:=cT.trans nV;have qe:=kJ.same nV;have tP:=nV _ _ ow;have ny:=nV _ _ nC;clear mn pV hr7 hD kJ ow nC;cases hal:((oth x).map fun r=>decide (r∈M.map (·.1))).all id with
     |true=>
      have hin:∀r∈oth x,r∈M.map (·.1):=fun r hr=>by
       have:=List.all_eq_true.mp hal _ (List.mem_map.mpr ⟨r,hr,rfl⟩);exact of_decide_eq_true this
      obtain⟨a8,b8,wI,xR,C9⟩:=hx.same mF;refine bu ⟨_,rfl,t,x,rfl,hx.same mF,lY,jM,fun D9 H9 wv wx s9 _ wm CO tN yk=>⟨_,rfl,D9,T,wv,wx,M,left,rfl,SqL.of wm,CO,qe.same s9,fun c hc=>⟨hin c.1 (by rw[<-tN];exact List.mem_map.mpr ⟨c,hc,rfl⟩),yk c hc⟩,?_,O.ok,fun D0 H0 c0 s0 qg bU Cv hk0=>⟨D0,_,rfl,bU,fun o=>?_⟩⟩⟩
      ·have:=congrArg List.length tN
       rw[ET] at this;(first|lia|omega)
      ·have jC:Same H8 (upd H0 D0 (.frz o (.dT (b' c0)))):=(s9.trans s0).then (s9.free qg)
       have g:x.1∉M.map (·.1):=O.new x (Az _ Ar);have rn:M.length<=1000:=by rw[Af] at o6;(first|lia|omega)
       obtain⟨ay,d,lJ⟩:=(qe.same jC).put (x:=(x.1,c0)) g al (jC.tp xR) rn;refine⟨_,rfl,_,rfl,t,_,_,_,rfl,rfl,SqT.of (jC _ _ wI),zD (j:=0) rfl,T,_,rfl,d,⟨vs,LP,_,_,rfl,(mF.trans jC).then hT,?_,?_,jY,lJ,O.put xo ⟨AB (Oz Cv hk0) hlz,hk0⟩,ω,.inl ω⟩⟩
       ·rw[au hTW];exact jC _ _ tP
       ·rw[au (Ne.symm mD)];exact jC _ _ ny
     |false=>
      have hno:∃r∈oth x,r∉M.map (·.1):=by
       obtain⟨b,hb,hf⟩:=List.all_eq_false.mp hal;obtain⟨r,hr,rfl⟩:=List.mem_map.mp hb;exact⟨r,hr,fun z=>hf (decide_eq_true z)⟩
      have qU:=jY.length;refine a9 ⟨_,rfl,.inl ⟨rfl,_,SqL.of ny⟩,_,rfl,LL,_,_,rfl,rfl,ny,by rw[Ab];exact zH (by have:=O.sub.length_le;rw[Af] at this;(first|lia|omega)),⟨vs++[t],LP++[x],M,_,rfl,mF.then qr,by rw[au BE];exact tP,by rw[al,Ah];rfl,Prs2.add jY hx,qe.upd ny (by intro p q z;cases z) mD,?_,by rw[Af,AK];(first|lia|omega),?_⟩⟩
      ·rw[AG];exact O
      ·rcases jF with h|⟨h1,h2,h3⟩
       ·exact .inl (by rw[Af,AK];(first|lia|omega))
       ·refine .inr ⟨by rw[h1,AI ex],h2,fun y hy=>?_⟩
        rcases List.mem_append.mp hy with hy|hy
        ·exact h3 y hy
        ·rw[List.mem_singleton.mp hy,<-h2];exact hno
    ·rintro σ H6 ⟨vs,LP,M,G,rfl,cT,ow,nC,jY,kJ,O,hG,jF⟩
     rw[Ab,g_] at O hG jF;rw[List.drop_length,AT] at O;refine⟨_,rfl,LP.length,?_,LL,vs,LP,M,N,G,_,rfl,rfl,cT,nC,jY,kJ,O⟩;rcases jF with h|⟨h1,h2,h3⟩
     ·exact h
     ·rw[take_all] at h1
      subst h2 h1;exact absurd (U.stuck pg (fun p hp hs=>(nI p).mpr ⟨hp,hs⟩) hcl h3) Z
end
end K51
end
section
namespace K1
def sg(q:List Int):Int:=1-2*(1-(q.length:Int)%2)
def q3{pss:Ξ}{q:List Int}:q∈canon pss↔q≠[]/\∃t∈pss,q.Sublist t:=by
 rw[HI,List.mem_flatMap];constructor
 ·rintro⟨t,ht,hq⟩
  exact⟨(vf.mp hq).1,t,ht,(vf.mp hq).2⟩
 ·rintro⟨h,t,ht,hq⟩
  exact⟨t,ht,vf.mpr ⟨h,hq⟩⟩
abbrev hol(t p:List Int):Bool:=(p.map fun x=>decide (x∈t)).all id
section
variable{pss:Ξ}{p:List Int}
def li(hw:a' pss=true){q:List Int}(h:q∈canon pss):ff q=true:=by
 obtain⟨t,ht,hx⟩:=List.mem_flatMap.mp (HI.mp h);exact M7 ((nZ hw).2.1 t ht) hx
end
end K1
end
section
namespace K51
open K1
open PySem L2 STb
def dJ(kn met:Ξ)(x:Pq):Bool:=!(decide (x.2∈kn)&&decide (x.1∈rims x.2))|| (decide (x.1∈met)|| decide (x.2∈met))
def oq(kn:Ξ)(ps:List Pq)(i:Nat):Prop:=∀j y,j<i->ps[j]?=some y->dJ kn (stds (ps.take j)) y=false
def Iz{kn met:Ξ}{x:Pq}:dJ kn met x=false↔(x.2∈kn/\x.1∈rims x.2)/\x.1∉met/\x.2∉met:=by
 unfold dJ;rw[Bool.or_eq_false_iff,Bool.or_eq_false_iff,Bool.not_eq_false',AL,decide_eq_true_eq,decide_eq_true_eq,decide_eq_false_iff_not,decide_eq_false_iff_not]
def OB{r p:List Int}(h:r∈rims p):r≠p:=fun e=>by
 obtain⟨_,k,hk,a⟩:=vk.mp h;have:=(vl hk a).2;rw[e] at this;(first|lia|omega)
def IA{kn:Ξ}{ps:List Pq}:∀i,i<=ps.length->oq kn ps i->(∀x∈ps.take i,x.2∈kn/\x.1∈rims x.2)/\(stds (ps.take i)).Nodup
 |0,_,_=>by simp[stds]
 |i+1,hi,g=>by
  obtain⟨h1,h2⟩:=IA i ω fun j y f e=>g j y ω e;have e:ps[i]?=some ps[i]:=Aj ω;obtain⟨a,c,d⟩:=Iz.mp (g i _ ω e);rw[AI e,lh,oo,AM];refine⟨fun x hx=>?_,h2,by simpa using OB a.2,fun y hy z hz e'=>?_⟩
  ·rcases List.mem_append.mp hx with h|h
   ·exact h1 x h
   ·rw[List.mem_singleton.mp h];exact a
  ·subst e'
   have:y=ps[i].1\/y=ps[i].2:=by simpa using hz
   rcases this with rfl|rfl
   ·exact c hy
   ·exact d hy
section
variable{P:Program}{w:World}{K:Ac}{mg:Str->Option Value}{base:Heap}
def IB(K:Ac):Sp:=fun vs H Q _=>∃l t as kn x,vs=[.ref l,.ref t]/\SqL K H l (as.map V.ref)/\Tps H as kn/\Pr2 H t x/\(x.2∈kn->x.2.length<=5)/\∀H',Same H H'->Q (.bl (decide (x.2∈kn)&&decide (x.1∈rims x.2))) H'
def OC{f fr:Addr}{fd d:FuncData}(F:Fun K "is_pair" "is_pair" wl f fd)(B:Bt mg)(Fr:Fun K "rims_of" "rims_of" hU fr d)(q:Binds K d ["piece"] [])(u:mg "rims_of"=some (.ref fr)):FnOk P w K mg base aR 2 f fd ["every","pair"] (IB K):=by
 have y:FnOk P w K mg base aR 1 fr d ["piece"] k8:=n3 Fr B;refine F.ok Ot (fun vs H Q E h=>?_) (fun cdv A outer s H vs Q E hr h=>?_)
 ·obtain⟨l,t,as,kn,x,rfl,_⟩:=h;rfl
 ·obtain⟨l,t,as,kn,x,rfl,o,hk,⟨a,b,ht,ha,hb⟩,p,k⟩:=h
  have g:=hr.units;refine⟨_,zg (zm (JC (mS (r:=ix false K) (G2 (in1_units g)) (cK eK (pv 1) zf (fun _ _=>rfl)) (pv 0) (by with_unfolding_all rfl))
   (JB (mS (r:=ix false K) (G2 (in1_units g)) (cK eK (pv 1) zf (fun _ _=>rfl)) (zo y hr rfl u Fr.kp q .nil aF (ae (cK eK (pv 1) zf (fun _ _=>rfl)) ap)) (by with_unfolding_all rfl))))),?_⟩
  refine⟨_,rfl,t,_,_,_,rfl,rfl,SqT.of ht,zD (j:=1) rfl,_,rfl,b,l,x.2,as,kn,rfl,rfl,hb,o,hk,?_⟩;rw[if_neg ξ]
  by_cases h1:x.2∈kn
  ·rw[decide_eq_true h1] at k ⊢
   refine⟨_,rfl,bu ⟨_,rfl,t,_,_,_,rfl,rfl,SqT.of ht,zD (j:=0) rfl,_,rfl,t,_,_,_,rfl,rfl,SqT.of ht,zD (j:=1) rfl,b,x.2,rfl,hb,p h1,fun v H1 i e _ hR c=>⟨a,v,x.1,i,rims x.2,rfl,rfl,e.tp ha,SqL.of hR,c,?_⟩⟩⟩;rw[if_neg ξ];exact k H1 e
  ·rw[decide_eq_false h1] at k ⊢
   exact⟨_,rfl,a9 (k H (Same.refl _))⟩
def E2(K:Ac):Sp:=fun vs H Q _=>∃l m as kn ts ps,vs=[.ref l,.ref m]/\SqL K H l (as.map V.ref)/\Tps H as kn/\SqL K H m (ts.map V.ref)/\Prs2 H ts ps/\(∀p∈kn,p.length<=5)/\ps.length<=1000/\
 (∀i x H',ps[i]?=some x->dJ kn (stds (ps.take i)) x=true->oq kn ps i->Same H H'->Q (.int i) H')/\∀H',oq kn ps ps.length->Same H H'->Q .non H'
def OD{f fp:Addr}{fd bT:FuncData}(F:Fun K "first_bad" "first_bad" qP f fd)(B:Bt mg)(i3:mg "any"=none)(iB:AV "any"=some (.builtin "any"))(Fp:Fun K "is_pair" "is_pair" wl fp bT)(bp:Binds K bT ["every","pair"] [])(mp:mg "is_pair"=some (.ref fp))(Gp:FnOk P w K mg base aR 2 fp bT ["every","pair"] (IB K)):FnOk P w K mg base aR 3 f fd ["every","pairs"] (E2 K):=by
 refine F.ok qR (fun vs H Q E h=>?_) (fun cdv A outer s H vs Q E hr h=>?_)
 ·obtain⟨l,m,as,kn,ts,ps,rfl,_⟩:=h;rfl
 ·obtain⟨l,m,as,kn,ts,ps,rfl,hl,hk,hm,ht,h5,hz,kb,k⟩:=h
  have hu:=fZ hr;refine⟨_,zd (zk (i:=2) qR.nd rfl (Or.inr rfl) zX)
   (zd (zV AE rfl (GT rfl B.enumerate Hv (ae (pv 1) ap)) (mI rfl (fV (zi (i:=3) qR.nd rfl (Or.inl rfl)) (fV (zi (i:=4) qR.nd rfl (Or.inl rfl)) mH)))
    (zd (zU (PW.pt (mE (mG (jh (zo Gp hr rfl mp Fp.kp bp .nil aF (ae (pv 0) (ae (pv 4) ap))))) (mx (jh (zw (GU rfl) rfl i3 iB (ae (zt Is ["piece","stands"] [none,some 2] (jW (pv 4)) (fun cl C s₀ H₀ ex=>zi (i:=0) (cO ["piece","stands"]) rfl (Or.inl rfl)) (fun cl C s₀ H₀ ex=>zM)
     (fun cl C s₀ H₀ ex=>xV (sH hu (pv 0) (pv 1)) (by with_unfolding_all rfl)) (hfr:=cw (ze qP) δ) (te:=fy (aM 0) (aM 1))) ap)))))) (zg (zm (pv 3))) zq)
    (zg (zV AE rfl (jW (pv 4)) (zi (i:=5) qR.nd rfl (Or.inl rfl)) (zg (fA hu (pv 2) (pv 5) ej rfl))))))
   (zg (zm FG))),?_⟩
  intro d hd;have fu:=ht.length;have s1:=Same.new (o:=.dT []) hd;refine⟨_,rfl,m,rfl,⟨_,s1.seq hm⟩,Lp (K:=K) (a:=m) (xs:=ts.map V.ref) (fun i σ H2=>∃(Y Z I:Option V),σ=[some (.ref l),some (.ref m),some (.ref d),Y,Z,I]/\Same H H2/\H2 d=some (.dT (cg (stds (ps.take i))))/\oq kn ps i)
   ⟨none,none,none,rfl,s1,al,fun j y hj _=>absurd hj ω⟩ (fun i σ H2 _ ⟨_,_,_,_,G,_⟩=>G.seq hm) ?_ ?_⟩
  ·rintro i x p σ H2 hx ⟨Y,Z,I,rfl,G,aO,u⟩ hp
   obtain⟨t,et,rfl⟩:=zQ hx;obtain⟨y,J,hy⟩:=ht.get et;have sp:=Same.new (o:=.tup [.int i,.ref t]) hp;have U:=G.trans sp;have hi:i<ps.length:=(List.getElem?_eq_some_iff.mp J).1;refine⟨p,_,rfl,SqT.of al,rfl,_,_,rfl,_,_,rfl,rfl,?_⟩;refine⟨_,rfl,_,rfl,l,t,as,kn,y,rfl,U.seq hl,U.tps hk,hy.same U,fun h=>h5 _ h,fun H4 s4=>⟨_,rfl,?_⟩⟩;have iT:=U.trans s4;cases hpb:(decide (y.2∈kn)&&decide (y.1∈rims y.2)) with
   |false=>exact bu ⟨_,rfl,kb i y H4 J (by unfold dJ;rw[hpb];rfl) u iT⟩
   |true=>
   have bG:=(sp.trans s4) _ _ aO;have uR:=hy.same iT;obtain⟨M,N,gW,nG,bZ⟩:=id uR;refine a9 ⟨_,rfl,t,rfl,⟨_,SqT.of gW⟩,fun D hD=>zB (Ir uR bG hD fun H5 q W=>⟨D,_,rfl,SqL.of W,_,rfl,?_⟩)⟩;have sv:=iT.trans q;cases hst:([decide (y.1∈stds (ps.take i)),decide (y.2∈stds (ps.take i))].any id) with
   |true=>
    refine bu ⟨_,rfl,kb i y H5 J ?_ u sv⟩;have:(decide (y.1∈stds (ps.take i))|| decide (y.2∈stds (ps.take i)))=true:=by simpa using hst
    unfold dJ;rw[this,Bool.or_true]
   |false=>
   have hno:(decide (y.1∈stds (ps.take i))|| decide (y.2∈stds (ps.take i)))=false:=by simpa using hst
   have hsl:(stds (ps.take i)).length<=2*i:=by
    have:∀l:List Pq,(stds l).length=2*l.length:=fun l=>by
     induction l with
     |nil=>rfl
     |cons a r ih=>rw[show stds (a::r)=[a.1,a.2]++stds r from rfl,Af,ih];simp;(first|lia|omega)
    rw[this,Av];(first|lia|omega)
   refine a9 ⟨_,rfl,t,rfl,⟨_,SqT.of (q _ _ gW)⟩,rT (K:=K) (a:=t) (xs:=[.ref M,.ref N]) (fun j σ g=>∃(I:Option V),σ=[some (.ref l),some (.ref m),some (.ref d),some (.int i),some (.ref t),I]/\Same H g/\g t=some (.tup [.ref M,.ref N])/\Tp g M y.1/\Tp g N y.2/\g d=some (.dT (cg (stds (ps.take i)++[y.1,y.2].take j))))
    ⟨_,rfl,sv,q _ _ gW,q.tp nG,q.tp bZ,by rw[List.take_zero,AT];exact q _ _ bG⟩ (fun j σ g _ ⟨_,_,_,h,_⟩=>SqT.of h) ?_ ?_⟩
   ·rintro j v σ g hv ⟨jR,rfl,O,h_,S,T,L⟩
    have hj2:j=0\/j=1:=by have:=(List.getElem?_eq_some_iff.mp hv).1;simp at this;(first|lia|omega)
    have tk:∀{c:Addr}{xs:List V}{o:HO},g c=some (.tup xs)->upd g d o c=some (.tup xs):=fun{c xs o} e=>by
     rw[au (fun z=>by subst z;rw[L] at e;cases e)];exact e
    rcases hj2 with rfl|rfl
    ·have e:V.ref M=v:=by simpa using hv
     subst e;refine⟨_,rfl,_,rfl,d,_,rfl,DPut.t (k:=y.1.map Sum.inl) L (by rw[AC];exact S) (zH (AB (iE _) (by simp;(first|lia|omega)))),⟨_,rfl,O.then hd,tk h_,tk S,tk T,?_⟩⟩;rw[al,iF,AG];rfl
    ·have e:V.ref N=v:=by simpa using hv
     subst e;refine⟨_,rfl,_,rfl,d,_,rfl,DPut.t (k:=y.2.map Sum.inl) L (by rw[AC];exact T) (zH (AB (iE _) (by simp;(first|lia|omega)))),⟨_,rfl,O.then hd,tk h_,tk S,tk T,?_⟩⟩;rw[al,iF,AG];rfl
   ·rintro σ g ⟨jR,rfl,O,h_,S,T,L⟩
    refine⟨_,_,_,rfl,O,?_,fun j z hj X=>?_⟩
    ·rw[AI J,lh,oo]
     exact L
    ·by_cases hji:j=i
     ·subst hji
      rw[J] at X;cases X;unfold dJ;rw[hpb,hno];rfl
     ·exact u j z ω X
  ·rintro σ H2 ⟨Y,Z,I,rfl,G,aO,u⟩
   rw[Ab,fu] at u;exact k H2 u G
def IC(K:Ac):Sp:=fun vs H Q _=>∃m ts ps,vs=[.ref m]/\SqL K H m (ts.map V.ref)/\Prs2 H ts ps/\(∀x∈ps,x.2.length<=5)/\(ps.map (·.1)).Nodup/\ps.length<=1000/\
 (∀D H',eF ps->Same H H'->H' D=some (.lst [])->Q (.ref D) H')/\∀D H' us a,Same H H'->H D=none->H' D=some (.lst (List.map V.ref us))->Prs2 H' us a->n4 a->a.Nodup->(∀x∈a,x∈ps)->Q (.ref D) H'
def wq:zl ["pairs","seconds","pair","found"] ["pairs"] (ze wo):=⟨rfl,rfl,rfl,δ,rfl,δ,δ⟩
def OE{f fr:Addr}{fd L:FuncData}(F:Fun K "first_round" "first_round" wo f fd)(B:Bt mg)(Fr:Fun K "round_with" "round_with" qH fr L)(br:Binds K L ["seconds","new"] [])(mr:mg "round_with"=some (.ref fr))(Gr:FnOk P w K mg base aR 3 fr L ["seconds","new"] lg):FnOk P w K mg base aR 4 f fd ["pairs"] (IC K):=by
 refine F.ok wq (fun vs H Q E h=>?_) (fun cdv A outer s H vs Q E hr h=>?_)
 ·obtain⟨m,ts,ps,rfl,_⟩:=h;rfl
 ·obtain⟨m,ts,ps,rfl,hm,ht,T,G,hz,k,kr⟩:=h
  have hu:=fZ hr;refine⟨_,zd (zk (i:=1) wq.nd rfl (Or.inl rfl) zX)
   (zd (zV AE rfl (zv (pv 0)) (zi (i:=2) wq.nd rfl (Or.inl rfl))
    (zd (zk (i:=3) wq.nd rfl (Or.inl rfl) (zo Gr hr rfl mr Fr.kp br .nil aF (ae (pv 1) (ae (pv 2) ap))))
    (zd (zU (zn jn (zw zp rfl B.len ei (ae (pv 3) ap)) zf (aK _)) (zg (zm (pv 3))) zq)
    (zg (fA hu (pv 1) (cK eK (pv 2) zf (fun _ _=>rfl)) (cK eK (pv 2) zf (fun _ _=>rfl)) rfl)))))
   (zg (zm (zr ap)))),?_⟩
  intro d hd;have W:=Same.new (o:=.dT []) hd;have fu:=ht.length;refine⟨_,rfl,m,rfl,⟨_,W.seq hm⟩,zK (K:=K) (a:=m) (xs:=ts.map V.ref) (fun i σ H2=>∃(v C:Option V),σ=[some (.ref m),some (.ref d),v,C]/\Same H H2/\Sec H2 d (ps.take i)/\eF (ps.take i))
   ⟨none,none,rfl,W,⟨[],al,.nil⟩,dB⟩ (fun i σ H2 _ ⟨_,_,_,c,_⟩=>c.seq hm) ?_ ?_⟩
  ·rintro i x σ H2 hx ⟨v,C,rfl,c,I,q⟩
   obtain⟨t,et,rfl⟩:=zQ hx;obtain⟨y,p,hy⟩:=ht.get et;have vU:y∈ps:=An p;have J:((ps.take (i+1)).map (·.1)).Nodup:=G.sublist ((List.take_sublist _ _).map _);rw[AI p,Ah,AM] at J;have X:y.1∉(ps.take i).map (·.1):=fun h=>J.2.2 _ h y.1 (by simp) rfl;refine⟨_,rfl,_,rfl,d,t,ps.take i,y,rfl,I,hy.same c,J.1,X,fun x hx=>T x (List.mem_of_mem_take hx),T y vU,by rw[Av];(first|lia|omega),q,fun D r l M g Z=>?_,fun D r us N l M g hu O u bn=>?_⟩
   ·refine⟨_,rfl,D,[],rfl,.inl (SqL.of g),_,_,rfl,rfl,_,rfl,a9 ?_⟩
    obtain⟨a,b,e,ha,hb⟩:=hy.same (c.trans l);obtain⟨kvs,U,hk⟩:=I.same l;obtain⟨ay,e1,e2,e3⟩:=HY hk X hb;have qB:=A1 hk;refine⟨_,rfl,t,_,_,_,rfl,rfl,SqT.of e,zD (j:=1) rfl,_,rfl,_,rfl,t,_,_,_,rfl,rfl,SqT.of e,zD (j:=0) rfl,d,_,rfl,DPut.t (k:=y.1.map Sum.inl) U (by rw[AC];exact ha) (zH (by rw[qB,Av];(first|lia|omega))),⟨_,_,rfl,(c.trans l).then hd,?_,by rw[AI p];exact Z⟩⟩;rw[e1,AI p];exact⟨ay,al,Paired.mapP e2 fun kv x ⟨h1,b,h2,S⟩=>⟨h1,b,h2,by
     show upd r d _ b=_;rw[au (fun z=>by subst z;have Y:r b=some _:=S;rw[U] at Y;cases Y)];exact S⟩⟩
   ·have g_:=hu.length
    have uQ:=List.length_pos_iff.mpr O.1;refine⟨_,rfl,D,_,rfl,.inl (SqL.of g),_,_,rfl,rfl,_,rfl,?_⟩;rw[Ab,g_,decide_eq_true (show(0:Int)<((N.length:Nat):Int) from ω)];refine bu ⟨_,rfl,kr D r us N (c.trans l) (c.free M) g hu O u fun x hx=>?_⟩;have:=bn x hx;rw[<-AI p] at this;exact List.mem_of_mem_take this
  ·rintro σ H2 ⟨v,C,rfl,c,I,q⟩
   rw[Ab,fu,take_all] at q;exact⟨aq (by simp),fun D g=>k D _ q (c.then (c.free g)) al⟩
def E3(K:Ac):Sp:=fun vs H Q _=>∃l m as pss ts ps,vs=[.ref l,.ref m]/\SqL K H l (as.map V.ref)/\Tps H as pss/\eD pss/\SqL K H m (ts.map V.ref)/\Prs2 H ts ps/\ps.length<=1000/\
 (∀D H',PG (canon pss) ps->Same H H'->H' D=some (.tup [.str "pairing"])->Q (.ref D) H')/\
 (∀i x D H',ps[i]?=some x->dJ (canon pss) (stds (ps.take i)) x=true->oq (canon pss) ps i->Same H H'->H' D=some (.tup [.str "bad",.int i])->Q (.ref D) H')/\
 ∀D R H' us a,oq (canon pss) ps ps.length->Same H H'->H R=none->H' D=some (.tup [.str "round",.ref R])->H' R=some (.lst (List.map V.ref us))->Prs2 H' us a->n4 a->a.Nodup->(∀x∈a,x∈ps)->Q (.ref D) H'
def q4:zl ["web","pairs","bad","found"] ["web","pairs"] (ze qQ):=⟨rfl,rfl,rfl,δ,rfl,δ,δ⟩
def OF{f C fr fp:Addr}{fd G I J:FuncData}(F:Fun K "judged" "judged" qQ f fd)(B:Bt mg)(Fb:Fun K "first_bad" "first_bad" qP C G)(bb:Binds K G ["every","pairs"] [])(mb:mg "first_bad"=some (.ref C))(Gb:FnOk P w K mg base aR 3 C G ["every","pairs"] (E2 K))(Fr:Fun K "first_round" "first_round" wo fr I)(br:Binds K I ["pairs"] [])(mr:mg "first_round"=some (.ref fr))(Gr:FnOk P w K mg base aR 4 fr I ["pairs"] (IC K))(Fp:Fun K "pieces" "pieces" k7 fp J)(bp:Binds K J ["web"] [])(mp:mg "pieces"=some (.ref fp))(Gp:FnOk P w K mg base aR 8 fp J ["web"] (iK K)):FnOk P w K mg base aR 9 f fd ["web","pairs"] (E3 K):=by
 refine F.ok q4 (fun vs H Q E h=>?_) (fun cdv A outer s H vs Q E hr h=>?_)
 ·obtain⟨l,m,as,pss,ts,ps,rfl,_⟩:=h;rfl
 ·obtain⟨l,m,as,pss,ts,ps,rfl,Y,ha,hw,hm,ht,hz,k,Z,kr⟩:=h
  have y:Room 3 _:=hr.mono ξ;have jI:Room 4 _:=hr.mono ξ;refine⟨_,zd (zk (i:=2) q4.nd rfl (Or.inl rfl) (zo Gb y rfl mb Fb.kp bb .nil aF (ae (zo Gp hr rfl mp Fp.kp bp .nil aF (ae (pv 0) ap)) (ae (pv 1) ap))))
   (zd (zU (zn JW (pv 2) FG (aK _)) (zg (zm (zx (ae pe_str (ae (pv 2) ap))))) zq)
   (zd (zk (i:=3) q4.nd rfl (Or.inl rfl) (zo Gr jI rfl mr Fr.kp br .nil aF (ae (pv 1) ap)))
   (zd (zU (zn jn (zw zp rfl B.len ei (ae (pv 3) ap)) zf (aK _)) (zg (zm (zx (ae pe_str (ae (pv 3) ap))))) zq)
   (zg (zm (zx (ae pe_str ap))))))),?_⟩
  have N:∀p∈canon pss,p.length<=5:=fun p hp=>(iI.mp (li hw.1 hp)).2.1;refine⟨_,rfl,l,as,pss,rfl,Y,ha,hw,fun KN H1 ks e _ O S=>?_⟩;refine⟨_,rfl,KN,m,ks,canon pss,ts,ps,rfl,SqL.of O,S,e.seq hm,ht.same e,N,hz,fun i x H2 ex hb g r=>?_,fun H2 g r=>?_⟩
  ·have a:=e.trans r
   refine⟨_,rfl,rfl,_,rfl,bu ⟨_,rfl,aq (by simp),fun T d=>Z i x T _ ex hb g (a.then (a.free d)) al⟩⟩
  ·have a:=e.trans r
   obtain⟨v,c⟩:=IA ps.length (Ag _) g;rw[take_all] at v c;have h5:∀x∈ps,x.2.length<=5:=fun x hx=>N _ (v x hx).1;refine⟨_,rfl,rfl,_,rfl,a9 ⟨_,rfl,m,ts,ps,rfl,a.seq hm,ht.same a,h5,E1 c,hz,fun D H3 U j q=>?_,fun D H3 us L j W q hu M u X=>?_⟩⟩
   ·refine⟨_,rfl,D,[],rfl,.inl (SqL.of q),_,_,rfl,rfl,_,rfl,a9 ⟨aq (by simp),fun T d=>k T _ ⟨v,c,U⟩ ((a.trans j).then ((a.trans j).free d)) al⟩⟩
   ·have g_:=hu.length
    have uQ:=List.length_pos_iff.mpr M.1;refine⟨_,rfl,D,_,rfl,.inl (SqL.of q),_,_,rfl,rfl,_,rfl,?_⟩;rw[Ab,g_,decide_eq_true (show(0:Int)<((L.length:Nat):Int) from ω)];refine bu ⟨_,rfl,aq (by simp),fun T d=>?_⟩;have z:=Same.new (o:=.tup [.str "round",.ref D]) d;exact kr T D _ us L g ((a.trans j).trans z) (a.free W) al (z _ _ q) (hu.same z) M u X
end
end K51
end
section
namespace L2
open PySem PySem.Spec PyProof.Rows
section
variable{X:Cx}
def q5:R2:=fun x y H Q=>∃a b z c,x=.ref a/\y=.ref b/\H a=some (.tup [.str z])/\H b=some (.tup [.str c])/\PyData.strOk z=true/\PyData.strOk c=true/\Q (.bl (!decide (z=c))) H
def ID{aa:Ψ}{σ:St}{H:Hp}{s:Shared}{a:Addr}{z:Str}(I:Inv X aa σ H s)(ha:H a=some (.tup [.str z])):∃c,Reads s.heap (.ref a) (.tuple [.str z]) c:=by
 obtain⟨e,r,p,_⟩:=I.tuple (SqT.of ha);obtain⟨o,d,hc,n,hd⟩:=id p;obtain⟨u,rfl,t,rfl⟩:=vals1 r;exact⟨_,.tuple d hc hd (by simpa using ReadsAll.cons (.str z t) .nil)⟩
def OG(hu:X.A.units+64<cLine):cG X (A6 .NotEq) q5:=by
 intro aa s σ H x y v u Q I f g h;obtain⟨a,b,z,c,rfl,rfl,ha,hb,i,j,q⟩:=h;cases f;cases g;obtain⟨_,l⟩:=ID I ha;obtain⟨_,o⟩:=ID I hb;have d:∀z:Str,PyData.strOk z=true->SeqAt.shaped (.tuple [.str z])=true:=fun z h=>by simp[SeqAt.shaped,PyData.canLay0,PyData.canLayAll0,PyData.depth,PyData.depthAll,h]
 refine ne_dataH_same l o (d z i) (d c j) hu (SeqAt.noMix_of_shape (.tuples .str) rfl _ _ (by simp[Shape.has]) (by simp[Shape.has])) ?_;have e:same (.tuple [.str z]) (.tuple [.str c])=decide (z=c):=by
  simp only[same,sameAll];rw[Bool.eq_iff_iff];simp
 rw[e];exact⟨.bl _,H,I,rfl,q⟩
end
def E4:R2:=fun x y H Q=>q5 x y H Q\/∃a b z v c,x=.ref a/\y=.ref b/\H a=some (.tup [.str z,v])/\H b=some (.tup [.str c])/\Q (.bl true) H
section
variable{X:Cx}
def OH(hu:X.A.units+64<cLine):cG X (A6 .NotEq) E4:=by
 intro aa s σ H x y v u Q I g i h;rcases h with h|⟨a,b,z,D,c,rfl,rfl,ha,hb,q⟩
 ·exact OG hu aa s σ H x y v u Q I g i h
 ·cases g
  cases i;obtain⟨E,r,p,_⟩:=I.tuple (SqT.of ha);obtain⟨F,C,p2,_⟩:=I.tuple (SqT.of hb);obtain⟨G,l,rfl,⟨d,rfl⟩,_⟩:=vals2 r;obtain⟨J,rfl,⟨f,rfl⟩⟩:=vals1 C;have o:=SeqAt.RcNeAt.tuples (A:=X.A) (s:=s) (e:=fun _=>(z==c)) p p2 ω fun j h1 h2=>by
   have:j=0:=by simp at h2;(first|lia|omega)
   subst this;exact SeqAt.EqAt.str_str z d c f
  have e:(!((AQ (min [Value.str z d,l].toArray.size [Value.str c f].toArray.size)).all (fun _=>(z==c))&&[Value.str z d,l].toArray.size==[Value.str c f].toArray.size))=true:=by simp
  rw[e] at o;exact o X.prog X.w _ _ ⟨.bl true,H,I,rfl,q⟩
end
def OI(f:Array Value->Array Value)(o:Obj):(o.mapFields f).dict=o.dict:=by unfold Obj.mapFields;split<;>rfl
def Xc(h:Heap)(x:Addr)(C:Value)(T:Option Addr):Prop:=
 ∃c vs,h.get? x=some c/\c.cls=C/\c.dict=none/\c.data=.fields vs/\1<vs.size/\((T=none/\vs[1]?=some .none)\/∃a d ts,T=some a/\vs[1]?=some (.ref a)/\a≠x/\h.get? a=some d/\d.data=.fields ts/\ts[3]?=some .none)
def ot(fr:List Addr)(x:Addr)(T:Option Addr)(h h':Heap):Prop:=
 (∀b o,h.get? b=some o->b≠x->T≠some b->b∉fr->h'.get? b=some o)/\(∀b o,h.get? b=some o->b∈fr->∃a,h'.get? b=some {o with slots:=a})/\h.objs.size<=h'.objs.size
section
variable{M:Model}{A:Around}{E:Ω}{s:Shared}
def wu{base:Heap}{env:Env}{outer:List Env}{L x:Addr}{j:Obj}{vs:Array Value}{head:Value}{O:Bool}{Q:Unit->Shared->Prop}(hfr:A.frames=some (env::outer))(H:s.heap.FunFrames base (env::outer))(hf:env.frame=some L)(he:s.heap.get? x=some j)(hdn:j.dict=none)(hd:j.data=.fields vs)(hsz:1<vs.size)(h:∀h' T',s⁻¹<=T'->Xc h' x j.cls (some T')->ot ((env::outer).filterMap (·.frame)) x none s.heap h'->Q () {s with heap:=h'}):wpAny M A (do let a <-frameOf env;let d <-entryPlaceOf L O;let b <-EntryCells.newEntry head a .none (rawInt L) .none d;setField (.ref x) 1 b) (fun _ s'=>wpAny M A (setFlight (.ref x) none) Q E s') E s:=by
 have g:x∉(env::outer).filterMap (·.frame):=fun hm=>by
  obtain⟨_,o,p,J⟩:=H.mem hm;rw[he] at p;injection p with p;subst p;exact J vs hd
 refine Aa (wpAny_frameOf_fun hfr H hf fun c l=>?_);refine Aa (wpAny_entryPlaceOf fun d i=>?_);unfold EntryCells.newEntry newFields;refine Aa (AW ?_ (i.sizeOk5 _ _ _ _ _));have C:c.get? x=some j:=(l.2.1 x g).trans he;have D:=Ae (h:=c) {cls:=.type "traceback",dict:=none,data:=.fields ([head,.ref L,.none,rawInt L,.none]++(if d.isEmpty then A5 6 Value.none else d)).toArray} C;refine wpAny_setField D hd hsz ?_;have v:c.objs.size≠x:=Nat.ne_of_gt (Ap C);have y:=Obj.data_mapFields hd (·.setIfInBounds 1 (Value.ref c.objs.size));have F:=Heap.get?_update_self (Obj.mapFields (·.setIfInBounds 1 (Value.ref c.objs.size))) D (Obj.isFreed_of_fields y);have G:=(Heap.get?_update_other (c.push {cls:=.type "traceback",dict:=none,data:=.fields ([head,.ref L,.none,rawInt L,.none]++(if d.isEmpty then A5 6 Value.none else d)).toArray})
  (Obj.mapFields (·.setIfInBounds 1 (Value.ref c.objs.size))) (Ne.symm v)).trans (Aq c rfl)
 unfold setFlight;refine Aa (AR F y (x:=.ref c.objs.size) (by simp[hsz]) ?_);rw[if_pos (show(Value.ref c.objs.size != Value.none)=true from by simp)];have P:c.objs.size=s⁻¹:=l.1;refine wpAny_setField G rfl (by simp only[Ai,Af,Am,List.length_nil]<;>(first|lia|omega)) (h _ c.objs.size ω ?_ ?_)
 ·refine⟨_,_,?_,Obj.cls_mapFields _ _,(OI _ _).trans hdn,y,by simpa using hsz,.inr ⟨c.objs.size,_,_,rfl,by simp[hsz],v,Heap.get?_update_self _ G (Obj.isFreed_of_fields (Obj.data_mapFields rfl _)),Obj.data_mapFields rfl _,?_⟩⟩
  ·rw[Heap.get?_update_other _ _ v];exact F
  ·first|(simp;done)|(rcases i with rfl|⟨_,_,_,_,_,_,_,rfl⟩<;>simp)
 ·have keep:∀b o,b≠x->c.get? b=some o->
    (((c.push {cls:=.type "traceback",dict:=none,data:=.fields ([head,.ref L,.none,rawInt L,.none]++(if d.isEmpty then A5 6 Value.none else d)).toArray}).update x (Obj.mapFields (·.setIfInBounds 1 (Value.ref c.objs.size)))).update c.objs.size
     (Obj.mapFields (·.setIfInBounds 3 ((none:Option Addr).elim Value.none fun f=>rawInt f)))).get? b=some o:=fun b o q hb=>by
   have z:c.objs.size≠b:=Nat.ne_of_gt (Ap hb);rw[Heap.get?_update_other _ _ z,Heap.get?_update_other _ _ (Ne.symm q)];exact Ae _ hb
  refine⟨fun b o hb I _ r=>keep b o I ((l.2.1 b r).trans hb),fun b o hb r=>?_,?_⟩
  ·obtain⟨N,u⟩:=l.2.2 b o hb
   exact⟨N,keep b _ (fun e=>g (e▸r)) u⟩
  ·rw[Heap.size_update,Heap.size_update,Heap.size_push]
   show s⁻¹<=c.objs.size+1;(first|lia|omega)
def OJ{base:Heap}{env:Env}{outer:List Env}{L x:Addr}{C:Value}{T:Option Addr}{Q:Unit->Shared->Prop}(hfr:A.frames=some (env::outer))(l:s.heap.FunFrames base (env::outer))(hf:env.frame=some L)(he:Xc s.heap x C T)(h:∀h' T',s⁻¹<=T'->Xc h' x C (some T')->ot ((env::outer).filterMap (·.frame)) x T s.heap h'->Q () {s with heap:=h'}):wpAny M A (leaving env (.ref x)) Q E s:=by
 obtain⟨z,vs,he,rfl,hdn,hd,hsz,h1⟩:=he;unfold leaving noteFrame;simp only[hf];rcases h1 with ⟨rfl,h1⟩|⟨a,D,ts,rfl,h1,y,i,j,r⟩
 ·refine Aa (Aa (AR he hd h1 ?_))
  rw[if_neg ξ];exact wu hfr l hf he hdn hd hsz h
 ·refine Aa (Aa (AR he hd h1 ?_))
  rw[if_pos (show(Value.ref a != Value.none)=true from by simp)];refine Aa (AR i j r ?_);rw[if_neg (show ¬((Value.none==rawInt L)=true) from by simp[rawInt])];refine Aa (wpAny_setField i j (Array.getElem?_eq_some_iff.mp r).1 ?_);have other:∀b,b≠a->(s.heap.update a (Obj.mapFields (·.setIfInBounds 3 Value.none))).get? b=s.heap.get? b:=fun b hb=>Heap.get?_update_other _ _ (Ne.symm hb);have u:∀b o,s.heap.get? b=some o->(∀vs,o.data≠.fields vs)->b≠a:=fun b o hb c q=>by
   rw[q,i] at hb;injection hb with hb;subst hb;exact c ts j
  refine wu hfr (l.of_keeps fun b o hb c=>⟨o,(other b (u b o hb c)).trans hb,rfl⟩) hf ((other x (Ne.symm y)).trans he) hdn hd hsz fun h' T' p hx hk=>h h' T' (by rw[Heap.size_update] at p;exact p) hx ?_;obtain⟨k1,k2,k3⟩:=hk;refine⟨fun b o hb v g f=>k1 b o ((other b fun e=>g (by rw[e])).trans hb) v (by simp) f,fun b o hb f=>?_,by rw[Heap.size_update] at k3;exact k3⟩;obtain⟨_,o',d,c⟩:=l.mem f;rw[hb] at d;cases d;exact k2 b o ((other b (u b o hb c)).trans hb) f
end
def bF(P:Program)(w:World):eN:=fun outer H s E e s'=>∃(x C:Addr)(T:Option Addr)(H':Hp),e=.ref x/\s'.os=s.os/\AllBare s'.gens/\Un (frs outer) [] H H' s.heap s'.heap/\HOk P w H' s'.heap/\
 H' x=none/\s.heap.get? x=none/\(∀a,T=some a->H' a=none/\s.heap.get? a=none)/\Xc s'.heap x (.ref C) T/\E e (some C) H'
def IE{P:Program}{w:World}{H:Hp}{h h':Heap}{fr:List Addr}{x:Addr}{T:Option Addr}(f:HOk P w H h)(k:ot fr x T h h')(hx:H x=none)(g:∀a,T=some a->H a=none)(hf:∀b∈fr,H b=none):HOk P w H h':=by
 intro b u e;refine(f b u e).stay (fun c v hc q=>k.1 c v q ?_ ?_ ?_) (fun _ q=>q) fun _ _ q=>q
 all_goals
  have d:H c≠none:=by
   rcases hc with z|z
   ·rw[z,e];simp
   ·rw[z];simp
 ·exact fun z=>d (z▸hx)
 ·exact fun z=>d (g c z)
 ·exact fun z=>d (hf c z)
def ww{P:Program}{w:World}{K:Ac}{mg:Str->Option Value}{base:Heap}{N:List Str}{d:Str}{scope:Scope}{f:Addr}{g:Value}{A:Around}{outer:List Env}{s:Shared}{H:Hp}{E:XK}{aa:Ψ}{σ:St}{H':Hp}{s':Shared}{x C:Addr}{T:Option Addr}(I:Inv (a_ (bF P w) P w K mg base N d scope f g A outer s H E) aa σ H' s')(hx:Xc s'.heap x (.ref C) T)(p:H' x=none)(r:s.heap.get? x=none)(u:∀a,T=some a->H' a=none/\s.heap.get? a=none)(J:E (.ref x) (some C) H'):(a_ (bF P w) P w K mg base N d scope f g A outer s H E).xe (.ref x) s':=by
 show wpAny (model P w) (A.deeper (envOfC d scope s⁻¹ f g)) (leaving (envOfC d scope s⁻¹ f g) (.ref x)) _ _ s';refine OJ I.ok.frames I.stack rfl hx fun h' T' j v hk=>?_;have hfr:=I.stkFree;have hsz:s⁻¹<=s'⁻¹:=I.sz;have G:∀b o,s.heap.get? b=some o->b≠x/\T≠some b/\b≠s⁻¹:=fun b o e=>by
  have hb:=Ap e;exact⟨fun z=>(by rw[z,r] at e;cases e),fun z=>(by rw[(u b z).2] at e;cases e),AA hb⟩
 have l:∀b o o',s.heap.get? b=some o->s'.heap.get? b=some o'->b∉frs outer->h'.get? b=some o':=fun b o o' e e' hb=>by
  obtain⟨n1,n2,y⟩:=G b o e;refine hk.1 b o' e' n1 n2 fun hm=>?_;have D:b∈s⁻¹::frs outer:=hm;rcases List.mem_cons.mp D with z|z
  ·exact y z
  ·exact hb z
 have c:∀b o',s'.heap.get? b=some o'->b∈frs outer->∃i,h'.get? b=some {o' with slots:=i}:=fun b o' e' hb=>hk.2.1 b o' e' (show b∈s⁻¹::frs outer from At _ hb);have h:∀b:Addr,b∉(a_ (bF P w) P w K mg base N d scope f g A outer s H E).ex:=fun b z=>absurd (show b∈([]:List Addr) from z) (by simp);refine⟨x,C,some T',H',rfl,I.os,I.bare,⟨fun b o q n hb hx=>?_,fun b o q n hb hx=>?_,fun b o q n hx=>I.base.free b o q n (h b),fun b o q hx=>?_,I.base.tups,I.base.frzs,I.base.tbls⟩,IE I.hok hk p (fun a e=>(u a e).1) hfr,p,r,fun a e=>?_,v,J⟩
 ·exact l b o o q (I.base.keep b o q n hb (h b)) hb
 ·obtain⟨i,e⟩:=I.base.slot b o q n hb (h b)
  obtain⟨F,e'⟩:=c b _ e hb;exact⟨F,e'⟩
 ·obtain⟨o',e⟩:=I.base.there b o q (h b)
  by_cases hb:b∈frs outer
  ·obtain⟨i,e'⟩:=c b o' e hb
   exact⟨_,e'⟩
  ·exact⟨o',l b o o' q e hb⟩
 ·cases e
  refine⟨I.hok.fresh j,?_⟩;cases q:s.heap.get? T' with
  |none=>rfl
  |some o=>exact absurd (Ap q) (Nat.not_lt.mpr (AB hsz j))
def bh{P:Program}{w:World}{K:Ac}{mg:Str->Option Value}{base:Heap}{N:List Str}{h:Str}{scope:Scope}{f:Addr}{i:Value}{A:Around}{outer:List Env}{s:Shared}{H:Hp}{E:XK}:c6 (bF P w) (a_ (bF P w) P w K mg base N h scope f i A outer s H E) E:=by
 rintro aa σ H1 j e l I ⟨x,C,T,H',rfl,os,c,un,d,p,r,g,hx,u⟩;have v:Inv (a_ (bF P w) P w K mg base N h scope f i A outer s H E) aa σ H' l:=I.call' (ch:=[]) os un d c (fun b z=>absurd z (by simp));have back:∀b,j.heap.get? b=none->s.heap.get? b=none:=fun b hb=>by
  cases q:s.heap.get? b with
  |none=>rfl
  |some o=>
   obtain⟨o',e⟩:=I.base.there b o q (fun z=>absurd (show b∈([]:List Addr) from z) (by simp));rw[hb] at e;cases e
 exact ww v hx p (back x r) (fun a e=>⟨(g a e).1,back a (g a e).2⟩) u
def FnOk.cx1{P:Program}{w:World}{K:Ac}{mg:Str->Option Value}{base:Heap}{k:Nat}{f:Addr}{fd:FuncData}{ps:List Str}{sp:Sp}(F:FnOk P w K mg base aR k f fd ps sp):FnOk P w K mg base (bF P w) k f fd ps sp:=
 ⟨F.len,fun A outer s H args us vs Q E hr a hb c hs=>codeAny_mono (F.run A outer s H args us vs Q E hr a hb c hs) fun r s' h=>by
  cases r with
  |error e=>exact h.elim
  |ok fl=>cases fl<;>exact h⟩
def Fun.ok1{P:Program}{w:World}{K:Ac}{mg:Str->Option Value}{base:Heap}{x a:Str}{st:Stmt}{f:Addr}{fd:FuncData}{N ps:List Str}{k:Nat}{sp:Sp}(F:Fun K x a st f fd)(S:zl N ps (ze st))(len:∀vs H Q E,sp vs H Q E->vs.length=ps.length)(e:∀(cdv:Value)(A:Around)(outer:List Env)(s:Shared)(H:Hp)(vs:List V)(Q:VK)(E:XK),Room k (A.deeper (envOfC a (ze st) s⁻¹ f cdv))->sp vs H Q E->
   ∃t,PSs (a_ (bF P w) P w K mg base N a (ze st) f cdv A outer s H E) (zA st) t/\t {nx:=fun _ H'=>Q .non H',rt:=Q} (start N vs) H):FnOk P w K mg base (bF P w) (k+1) f fd ps sp:=by
 obtain⟨g,h,kV,i,j,l,cdv,ct,o,rfl,lk,d⟩:=F.ex;exact FX lk d S len fun A outer s H vs Q E hr c=>e cdv A outer s H vs Q E hr c
def OK{P:Program}{w:World}{H:Hp}{h:Heap}{a:Addr}{o:HO}(x:zT P w H h a o):∃ob,h.get? a=some ob:=by
 cases o with
 |lst xs=>obtain⟨_,_,_,_,e⟩:=x;exact⟨_,e⟩
 |tup xs=>obtain⟨_,_,_,o,e,_⟩:=x;exact⟨_,e⟩
 |dK kvs=>obtain⟨_,_,_,_,o,_,_,e,_⟩:=x;exact⟨_,e⟩
 |dT kvs=>obtain⟨_,_,_,_,o,_,_,e,_⟩:=x;exact⟨_,e⟩
 |set S n=>obtain⟨o,_,_,_,e,_⟩:=x;exact⟨_,e⟩
 |ins C dx fs=>obtain⟨_,_,_,e,_⟩:=x;exact⟨_,e⟩
 |own y=>exact x
 |xd fs=>obtain⟨_,⟨_,_,_,e,_⟩,_⟩:=x;exact⟨_,e⟩
 |met f y=>exact⟨_,x⟩
 |rng lo hi=>obtain⟨_,_,_,e⟩:=x;exact⟨_,e⟩
 |frz ob u=>exact⟨_,x.1⟩
 |tbl ps=>exact⟨_,x⟩
 |ext φ=>exact x.2.1
def E5{K:Ac}{h:Heap}{C:Addr}{g:List Value}{s:String}(X:K.In h)(q:PySem.W.excIn K C g s=true):∃bm N nm d bs hdct sn sub ab col dd k0 k1 k2 k3 k5,∃j:Str->Option Value,j "__init__"=none/\(∀T,g.contains (.type T)=true->bm.contains (.type T)=true)/\∀h':Heap,K.In h'->h'.get? C=some (excClassObj nm d C N bs bm hdct sn sub ab col dd k0 k1 k2 k3 k5 s)/\h'.Ns N j/\OwnTail h' g bm:=by
 unfold PySem.W.excIn at q;split at q
 ·rename_i dd cd sl ho
  split at q
  ·rename_i C' bm k0 k1 k2 k3 n k5 hm hs
   simp only[AL,beq_iff_eq,Bool.not_eq_true'] at q;obtain⟨⟨⟨⟨⟨rfl,rfl⟩,p⟩,ht⟩,a⟩,r⟩:=q;obtain⟨nm,bs,mro,c,d,hd,sn,sub,ab,col,x⟩:=cd;dsimp only at hm p a r;subst hm p;have f:sl=#[k0,k1,k2,k3,some (.builtin n),k5]:=by
    obtain⟨l⟩:=sl;simp only at hs;rw[hs]
   subst f;refine⟨bm,c,nm,d,bs,hd,sn,sub,ab,col,dd,k0,k1,k2,k3,k5,h.nsMap c,PySem.W.nsMap_none_of_in X a r,fun T u=>(PySem.W.tail_of_in X ht).hasType u,fun h' i=>⟨i _ _ ho,?_,PySem.W.tail_of_in i ht⟩⟩;have v:h.Ns c (h.nsMap c):=.of_isNs (PySem.W.isNs_of_in X a);unfold PySem.W.nsOkIn at a;split at a
   ·rename_i c1 d1 es1 ep1 sl1 kN
    exact v.at' fun o e=>by
     rw[X _ _ kN] at e;rw[<-e];exact i _ _ kN
   ·cases a
  ·cases q
 ·cases q
abbrev hV:List Value:=[.type "ValueError",.type "Exception",.type "BaseException",.type "object"]
section
variable{X:Cx}
def OM(EX:XK)(C:Addr):TS:=fun _ _ H=>∀x,H x=none->EX (.ref x) (some C) H
def E6{x:Str}{C:Addr}{c:Str}{j:Nat}{P g ax pos:Pos}{EX:XK}(hc:X.calm=true)(Q:Gl X x)(hm:X.mg x=some (.ref C))(q:PySem.W.excIn X.K C hV "ValueError.__new__"=true)(S:∀(aa:Ψ)(σ:St)(H:Hp)(s:Shared)(x:Addr),Inv X aa σ H s->Xc s.heap x (.ref C) none->H x=none->X.s₀.heap.get? x=none->EX (.ref x) (some C) H->X.xe (.ref x) s)(hex:X.ex=[]:=by rfl)(hd:(x==("__debug__":Str))=false:=by decide)(T:(backTo ax (starEach [Expr.Constant (.str c) j g] X.env)).any (·.1)=false:=by rfl):PS X (.Raise (some (.Call (.Name x P) [.Constant (.str c) j g] [] ax)) none pos) (OM EX C):=by
 intro aa s σ H D I h;obtain⟨bm,N,nm,y,bs,hdct,sn,sub,ab,col,dd,k0,k1,k2,k3,k5,Z,A,E,G⟩:=E5 I.kIn q;refine wpAny_Raise_call_subU (C:=C) (nm:=nm) (q:=y) (N:=N) (bs:=bs) (bm:=bm) (hdct:=hdct) (sn:=sn) (sub:=sub) (ab:=ab) (col:=col) (dd:=dd) (k0:=k0) (k1:=k1) (k2:=k2) (k3:=k3) (k5:=k5) PySem.F.excBase_ValueError PySem.F.excBase_ValueError.hasB PySem.F.excBase_ValueError (E _ PySem.F.excBase_ValueError.hasBase) (I.ok.hd hc) T A ?_;refine aX (mw (v:=.ref C) Q hm rfl hd aa s σ H (fun v H1=>v=.ref C/\H1=H) I ⟨rfl,rfl⟩) fun f i ⟨v,H1,U,l,e1,e2⟩=>?_;subst e1 e2;cases l;refine⟨rfl,?_⟩;have O:=(ae pe_str ap:PA X [Expr.Constant (.str c) j g] _) ax aa i σ H1 (fun vs H2=>vs=[.str c]/\H2=H1) U ⟨rfl,rfl⟩;refine Calls.evalArgs_plain (aX O fun us d ⟨vs,H2,I2,p,e3,r⟩=>?_);subst e3 r;obtain⟨J,L,M⟩:=G d.heap I2.kIn;refine⟨rfl,?_,J,L,M,fun h' e hm=>?_⟩
 ·rw[<-p.length];show 1<=sizeLine;decide
 obtain⟨t,ht,_,_⟩:=hm.there;have Y:Inv X aa σ H2 {d with heap:=h'}:=I2.kept (t':=d.toks) hm.keeps;have he:H2 e=none:=by
  cases z:H2 e with
  |none=>rfl
  |some u=>
   obtain⟨o,a⟩:=OK (I2.hok e u z);rw[hm.new] at a;cases a
 refine S aa σ H2 _ e Y ⟨_,_,ht,rfl,rfl,rfl,(by show 1<6;decide),.inl ⟨rfl,rfl⟩⟩ he ?_ (h e he);cases z:X.s₀.heap.get? e with
 |none=>rfl
 |some o=>
  obtain⟨o',a⟩:=I2.base.there e o z (by rw[hex];simp);rw[hm.new] at a;cases a
end
section
variable{M:Model}{A:Around}{E:Ω}{s:Shared}
def ON{base:Heap}{env:Env}{outer:List Env}{L x:Addr}{C:Value}{T:Option Addr}{Q:Unit->Shared->Prop}(hfr:A.frames=some (env::outer))(l:s.heap.FunFrames base (env::outer))(hf:env.frame=some L)(he:Xc s.heap x C T)(h:∀h' T',s⁻¹<=T'->Xc h' x C (some T')->ot ((env::outer).filterMap (·.frame)) x T s.heap h'->Q () {s with heap:=h'}):wpAny M A (noteFrame (.ref x) env) (fun _ v=>wpAny M A (setFlight (.ref x) none) Q E v) E s:=by
 obtain⟨D,vs,he,rfl,hdn,hd,hsz,h1⟩:=he;unfold noteFrame;simp only[hf];rcases h1 with ⟨rfl,h1⟩|⟨a,F,ts,rfl,h1,z,i,j,r⟩
 ·refine Aa (AR he hd h1 ?_)
  rw[if_neg ξ];exact wu hfr l hf he hdn hd hsz h
 ·refine Aa (AR he hd h1 ?_)
  rw[if_pos (show(Value.ref a != Value.none)=true from by simp)];refine Aa (AR i j r ?_);rw[if_neg (show ¬((Value.none==rawInt L)=true) from by simp[rawInt])];refine Aa (wpAny_setField i j (Array.getElem?_eq_some_iff.mp r).1 ?_);have other:∀b,b≠a->(s.heap.update a (Obj.mapFields (·.setIfInBounds 3 Value.none))).get? b=s.heap.get? b:=fun b hb=>Heap.get?_update_other _ _ (Ne.symm hb);have u:∀b o,s.heap.get? b=some o->(∀vs,o.data≠.fields vs)->b≠a:=fun b o hb c q=>by
   rw[q,i] at hb;injection hb with hb;subst hb;exact c ts j
  refine wu hfr (l.of_keeps fun b o hb c=>⟨o,(other b (u b o hb c)).trans hb,rfl⟩) hf ((other x (Ne.symm z)).trans he) hdn hd hsz fun h' T' p hx hk=>h h' T' (by rw[Heap.size_update] at p;exact p) hx ?_;obtain⟨k1,k2,k3⟩:=hk;refine⟨fun b o hb y g f=>k1 b o ((other b fun e=>g (by rw[e])).trans hb) y (by simp) f,fun b o hb f=>?_,by rw[Heap.size_update] at k3;exact k3⟩;obtain⟨_,o',d,c⟩:=l.mem f;rw[hb] at d;cases d;exact k2 b o ((other b (u b o hb c)).trans hb) f
def OO{x:Addr}{C:Value}{T:Addr}{Q:Unit->Shared->Prop}(he:Xc s.heap x C (some T))(h:∀h',Xc h' x C (some T)->ot [] x (some T) s.heap h'->Q () {s with heap:=h'}):wpAny M A (setFlight (.ref x) none) Q E s:=by
 obtain⟨j,vs,he,rfl,hdn,hd,hsz,h1⟩:=he;rcases h1 with ⟨z,_⟩|⟨a,q,ts,z,h1,g,i,f,l⟩
 ·cases z
 cases z;unfold setFlight;refine Aa (AR he hd h1 ?_);rw[if_pos (show(Value.ref T != Value.none)=true from by simp)];have c:=(Array.getElem?_eq_some_iff.mp l).1;refine wpAny_setField i f c (h _ ?_ ?_)
 ·refine⟨j,vs,?_,rfl,hdn,hd,hsz,.inr ⟨T,_,_,rfl,h1,g,Heap.get?_update_self _ i (Obj.isFreed_of_fields (Obj.data_mapFields f _)),Obj.data_mapFields f _,?_⟩⟩
  ·rw[Heap.get?_update_other _ _ g];exact he
  ·simp[c]
 ·refine⟨fun b o hb p d _=>?_,fun b o _ z=>absurd z (by simp),by rw[Heap.size_update];exact Ag _⟩
  rw[Heap.get?_update_other _ _ (fun e=>d (by rw[e]))];exact hb
def OP{C S:Addr}{nm q N bs bm hdct sn sub ab col dd k0 k1 k2 k3 k5 bM}{ja q' N' jo gB cf jg dI jf dw cA jz jv jx jB i_ cp}{h:Heap}{g:Array GenState}{d:Drawn}{t:Nat}{os:OsState}{e:Addr}{c:Obj}{Q:Bool->Shared->Prop}(j:h.get? C=some (excClassObj nm q C N bs bm hdct sn sub ab col dd k0 k1 k2 k3 k5 bM))(i:h.get? S=some (excClassObj ja q' S N' jo gB cf jg dI jf dw cA jz jv jx jB i_ cp))(he:h.get? e=some c)(l:c.cls=.ref C)(o:gB.contains (.type "BaseException")=true)(p:(Value.ref C::bm).contains (.ref S)=true)(hq:Q true ⟨h,g,d,t,os⟩):wpAny M A (excMatches (.ref e) (.ref S)) Q E ⟨h,g,d,t,os⟩:=by
 have a:(Value.ref S::gB).contains (.type "BaseException")=true:=by rw[List.contains_cons,o,Bool.or_true]
 have f:=tc_notTuple;unfold excMatches
 repeat(first|(with_reducible refine wpAny_loadPart_at he ?_;rw[l])|with_reducible refine wpAny_loadPart_at i ?_|(with_reducible refine wpAny_isSubtype_exc i ?_;rw[a])|(with_reducible refine wpAny_isSubtype_exc j ?_;rw[p])|wp_step)
 exact hq
end
section
variable{X:Cx}{aa:Ψ}{σ:List (Option V)}{H H':Hp}{s:Shared}{h':Heap}
structure Off(X:Cx)(aa:Ψ)(x:Addr):Prop where
 s0:X.s₀.heap.get? x=none
 lo:x≠X.env.locals
 ce:∀y c,X.env.cells.lookup y=some c->c≠x
 pn:∀p∈X.pn++aa,p.1≠x
def Inv.off(I:Inv X aa σ H s)(hex:X.ex=[]){x:Addr}(h:s.heap.get? x=none):Off X aa x:=by
 refine⟨?_,fun e=>?_,fun y c e z=>?_,fun p hp z=>?_⟩
 ·cases q:X.s₀.heap.get? x with
  |none=>rfl
  |some o=>
   obtain⟨o',e⟩:=I.base.there x o q (by rw[hex];simp);rw[h] at e;cases e
 ·obtain⟨m,⟨o,_,_,a,_⟩,_⟩:=I.loc
  rw[<-e,h] at a;cases a
 ·obtain⟨v,o,a,_⟩:=I.cell y c e
  rw[z,h] at a;cases a
 ·have:=(I.pin p hp).1
  rw[z,h] at this;cases this
def Inv.stepN{ch:List Addr}(I:Inv X aa σ H s)(j:∀b∈ch,Off X aa b)(keep:∀b o,b≠X.env.locals->b∉X.fs->b∉ch->s.heap.get? b=some o->H b=none->h'.get? b=some o)(slot:∀b o,b≠X.env.locals->b∈X.fs->b∉ch->s.heap.get? b=some o->H b=none->∃A,h'.get? b=some {o with slots:=A})(free:∀b o,b∉ch->s.heap.get? b=some o->H b=none->H' b=none)(there:∀b o,b∉ch->s.heap.get? b=some o->∃o',h'.get? b=some o')(tups:∀b xs,H b=some (.tup xs)->H' b=some (.tup xs))(frzs:∀b o u,H b=some (.frz o u)->H' b=some (.frz o u))(tbls:∀b ps,H b=some (.tbl ps)->∃more,H' b=some (.tbl (ps++more)))(M:∀m,s.heap.Ns X.env.locals m->h'.Ns X.env.locals m)(C:HOk X.prog X.w H' h'):Inv X aa σ H' {s with heap:=h'}:=by
 have h:∀b o,X.s₀.heap.get? b=some o->b≠X.env.locals:=fun b o e=>AA (AD (Ap e) I.ok.above);have y:∀b o,X.s₀.heap.get? b=some o->b∉ch:=fun b o e hb=>by
  rw[(j b hb).s0] at e;cases e
 have a:∀x c,X.env.cells.lookup x=some c->∀v,s.heap.IsCell c v->h'.IsCell c v:=fun x c e v ⟨o,g,hd⟩=>by
  have f:c∉ch:=fun z=>(j c z).ce x c e rfl
  by_cases hc:c∈X.fs
  ·obtain⟨A,q⟩:=slot c o (I.cne x c e) hc f g (I.freeC x c e)
   exact⟨_,q,hd⟩
  ·exact⟨o,keep c o (I.cne x c e) hc f g (I.freeC x c e),hd⟩
 refine⟨I.ok,I.os,I.bare,⟨fun b o e n hb hx=>?_,fun b o e n hb hx=>?_,fun b o e n hx=>?_,fun b o e hx=>?_,fun b xs e=>tups b xs (I.base.tups b xs e),fun b o xs e=>frzs b o xs (I.base.frzs b o xs e),fun b ps e=>?_⟩,?_,fun x c e=>?_,?_,fun x c e=>?_,fun p hp=>?_,C,I.len⟩
 ·exact keep b o (h b o e) hb (y b o e) (I.base.keep b o e n hb hx) (I.base.free b o e n hx)
 ·obtain⟨A,e1⟩:=I.base.slot b o e n hb hx
  obtain⟨E,e2⟩:=slot b _ (h b o e) hb (y b o e) e1 (I.base.free b o e n hx);exact⟨E,e2⟩
 ·obtain⟨o',e1⟩:=I.base.there b o e hx
  exact free b o' (y b o e) e1 (I.base.free b o e n hx)
 ·obtain⟨o',e1⟩:=I.base.there b o e hx
  exact there b o' (y b o e) e1
 ·obtain⟨F,e1⟩:=I.base.tbls b ps e
  obtain⟨G,e2⟩:=tbls b _ e1;exact⟨F++G,by rw[e2,Array.append_assoc]⟩
 ·obtain⟨m,J,L⟩:=I.loc
  refine⟨m,M m J,fun i x v e1 e2 e3=>?_⟩;obtain⟨u,r,l⟩:=L i x v e1 e2 e3;refine⟨u,r,?_⟩;rcases l with l|⟨k,c,e,z⟩
  ·exact .inl l
  ·exact .inr ⟨k,c,e,a x c e _ z⟩
 ·obtain⟨v,z⟩:=I.cell x c e
  exact⟨v,a x c e v z⟩
 ·obtain⟨m,⟨o,_,_,g,_⟩,_⟩:=I.loc
  exact free _ o (fun z=>(j _ z).lo rfl) g I.free
 ·obtain⟨v,o,g,hd⟩:=I.cell x c e
  exact free c o (fun z=>(j c z).ce x c e rfl) g (I.freeC x c e)
 ·obtain⟨e,n,ne,D,d⟩:=I.pin p hp
  have f:p.1∉ch:=fun z=>(j p.1 z).pn p hp rfl;exact⟨keep p.1 p.2 ne D f e n,free p.1 p.2 f e n,ne,D,d⟩
def Inv.xkeep{fr:List Addr}{x:Addr}{T:Option Addr}(I:Inv X aa σ H s)(k:ot fr x T s.heap h')(hfr:∀b∈fr,b∈frs X.stack)(ox:Off X aa x)(hx:H x=none)(d:∀a,T=some a->Off X aa a/\H a=none):Inv X aa σ H {s with heap:=h'}:=by
 have c:∀b o,b∉(x::T.toList)->s.heap.get? b=some o->∃c,h'.get? b=some {o with slots:=c}:=fun b o hc e=>by
  by_cases hb:b∈fr
  ·exact k.2.1 b o e hb
  ·exact⟨o.slots,k.1 b o e (fun z=>hc (by simp[z])) (fun z=>hc (by simp[z])) hb⟩
 refine I.stepN (ch:=x::T.toList) (fun b hb=>?_) (fun b o f hb hc e _=>?_) (fun b o _ _ hc e _=>c b o hc e) (fun _ _ _ _ n=>n) (fun b o hc e=>?_) (fun _ _ e=>e) (fun _ _ _ e=>e) (fun b ps e=>⟨#[],by rw[e];simp⟩) (fun m hm=>?_) (IE I.hok k hx (fun a e=>(d a e).2) fun b hb=>I.stkFree b (hfr b hb))
 ·rcases List.mem_cons.mp hb with z|z
  ·rw[z];exact ox
  ·exact(d b (by simpa using z)).1
 ·exact k.1 b o e (fun z=>hc (by simp[z])) (fun z=>hc (by simp[z])) fun z=>(List.mem_cons.mp (I.stkSub b (hfr b z))).elim f hb
 ·obtain⟨z,e⟩:=c b o hc e
  exact⟨_,e⟩
 ·obtain⟨o,es,ep,g,r⟩:=hm
  obtain⟨z,e⟩:=c _ o (fun z=>by
   rcases List.mem_cons.mp z with z|z
   ·exact ox.lo z.symm
   ·exact(d _ (by simpa using z)).1.lo rfl) g
  exact⟨_,es,ep,e,r⟩
abbrev eQ(x C:Addr):HO:=.ext fun h=>∃o,PySem.W.InstAt h x o C none
def Inv.know{x C:Addr}{T:Option Addr}(I:Inv X aa σ H s)(hx:H x=none)(ox:Off X aa x)(e:Xc s.heap x (.ref C) T):Inv X aa σ (upd H x (eQ x C)) s:=by
 obtain⟨a,vs,he,hc,hdn,h,_⟩:=e;have d:PySem.W.notCls a=true:=by unfold PySem.W.notCls;rw[h]
 have f:match a.dict,(none:Option Obj) with|some dx,some o=>s.heap.get? dx=some o|none,none=>True|_,_=>False:=by rw[hdn];trivial
 have ne:∀b u,H b=some u->b≠x:=fun b u e z=>by rw[z,hx] at e;cases e
 refine I.stepN (h':=s.heap) (ch:=[x]) (fun b hb=>?_) (fun b o _ _ _ e _=>e) (fun b o _ _ _ e _=>⟨o.slots,e⟩) (fun b o hc _ n=>?_) (fun b o _ e=>⟨o,e⟩) (fun b xs e=>?_) (fun b o u e=>?_) (fun b ps e=>⟨#[],?_⟩) (fun m hm=>hm) (fun b u e=>?_)
 ·obtain rfl:b=x:=by simpa using hb
  exact ox
 ·rw[au (fun z=>hc (by simp[z]))];exact n
 ·rw[au (ne b _ e)];exact e
 ·rw[au (ne b _ e)];exact e
 ·rw[au (ne b _ e),e];simp
 ·by_cases hb:b=x
  ·subst hb
   rw[al] at e;cases e;refine⟨⟨a,he,hc,d,f⟩,⟨a,he⟩,fun h1 h2 ⟨o,e1,e2,e3,g⟩ q=>⟨o,q o e1,e2,e3,?_⟩⟩;cases z:o.dict with
   |none=>trivial
   |some dx=>rw[z] at g;exact g.elim
  ·rw[au hb] at e
   refine(I.hok b u e).stay (fun c v _ q=>q) (fun c q=>?_) fun c xs q=>?_
   ·rw[au (ne c _ q)];exact q
   ·rw[au (ne c _ q)];exact q
end
section
variable{X:Cx}{aa bN:Ψ}{σ:List (Option V)}{H H':Hp}{s:Shared}{h':Heap}{EB:XK}
def OQ(X:Cx)(aa:Ψ)(EB:XK):Ω:=fun e s=>∃(x C:Addr)(T:Option Addr)(σ:St)(H:Hp),e=.ref x/\Inv X aa σ H s/\Xc s.heap x (.ref C) T/\H x=none/\Off X aa x/\(∀a,T=some a->Off X aa a/\H a=none)/\EB (.ref x) (some C) H
abbrev XB(X:Cx)(aa:Ψ)(EB:XK):Cx:={X with pn:=X.pn++aa,xe:=OQ X aa EB}
abbrev XH(X:Cx)(aa:Ψ)(x:Addr):Cx:={X with A:=X.A.mark (some (.ref x)),calm:=false,pn:=X.pn++aa,xe:=fun _ _=>False}
def Inv.toB(I:Inv X aa σ H s):Inv (XB X aa EB) [] σ H s:=
 ⟨⟨I.ok.mod,I.ok.kind,I.ok.glob,I.ok.blt,I.ok.above,I.ok.inj,I.ok.has,I.ok.cab,I.ok.hd,I.ok.frames,I.ok.stk,I.ok.exf,I.ok.bs,I.ok.bsz,I.ok.noex,I.ok.exfs,I.ok.funs,I.ok.frf⟩,I.os,I.bare,I.base,I.loc,I.cell,I.free,I.freeC,
  fun p hp=>I.pin p (by simpa using hp),I.hok,I.len⟩
def Inv.ofB(I:Inv (XB X aa EB) bN σ H s):Inv X aa σ H s:=
 ⟨⟨I.ok.mod,I.ok.kind,I.ok.glob,I.ok.blt,I.ok.above,I.ok.inj,I.ok.has,I.ok.cab,I.ok.hd,I.ok.frames,I.ok.stk,I.ok.exf,I.ok.bs,I.ok.bsz,I.ok.noex,I.ok.exfs,I.ok.funs,I.ok.frf⟩,I.os,I.bare,I.base,I.loc,I.cell,I.free,I.freeC,
  fun p hp=>I.pin p (Aw _ hp),I.hok,I.len⟩
def Inv.toH{x:Addr}(I:Inv X aa σ H s):Inv (XH X aa x) [] σ H s:=
 ⟨⟨I.ok.mod,I.ok.kind,I.ok.glob,I.ok.blt,I.ok.above,I.ok.inj,I.ok.has,I.ok.cab,(fun z=>nomatch z),I.ok.frames,I.ok.stk,I.ok.exf,I.ok.bs,I.ok.bsz,I.ok.noex,I.ok.exfs,I.ok.funs,I.ok.frf⟩,I.os,I.bare,I.base,I.loc,I.cell,I.free,I.freeC,
  fun p hp=>I.pin p (by simpa using hp),I.hok,I.len⟩
def Inv.ofH{x:Addr}(I:Inv (XH X aa x) bN σ H s)(hd:X.calm=true->X.A.handled=none):Inv X aa σ H s:=
 ⟨⟨I.ok.mod,I.ok.kind,I.ok.glob,I.ok.blt,I.ok.above,I.ok.inj,I.ok.has,I.ok.cab,hd,I.ok.frames,I.ok.stk,I.ok.exf,I.ok.bs,I.ok.bsz,I.ok.noex,I.ok.exfs,I.ok.funs,I.ok.frf⟩,I.os,I.bare,I.base,I.loc,I.cell,I.free,I.freeC,
  fun p hp=>I.pin p (Aw _ hp),I.hok,I.len⟩
def SP.ofB{D:Ends}{f:Flow}{s':Shared}(h:SP (XB X aa EB) [] D f s'):SP X aa D f s':=by
 cases f with
 |next=>obtain⟨a,H',I,q⟩:=h;exact⟨a,H',I.ofB,q⟩
 |brk=>obtain⟨a,H',I,q⟩:=h;exact⟨a,H',I.ofB,q⟩
 |cont=>obtain⟨a,H',I,q⟩:=h;exact⟨a,H',I.ofB,q⟩
 |ret u=>obtain⟨v,a,H',I,r,q⟩:=h;exact⟨v,a,H',I.ofB,r,q⟩
def OR(hex:X.ex=[]):c6 (bF X.prog X.w) (XB X aa EB) EB:=by
 rintro bN σ H1 g e h I ⟨x,C,T,H',rfl,os,c,un,d,i,j,f,hx,l⟩;have I2:Inv (XB X aa EB) bN σ H' h:=I.call' (ch:=[]) os un d c (fun b z=>absurd z (by simp));have J:Inv X aa σ H1 g:=I.ofB;exact⟨x,C,T,σ,H',rfl,I2.ofB,hx,i,J.off hex j,fun a e=>⟨J.off hex (f a e).2,(f a e).1⟩,l⟩
def Inv.gone{i:Nat}{n:Str}{m:Str->Option Value}{u:Option Value}(I:Inv X aa σ H s)(D:X.N.Nodup)(hi:X.N[i]?=some n)(E:∀(i:Nat)(x:Str)(v:V),X.N[i]?=some x->σ[i]?=some (some v)->oM X.env.scope x->∃u,RelV v u/\Look X.env s.heap m x u)(F:h'.Ns X.env.locals fun y=>if y=n then u else m y)(hs:AS X.env.locals s.heap h'):Inv X aa (σ.set i none) H {s with heap:=h'}:=by
 have a:i<σ.length:=by rw[I.len];exact(List.getElem?_eq_some_iff.mp hi).1
 refine⟨I.ok,I.os,I.bare,⟨fun b o e n hb hx=>?_,fun b o e n hb hx=>?_,I.base.free,fun b o e hx=>?_,I.base.tups,I.base.frzs,I.base.tbls⟩,⟨_,F,fun j y h e1 e2 e3=>?_⟩,fun y c e=>?_,I.free,I.freeC,fun p hp=>?_,fun b ob e=>?_,by simpa using I.len⟩
 ·exact(hs.2 b (AA (AD (Ap e) I.ok.above))).trans (I.base.keep b o e n hb hx)
 ·obtain⟨l,e1⟩:=I.base.slot b o e n hb hx
  exact⟨l,(hs.2 b (AA (AD (Ap e) I.ok.above))).trans e1⟩
 ·obtain⟨o',e1⟩:=I.base.there b o e hx
  exact⟨o',(hs.2 b (AA (AD (Ap e) I.ok.above))).trans e1⟩
 ·by_cases f:j=i
  ·subst f
   rw[List.getElem?_set_self a] at e2;cases e2
  ·rw[List.getElem?_set_ne (Ne.symm f)] at e2
   obtain⟨r,A,q⟩:=E j y h e1 e2 e3;refine⟨r,A,?_⟩;rcases q with ⟨k,e⟩|⟨k,c,e,z⟩
   ·refine .inl ⟨k,?_⟩
    have:y≠n:=fun e=>f (xT D e1 (e▸hi));simp[this,e]
   ·exact .inr ⟨k,c,e,z.sameBut hs (I.cne y c e)⟩
 ·obtain⟨g,z⟩:=I.cell y c e
  exact⟨g,z.sameBut hs (I.cne y c e)⟩
 ·obtain⟨e,n,ne,C,d⟩:=I.pin p hp
  exact⟨(hs.2 p.1 ne).trans e,n,ne,C,d⟩
 ·refine(I.hok b ob e).stay (fun c g hc q=>(hs.2 c ?_).trans q) (fun _ q=>q) fun _ _ q=>q
  rintro rfl;rcases hc with z|z
  ·rw[<-z,I.free] at e;cases e
  ·rw[I.free] at z;cases z
def eG(K:Ac)(C S:Addr):Prop:=∀h:Heap,K.In h->∃nm q N bs bm hdct sn sub ab col dd k0 k1 k2 k3 k5 c d e N' f a g i j l o p r s u v x y,
 h.get? C=some (excClassObj nm q C N bs bm hdct sn sub ab col dd k0 k1 k2 k3 k5 c)/\h.get? S=some (excClassObj d e S N' f a g i j l o p r s u v x y)/\
 a.contains (.type "BaseException")=true/\(Value.ref C::bm).contains (.ref S)=true
def E7(K:Ac)(n ie:Nat)(S:Addr)(f:TS)(D:Ends):XK:=fun e c H'=>∃x C,e=.ref x/\c=some C/\eG K C S/\∀a:St,a.length=n->
 f {nx:=fun d H2=>D.nx (d.set ie none) H2,rt:=fun _ _=>False} (a.set ie (some (.ref x))) (upd H' x (eQ x C))
def E8(K:Ac)(n ie:Nat)(S:Addr)(t:XK->TS)(a:TS):TS:=fun D σ H=>t (E7 K n ie S a D) D σ H
def OS{n:Str}{ie:Nat}{p:Str}{S:Addr}{body P:List Stmt}{Q:Stmt}{t:XK->TS}{U:TS}{np W pos:Pos}(hex:X.ex=[])(E:X.N.Nodup)(j:X.N[ie]?=some n)(g:X.env.scope.names.lookup n=some .local)(c:X.stack=X.env::X.outer)(hfr:X.env.frame=some X.env.locals)(xu:Gl X p)(wJ:X.mg p=some (.ref S))(hb:∀aa EB,PSs (XB X aa EB) body (t EB))(hH:∀aa x,PSs (XH X aa x) (Q::P) U)(hd:(p==("__debug__":Str))=false:=by decide):PS X (.Try body [.ExceptHandler (some (.Name p np)) (some n) (Q::P) W] [] [] pos) (E8 X.K X.N.length ie S t U):=by
 intro aa s σ H D I h;refine wpAny_Try_except (wpAny_mono (hb aa _ [] s σ H D I.toB h) (fun f d q=>?_) (fun e d q=>?_))
 ·have i:SP X aa D f d:=q.ofB
  cases f with
  |next=>exact wpAny_execs_nil i
  |brk=>exact i
  |cont=>exact i
  |ret u=>exact i
 obtain⟨x,C,T,o,H1,rfl,I1,hx,y,ox,hT,x',C',e1,e2,sub,k⟩:=q;cases e1;cases e2;have vt:=c;refine ON (base:=X.base) (outer:=X.outer) (L:=X.env.locals) (by rw[<-c];exact I1.ok.frames) (by rw[<-c];exact I1.stack) hfr hx fun h2 T2 F G xY=>?_;have I2:Inv X aa o H1 {d with heap:=h2}:=I1.xkeep xY (fun b z=>by rw[c];exact z) ox y hT;have yw:d.heap.get? T2=none:=Heap.get?_none_of_le F;have xp:Off X aa T2:=I1.off hex yw;have yL:H1 T2=none:=I1.hok.fresh F;refine wpAny_handleBy_cons (codeAny_handlers_test ?_) (by intro q;cases q);refine oO (X:=XH X aa x) (I2.toH (x:=x)) xu wJ ?_ hd;obtain⟨nm,q,N,bs,bm,hdct,sn,dI,ab,col,dd,k0,k1,k2,k3,k5,bM,ja,i,N',jo,gB,cf,jg,tT,jf,dw,cA,jz,jv,jx,jB,i_,cp,hC,hS,ni,bg⟩:=sub h2 I2.kIn;obtain⟨oe,vs,gG,A,_⟩:=id G;refine OP hC hS gG A ni bg ?_;show codeAny _ _ _ _ _;refine codeAny_handlers_suite_as ?_;refine OO G fun r wS jq=>?_;have I4:Inv X aa o H1 {d with heap:=r}:=I2.xkeep (h':=r) jq (fun b z=>absurd z (by simp)) ox y (fun a e=>by cases e;exact⟨xp,yL⟩);have I5:Inv X aa o (upd H1 x (eQ x C)) {d with heap:=r}:=I4.know y ox wS;refine rz (X:=XH X aa x) (I5.toH (x:=x)) E j (.inl g) (v:=.ref x) rfl (fun s6 I6=>?_) (.inr g);refine wpAny_mono (hH aa x [] s6 _ _ _ I6 (k o I1.len)) (fun f J l=>?_) fun _ _ z=>z.elim;cases f with
 |brk=>obtain⟨_,_,_,z⟩:=l;exact z.elim
 |cont=>obtain⟨_,_,_,z⟩:=l;exact z.elim
 |ret u=>obtain⟨_,_,_,_,_,z⟩:=l;exact z.elim
 |next=>
  obtain⟨M,Y,I7,d7⟩:=l;have I7':Inv X aa M Y J:=I7.ofH I.ok.hd;show wpAny _ _ (do bindName X.env n .none;unbindBehindTheSuite X.env n W) _ _ J;refine Aa (wpAny_bindName (rz I7' E j (.inl g) (v:=.non) rfl (fun s8 I8=>?_) (.inr g)));obtain⟨m,hn,O⟩:=id I8.loc;have n5:ie<M.length:=by rw[I7'.len];exact(List.getElem?_eq_some_iff.mp j).1
  obtain⟨u,_,lk⟩:=O ie n .non j (by rw[List.getElem?_set_self n5]) (.inl g);have kn:X.env.kindOf n=some .local:=g;have hm:m n=some u:=by
   rcases lk with ⟨_,e⟩|⟨z,_⟩
   ·exact e
   ·rw[kn] at z;rcases z with z|z<;>cases z
  unfold unbindBehindTheSuite;refine wpAny_onRaise (wpAny_unbindName_local kn hn hm (by rw[I.ok.kind];rfl) fun h9 u9 CI wd=>?_);have Z:=I8.gone E j O CI wd;rw[List.set_set] at Z;exact⟨_,Y,Z,d7⟩
end
def OT{K:Ac}{C:Addr}{name:Str}{a g:Value}(hc:(PySem.W.clsIn K C).isSome=true)(ha:PySem.W.findIn K (.ref C) name=some (some a))(c:PySem.W.specialIn K a "__get__"=some (some g))(ht:PySem.W.takesIn K a=some true):PySem.W.findObj K C none name=some (.bind g a):=by
 obtain⟨d,hc⟩:=Option.isSome_iff_exists.mp hc;unfold PySem.W.findObj;rw[hc,Option.bind_some,ha,Option.bind_some];simp[c,ht]
structure eH(K:Ac)(D:Addr):Prop where
 ga:PySem.W.findIn K (.ref D) "__getattribute__"=some (some (.builtin "BaseException.__getattribute__"))
 gt:PySem.W.findIn K (.ref D) "__getattr__"=some none
 cls:(PySem.W.clsIn K D).isSome=true
 find:PySem.W.findIn K (.ref D) "__class__"=some (some (.builtin "object.__class__"))
 spec:PySem.W.specialIn K (.builtin "object.__class__") "__get__"=some (some (.builtin "getset_descriptor.__get__"))
 tk:PySem.W.takesIn K (.builtin "object.__class__")=some true
 mro:PySem.W.mroIn K D (.type "object")=some true
 mroB:PySem.W.mroIn K D (.type "BaseException")=some true
section
variable{prog:Program}{w:World}{A:Around}{E:Ω}{s:Shared}{K:Ac}{x D:Addr}{ox:Obj}
def OU{M:Model}{e:Value}{Q:Unit->Shared->Prop}(c:eH K D)(X:K.In s.heap)(I:PySem.W.InstAt s.heap x ox D none)(hq:Q () s):wpAny M A (checkBuiltinCall "BaseException.__getattribute__" ⟨[.ref x,e],[]⟩) Q E s:=by
 obtain⟨f,g,d,t,os⟩:=s;have hk:builtinKind "BaseException.__getattribute__"=some .slot:=δ
 have a:splitId "BaseException.__getattribute__"=some ("BaseException","__getattribute__"):=δ
 have ha:=F.args_bexc_ga (.ref x) e;have L0:=I.type (M:=M);have L1:=PySem.W.looks_mroIn (M:=M) X c.mroB;simp only[checkBuiltinCall,hk,a];refine Aa ?_;unfold isInstance;refine Aa (L0.at (L1.at ?_))
 repeat(first|assumption|wp_step)
def OV{tk:Tok}{Q:Fin->Shared->Prop}(c:eH K D)(X:K.In s.heap)(I:PySem.W.InstAt s.heap x ox D none)(hq:Q (.done (.ret (.ref D))) s):wpAny (model prog w) A (Builtin.«object.__getattribute__» ⟨[.ref x,.str "__class__" tk],[]⟩) Q E s:=by
 obtain⟨a,g,d,t,os⟩:=s;have hf:=OT c.cls c.find c.spec c.tk;have L0:=I.type (M:=model prog w);have L1:=PySem.W.looks_find (M:=model prog w) X I hf;unfold Builtin.«object.__getattribute__»
 repeat(first|with_reducible refine Aa (L0.at ?_)|with_reducible refine Aa (L1.at ?_)|wp_step)
 exact PySem.W.class_get (s:=⟨a,g,d,t,os⟩) X I c.mro (Ad hq)
def OW{Q:Option Value->Shared->Prop}(c:eH K D)(X:K.In s.heap)(I:PySem.W.InstAt s.heap x ox D none)(h:Q (some (.ref D)) {s with toks:=s.toks+1}):wpAny (model prog w) A (getAttr? (.ref x) "__class__") Q E s:=by
 obtain⟨a,g,d,t,os⟩:=s;have L0:=I.type (M:=model prog w);have L1:=PySem.W.looks_findIn (M:=model prog w) X c.ga;have L2:=PySem.W.looks_findIn (M:=model prog w) X c.gt;have FA:=F.excAttr_ValueError;have f3:=FA.ga.bind (.ref x);have e:(Value.builtin "BaseException.__getattribute__" == Value.builtin "object.__getattribute__")=false:=δ
 unfold getAttr? getAttrBy? getAttrBy;refine Aa (wpAny_mkText (Aa (wpAny_attempt (A0 (Aa (L0.at (Aa (L1.at ?_))))))));dsimp only;rw[if_neg (by rw[e,Bool.and_false];decide)];unfold getAttrByItsOwn hookBefore;rw[if_pos (show onTheHeap (.ref D)=true from rfl)];refine Aa (L2.at ?_);refine Aa (wpAny_attempt (A0 ?_));unfold callGetattribute boundAndCalled;rw[Bool.false_and,if_neg Ak,f3];refine Aa (Ad ?_);refine wpAny_call (codeAny_call_builtin FA.ga.plain F.entry_bexc_ga (OU (s:=⟨a,g,d,t+1,os⟩) c X I (OV (s:=⟨a,g,d,t+1,os⟩) c X I ?_)));exact PySem.W.handed_on rfl (Ad h)
end
def OX{K:Ac}{x D:Addr}{ox:Obj}(c:eH K D):PySem.W.KitX K (.ref x) (.ref D) (fun h=>PySem.W.InstAt h x ox D none) where
 ty:=fun _ _ _ I=>I.type
 it:=fun _ _ X _=>by
  obtain⟨d,a⟩:=Option.isSome_iff_exists.mp c.cls;unfold PySem.W.clsIn at a;split at a
  ·rename_i c' d' cd' gS ho
   intro j l o s' k q;unfold isType loadHead;exact Aa (wpAny_loadPart (k _ _ (X _ _ ho)) (Ad q))
  ·cases a
 ne:=fun h tp dd g n i X f=>by
  obtain⟨d,a⟩:=Option.isSome_iff_exists.mp c.cls;refine Bool.eq_false_iff.mpr fun q=>?_;have e:D=tp:=Value.ref.inj (beq_iff_eq.mp q);subst e;unfold PySem.W.clsIn at a;split at a
  ·rename_i c' d' cd' gS ho
   have z:=(X _ _ ho).symm.trans f;cases z
  ·cases a
 ca:=fun X I k=>OW c X I k
section
variable{X:Cx}
def IF{c:V}{a:Value}{b:Bool}{C:Addr}(g:∀u,RelV c u->u=a)(i:eH X.K C)(e:A4 X.K (.ref C) a=some b):fm X (.builtin "isinstance") (fun xs H Q=>∃x,xs=[.ref x,c]/\H x=some (eQ x C)/\Q (.bl b) H):=by
 intro aa s σ H xs us Q I r h;obtain⟨x,rfl,hx,q⟩:=h;obtain⟨u,j,rfl,d,f⟩:=vals2 r;obtain rfl:=g _ f;cases(show u=Value.ref x from d);obtain⟨⟨o,p⟩,_⟩:=(show zT X.prog X.w H s.heap x (eQ x C) from I.hok x _ hx);exact PySem.W.kia_one (OX i) I.kIn p e (fun z=>nomatch z) fun tk=>⟨.bl b,H,I.tok _,rfl,q⟩
end
structure zbU(k:Nat)(A:Around):Prop where
 dp:A.depth+3*k+5<recursionLimit
 un:A.units+16*k+200<cLine
def Room.mark{k:Nat}{A:Around}(r:Room k A)(v:Option Value):zbU k (A.mark v):=⟨r.dp,r.un⟩
def zbU.deeper{k:Nat}{A:Around}(r:zbU (k+1) A)(env:Env):zbU k (A.deeper env):=
 ⟨by have:=r.dp;show A.depth+1+3*k+5<_;(first|lia|omega),by have:=r.un;show A.units+3+16*k+200<_;(first|lia|omega)⟩
def zbU.depth{k:Nat}{A:Around}(r:zbU k A):A.depth<recursionLimit:=by have:=r.dp;(first|lia|omega)
def zbU.units{k:Nat}{A:Around}(r:zbU k A):A.units+64<cLine:=by have:=r.un;(first|lia|omega)
structure q8(P:Program)(w:World)(K:Ac)(mg:Str->Option Value)(base:Heap)(k:Nat)(f:Addr)(fd:FuncData)(ps:List Str)(sp:Sp):Prop where
 len:∀vs H Q E,sp vs H Q E->vs.length=ps.length
 run:∀(A:Around)(outer:List Env)(s:Shared)(H:Hp)(args:Args)(us:List Value)(vs:List V)(Q:VK)(E:XK),zbU k A->Env0 P w K mg base A outer s H->BindsTo s fd args (ps.zip us)->Vals vs us->sp vs H Q E->
  codeAny (model P w) A (.call (.ref f) args) (CR aR outer P w H s Q E) s
abbrev q_(P:Program)(w:World)(K:Ac)(mg:Str->Option Value)(base:Heap)(N:List Str)(aj:Str)(scope:Scope)(f:Addr)(cd:Value)(A:Around)(outer:List Env)(s:Shared)(H:Hp)(E:XK):Cx:=
 {a_ aR P w K mg base N aj scope f cd A outer s H E with calm:=false,xe:=fun _ _=>False}
def OY{P:Program}{w:World}{K:Ac}{mg:Str->Option Value}{base:Heap}{N ps:List Str}{c:Str}{scope:Scope}{f:Addr}{d:Value}{A:Around}{outer:List Env}{s e:Shared}{H:Hp}{E:XK}{us:List Value}{vs:List V}(S:zl N ps scope)(a:Env0 P w K mg base A outer s H)(g:vs.length=ps.length)(r:Vals vs us)(x:InCallC s s⁻¹ (bindL (envOfC c scope s⁻¹ f d).kindOf (ps.zip us) fun _=>none) (cellsFrom (s⁻¹+1) scope.names []) (bindC (envOfC c scope s⁻¹ f d).kindOf (ps.zip us) fun _=>none) e):Inv (q_ P w K mg base N c scope f d A outer s H E) [] (start N vs) H e:=by
 have I:Inv (a_ aR P w K mg base N c scope f d {A with handled:=none} outer s H E) [] (start N vs) H e:=FW (A:={A with handled:=none}) S rfl ⟨a.frames,a.mod,a.bs,a.bsz,a.funs,a.frf,a.hok,a.bare⟩ g r x;exact⟨⟨I.ok.mod,I.ok.kind,I.ok.glob,I.ok.blt,I.ok.above,I.ok.inj,I.ok.has,I.ok.cab,(fun z=>nomatch z),Around.frames_deeper a.frames,I.ok.stk,I.ok.exf,I.ok.bs,I.ok.bsz,I.ok.noex,I.ok.exfs,I.ok.funs,I.ok.frf⟩,I.os,I.bare,I.base,I.loc,I.cell,I.free,I.freeC,I.pin,I.hok,I.len⟩
def OZ{P:Program}{w:World}{K:Ac}{mg:Str->Option Value}{base:Heap}{k:Nat}{f:Addr}{name a:Str}{h:Arguments}{body:List Stmt}{scope:Scope}{i kV j l cdv ct U:Value}{p X:Option Addr}{F:Array (Option Value)}{N ps:List Str}{sp:Sp}(lk:K.lookup f=some ⟨U,X,.func (PySem.W.fnOf name a h body scope i kV j l p cdv ct),F⟩)(G:PySem.W.codeIn K cdv a=true)(S:zl N ps scope)(len:∀vs H Q E,sp vs H Q E->vs.length=ps.length)(Y:∀(A:Around)(outer:List Env)(s:Shared)(H:Hp)(vs:List V)(Q:VK)(E:XK),zbU k (A.deeper (envOfC a scope s⁻¹ f cdv))->sp vs H Q E->
   ∃t,PSs (q_ P w K mg base N a scope f cdv A outer s H E) body t/\t {nx:=fun _ H'=>Q .non H',rt:=Q} (start N vs) H):
  q8 P w K mg base (k+1) f (PySem.W.fnOf name a h body scope i kV j l p cdv ct) ps sp:=by
 refine⟨len,fun A outer s H args us vs Q E hr c hb r z=>?_⟩;have M:=len _ _ _ _ z;have D:K.In s.heap:=c.mod.kin.keeps fun b o e=>(c.bs b o e).1;have O:s.heap.NoLimit:=c.mod.nolimit.keeps fun b o e=>(c.bs b o e).1;have T:∀y∈ps.zip us,scope.names.lookup y.1=some .local\/(scope.names.lookup y.1=some .cell/\((cellsFrom (s⁻¹+1) scope.names []).lookup y.1).isSome=true):=fun⟨n,v⟩ hy=>by
  rcases S.par n (List.of_mem_zip hy).1 with q|q
  ·exact .inl q
  ·exact .inr ⟨q,PySem.W.cellsFrom_some _ _ _ (.inl q)⟩
 refine codeAny_call_function hr.depth (D _ _ lk) rfl S.co S.gen rfl (PySem.W.codeRec_of D G) (hb _ _ _ _ ?_);refine wpAny_newFunctionEnv_cells S.kind T fun env he C x=>?_;subst he;refine⟨O.keeps x.toInCall.keep,codeAny_func ?_⟩;obtain⟨t,ht,hq⟩:=Y A outer s H vs Q E (hr.deeper _) z;have I:Inv (q_ P w K mg base N a scope f cdv A outer s H E) [] (start N vs) H C:=OY S c M r x;refine wpAny_mono (ht [] C (start N vs) H _ I hq) (fun L s' hs=>?_) fun e s' hs=>hs.elim;have fin:∀{d:St}{H':Hp}{v:V}{u:Value},Inv (q_ P w K mg base N a scope f cdv A outer s H E) [] d H' s'->RelV v u->Q v H'->CE outer P w H s Q u s':=
  fun{d H' v u} J g q=>⟨v,H',J.os,J.bare,J.base,J.hok,g,q⟩
 cases L with
 |ret u=>
  obtain⟨v,d,H',J,g,q⟩:=hs;exact fin J g q
 |next=>
  obtain⟨d,H',J,q⟩:=hs;exact fin (v:=V.non) (u:=Value.none) J rfl q
 |brk=>
  obtain⟨_,_,_,q⟩:=hs;exact False.elim q
 |cont=>
  obtain⟨_,_,_,q⟩:=hs;exact False.elim q
def Fun.okN{P:Program}{w:World}{K:Ac}{mg:Str->Option Value}{base:Heap}{x a:Str}{st:Stmt}{f:Addr}{fd:FuncData}{N ps:List Str}{k:Nat}{sp:Sp}(F:Fun K x a st f fd)(S:zl N ps (ze st))(len:∀vs H Q E,sp vs H Q E->vs.length=ps.length)(e:∀(cdv:Value)(A:Around)(outer:List Env)(s:Shared)(H:Hp)(vs:List V)(Q:VK)(E:XK),zbU k (A.deeper (envOfC a (ze st) s⁻¹ f cdv))->sp vs H Q E->
   ∃t,PSs (q_ P w K mg base N a (ze st) f cdv A outer s H E) (zA st) t/\t {nx:=fun _ H'=>Q .non H',rt:=Q} (start N vs) H):q8 P w K mg base (k+1) f fd ps sp:=by
 obtain⟨g,h,kV,i,j,l,cdv,ct,o,rfl,lk,d⟩:=F.ex;exact OZ lk d S len fun A outer s H vs Q E hr c=>e cdv A outer s H vs Q E hr c
section
variable{X:Cx}{k:Nat}{f:Addr}{fd:FuncData}{ps:List Str}{sp:Sp}{dG:List V}{ds:List Value}{E:XK}{x:Str}{p pos:Pos}{e:Expr}{es:List Expr}{t:TA}
def O0(F:q8 X.prog X.w X.K X.mg X.base k f fd ps sp)(hr:zbU k X.A)(i:Gl X x)(hm:X.mg x=some (.ref f))(hk:PySem.W.keepIn X.K (.ref f)=true)(hb:Binds X.K fd ps ds)(hd:Vals dG ds)(ha:PA X (e::es) t)(j:(x==("__debug__":Str))=false:=by decide)(he:starEach (e::es) X.env=(false,eval e X.env)::starEach es X.env:=by rfl)(a:(backTo pos (starEach es X.env)).any (·.1)=false:=by rfl):PE X (.Call (.Name x p) (e::es) [] pos) (j8 sp dG E t):=by
 intro aa s σ H Q I h;refine wpAny_Call_Name_kw (oO I i hm ?_ j);refine PySem.W.callWith_K (h₀:=X.base) I.ok.mod.kin hk (aX (ha pos aa s σ H _ I h) fun us c ⟨vs,H1,I1,r,q⟩=>⟨I1.kIn,?_⟩) he a;have d:Vals (vs++dG) (us++ds):=r.append hd;have g:(us++ds).length=ps.length:=by rw[<-d.length];exact F.len _ _ _ _ q
 refine wpAny_call (codeAny_mono (F.run X.A X.stack c H1 ⟨us,[]⟩ (us++ds) (vs++dG) Q E hr I1.env0 (hb c us I1.kIn g) d q) fun r s' hq=>?_);cases r with
 |error e=>exact hq.elim
 |ok fl=>
  cases fl with
  |ret u=>exact I1.after hq
  |next=>exact False.elim hq
  |brk=>exact False.elim hq
  |cont=>exact False.elim hq
end
section
variable{X:Cx}
abbrev zlA:V->List V->Hp->VK->Prop:=fun x vs H Q=>∃(l:Addr)(ys:List V)(y:V),x=.ref l/\vs=[y]/\H l=some (.lst ys)/\ys.all gk=true/\gk y=true/\Q (.int (ys.countP fun z=>fv z y)) H
abbrev zln:V->List V->Hp->VK->Prop:=fun x vs H Q=>∃(l:Addr)(ys:List V)(y:V)(j:Nat),x=.ref l/\vs=[y]/\H l=some (.lst ys)/\ys.all gk=true/\gk y=true/\j<1000/\((ys[j]?).map fun z=>fv z y)=some true/\(∀m,m<j->((ys[m]?).map fun z=>fv z y)=some false)/\Q (.int j) H
def O1{x:V}{xs:List V}{us:List Value}(h:Vals xs us)(f:xs.all gk=true):us.countP (ip x)=xs.countP fun y=>fv y x:=by
 induction h with
 |nil=>rfl
 |cons r t ih=>
  rw[List.all_cons,AL] at f;rw[List.countP_cons,List.countP_cons,Cy r f.1,ih f.2]
def IG{x:V}{xs:List V}{us:List Value}(h:Vals xs us)(f:xs.all gk=true):∀m:Nat,(us[m]?).map (ip x)=(xs[m]?).map fun y=>fv y x:=by
 induction h with
 |nil=>intro m;simp
 |cons r t ih=>
  rw[List.all_cons,AL] at f;intro m;cases m with
  |zero=>simp[Cy r f.1]
  |succ m=>simpa using ih f.2 m
def O2:ka X "list.count" zlA:=by
 intro aa s σ H x vs v us Q I f g h;obtain⟨l,ys,y,rfl,rfl,j,a,o,q⟩:=h;cases f;obtain⟨u,rfl,p⟩:=g.one;obtain⟨z,d,c,r,C,e⟩:=I.lstM j;refine call_meets F.slot_list_count ⟨_,e,rfl⟩ F.entry_list_count (F.args_list_count_2 _ _) (SeqAt.list_countAt l d.toArray c none #[] u (ip y)) ⟨e,fun i hy=>?_,?_⟩
 ·exact CA p o r a i (by simpa using hy)
 ·have A:d.toArray.toList.countP (ip y)=ys.countP fun z=>fv z y:=O1 r a
  exact⟨.int (ys.countP fun z=>fv z y),H,I.tok _,⟨_,by rw[<-A]⟩,q⟩
def O3:ka X "list.index" zln:=by
 intro aa s σ H x vs v us Q I i o h;obtain⟨l,ys,y,j,rfl,rfl,C,d,D,G,h1,h2,q⟩:=h;cases i;obtain⟨u,rfl,E⟩:=o.one;obtain⟨z,a,c,r,J,e⟩:=I.lstM C;have g1:=(IG (x:=y) r d j).trans h1;have g:j<a.toArray.size:=by
  rcases Nat.lt_or_ge j a.length with q|q
  ·simpa using q
  ·rw[List.getElem?_eq_none q] at g1;cases g1
 have get:∀(m:Nat)(hm:m<a.toArray.size),(a[m]?).map (ip y)=some (ip y a.toArray[m]):=fun m hm=>by
  rw[Aj (by simpa using hm)];rfl
 have f:(j:Int)<2 ^ 63-1:=by
  have h1:(j:Int)<1000:=ω
  have h2:(1000:Int)<2 ^ 63-1:=ξ
  (first|lia|omega)
 refine call_meets F.slot_list_index ⟨_,e,rfl⟩ F.entry_list_index (F.args_list_index_2 _ _) (SeqAt.list_indexAt l a.toArray c none #[] u (ip y) j g f ?_ ?_) ⟨e,fun p hy=>?_,?_⟩
 ·exact As ((get j g).symm.trans g1)
 ·intro m hm A
  exact As ((get m hm).symm.trans ((IG (x:=y) r d m).trans (h2 m A)))
 ·exact CA E D r d p (by simpa using hy)
 ·exact⟨.int j,H,I.tok _,⟨_,rfl⟩,q⟩
end
def O4{K:Ac}{C S:Addr}(q1:PySem.W.excIn K C hV "ValueError.__new__"=true)(F:PySem.W.excIn K S hV "ValueError.__new__"=true)(m:PySem.W.mroIn K C (.ref S)=some true):eG K C S:=by
 intro h X;obtain⟨bm,N,nm,e,bs,hdct,sn,sub,ab,col,dd,k0,k1,k2,k3,k5,H,_,I,d⟩:=E5 X q1;obtain⟨f,N',i,G,j,l,o,p,q,r,s,u,v,x,y,A,L,_,D,E⟩:=E5 X F;refine⟨nm,e,N,bs,bm,hdct,sn,sub,ab,col,dd,k0,k1,k2,k3,k5,_,i,G,N',j,f,l,o,p,q,r,s,u,v,x,y,A,_,(d h X).1,(E h X).1,D _ ξ,?_⟩;have g:=(d h X).1;unfold PySem.W.mroIn at m;obtain⟨J,a,b⟩:=Option.bind_eq_some_iff.mp m;unfold PySem.W.clsIn at a;split at a
 ·rename_i c' d' cd' gS ho
  cases a;have z:=(X _ _ ho).symm.trans g;injection z with z
  have c:=congrArg Obj.data z;injection c with c
  subst c;split at b
  ·cases b
  ·exact As b
 ·cases a
def O5{K:Ac}{C:Addr}{bm:List Value}{n:String}(q:PySem.W.excIn K C bm n=true):(PySem.W.clsIn K C).isSome=true:=by
 unfold PySem.W.excIn at q;unfold PySem.W.clsIn;split at q
 ·rename_i ho;rw[ho];rfl
 ·cases q
def PS.nox{X:Cx}{st:Stmt}{t:TS}(h:PS X.nox st t):PS X st t:=fun aa s σ H D I hw=>wpAny_mono (h aa s σ H D (I.wish _) hw) (fun _ _ q=>q.unwish) fun _ _ f=>f.elim
end L2
namespace K51
open K1
open PySem L2 STb
abbrev ou:Stmt:=top 44
abbrev IH:List Str:=["web","pairs","stands","pair","piece"]
def O6(l:List Pq):(stds l).length=2*l.length:=by
 induction l with
 |nil=>rfl
 |cons a r ih=>rw[show stds (a::r)=[a.1,a.2]++stds r from rfl,Af,ih];simp;(first|lia|omega)
def O7{kn:Ξ}{ps:List Pq}(g:PG kn ps):∀i x,ps[i]?=some x->dJ kn (stds (ps.take i)) x=false:=fun i x e=>by
 have a:stds ps=stds (ps.take i)++([x.1,x.2]++stds (ps.drop (i+1))):=by
  rw[<-oo,<-lh,<-lh]
  congr 1
  rw[<-AG,<-AI e,List.take_append_drop]
 have c:=g.nd;rw[a,AM] at c;exact Iz.mpr ⟨g.has x (An e),fun h=>c.2.2 _ h x.1 (by simp) rfl,fun h=>c.2.2 _ h x.2 (by simp) rfl⟩
section
variable{P:Program}{w:World}{K:Ac}{mg:Str->Option Value}{base:Heap}
def E9(K:Ac)(fC:Addr):Sp:=fun vs H Q E=>∃l m as pss ts ps,vs=[.ref l,.ref m]/\SqL K H l (as.map V.ref)/\Tps H as pss/\eD pss/\SqL K H m (ts.map V.ref)/\Prs2 H ts ps/\ps.length<=100/\
 (∀D H' bs,PG (canon pss) ps->Same H H'->H D=none->H' D=some (.lst (List.map V.ref bs))->Tps H' bs ((canon pss).filter fun p=>!decide (p∈stds ps))->Q (.ref D) H')/\
 ∀H1,¬PG (canon pss) ps->Same H H1->∀x,H1 x=none->E (.ref x) (some fC) H1
def re:zl IH ["web","pairs"] (ze ou):=⟨rfl,rfl,rfl,δ,rfl,δ,δ⟩
def O8{f fj fp fC:Addr}{fd pO bT:FuncData}(F:Fun K "left_over" "left_over" ou f fd)(B:Bt mg)(mC:mg "NoPush"=some (.ref fC))(qC:PySem.W.excIn K fC hV "ValueError.__new__"=true)(Fj:Fun K "judged" "judged" qQ fj pO)(bj:Binds K pO ["web","pairs"] [])(mj:mg "judged"=some (.ref fj))(Gj:FnOk P w K mg base aR 9 fj pO ["web","pairs"] (E3 K))(Fp:Fun K "pieces" "pieces" k7 fp bT)(bp:Binds K bT ["web"] [])(mp:mg "pieces"=some (.ref fp))(Gp:FnOk P w K mg base aR 8 fp bT ["web"] (iK K)):FnOk P w K mg base (bF P w) 10 f fd ["web","pairs"] (E9 K fC):=by
 refine F.ok1 re (fun vs H Q E h=>?_) (fun cdv A outer s H vs Q E hr h=>?_)
 ·obtain⟨l,m,as,pss,ts,ps,rfl,_⟩:=h;rfl
 ·obtain⟨l,m,as,pss,ts,ps,rfl,hl,ha,hw,hm,ht,hz,k,kE⟩:=h
  have hu:=fZ hr;have aE:=hr.units;have yA:Room 8 _:=hr.mono ξ;refine⟨_,zd (zU (zn (OH aE) (zo Gj hr rfl mj Fj.kp bj .nil aF (ae (pv 0) (ae (pv 1) ap))) (zx (ae pe_str ap)) (aK _)) (zg (E6 (C:=fC) (EX:=E) rfl rfl mC qC (fun aa σ H' s' x I hx h0 hs hE=>ww I hx h0 hs (fun a e=>nomatch e) hE))) zq)
   (zd (zk (i:=2) re.nd rfl (Or.inr rfl) zX)
   (zd (PS.nox (zV AE rfl (zv (pv 1)) (zi (i:=3) re.nd rfl (Or.inl rfl))
    (zg (zV AE rfl (jW (pv 3)) (zi (i:=4) re.nd rfl (Or.inl rfl)) (zg (fA hu (pv 2) (pv 4) ej rfl))))))
   (zg (zm (zt IH ["piece","stands"] [none,some 2] (zv (zo Gp yA rfl mp Fp.kp bp .nil aF (ae (pv 0) ap))) (fun cl C s₀ H₀ ex=>zi (i:=0) (cO ["piece","stands"]) rfl (Or.inl rfl))
    (fun cl C s₀ H₀ ex=>pN (rE (DA hu (pv 0) (pv 1)) (by with_unfolding_all rfl))) (fun cl C s₀ H₀ ex=>pv 0) (hfr:=cw (ze ou) δ) (tc:=tB (sE (aM 0) (aM 1)))))))),?_⟩
  obtain⟨_,_,_,bE⟩:=nZ hw.1;rw[<-nW] at bE;have fu:=ht.length;refine⟨_,rfl,_,rfl,l,m,as,pss,ts,ps,rfl,hl,ha,hw,hm,ht,ω,fun D H1 J L M=>⟨aq (by simp),fun T N=>?_⟩,fun i x D H1 ex mh _ L M=>⟨aq (by simp),fun T N=>?_⟩,fun D R H1 us cs _ L _ M _ _ fL _ bn=>⟨aq (by simp),fun T N=>?_⟩⟩
  rotate_left
  ·have r:=Same.new (o:=.tup [.str "pairing"]) N
   refine .inr ⟨D,T,"bad",.int i,"pairing",rfl,rfl,r _ _ M,al,_,rfl,bu fun x' dN=>kE _ (fun J=>?_) (L.trans r) x' dN⟩;rw[O7 J i x ex] at mh;cases mh
  ·have r:=Same.new (o:=.tup [.str "pairing"]) N
   exact .inr ⟨D,T,"round",.ref R,"pairing",rfl,rfl,r _ _ M,al,_,rfl,bu fun x' dN=>kE _ (fun J=>HX fL bn J.ac) (L.trans r) x' dN⟩
  have r:=Same.new (o:=.tup [.str "pairing"]) N;refine .inl ⟨D,T,"pairing","pairing",rfl,rfl,r _ _ M,al,δ,δ,_,rfl,?_⟩;rw[decide_eq_true rfl];have hZ:=L.trans r;generalize upd H1 T (.tup [.str "pairing"])=H2 at r hZ;refine a9 fun d hd=>?_;have s3:=Same.new (o:=.dT []) hd;have fU:=hZ.trans s3;have sx:H d=none:=hZ.free hd;refine⟨_,rfl,m,rfl,⟨_,fU.seq hm⟩,zK (K:=K) (a:=m) (xs:=ts.map V.ref) (fun i σ X=>∃(v3 O:Option V),σ=[some (.ref l),some (.ref m),some (.ref d),v3,O]/\Same H X/\X d=some (.dT (cg (stds (ps.take i)))))
   ⟨none,none,rfl,fU,al⟩ (fun i σ X _ ⟨_,_,_,q,_⟩=>q.seq hm) ?_ ?_⟩
  ·rintro i v σ X S ⟨v3,O,rfl,q,Y⟩
   obtain⟨t,et,rfl⟩:=zQ S;obtain⟨y,ey,hy⟩:=ht.get et;obtain⟨Z,b4,gW,nG,bZ⟩:=hy.same q;have hi:i<ps.length:=(List.getElem?_eq_some_iff.mp ey).1;have hsl:(stds (ps.take i)).length<=2*i:=by rw[O6,Av];(first|lia|omega)
   refine⟨_,rfl,t,rfl,⟨_,SqT.of gW⟩,rT (K:=K) (a:=t) (xs:=[.ref Z,.ref b4]) (fun j σ g=>∃(O:Option V),σ=[some (.ref l),some (.ref m),some (.ref d),some (.ref t),O]/\Same H g/\g t=some (.tup [.ref Z,.ref b4])/\Tp g Z y.1/\Tp g b4 y.2/\g d=some (.dT (cg (stds (ps.take i)++[y.1,y.2].take j))))
    ⟨_,rfl,q,gW,nG,bZ,by rw[List.take_zero,AT];exact Y⟩ (fun j σ g _ ⟨_,_,_,h,_⟩=>SqT.of h) ?_ ?_⟩
   ·rintro j v σ g S ⟨jR,rfl,u,h_,gl,G,U⟩
    have hj2:j=0\/j=1:=by have:=(List.getElem?_eq_some_iff.mp S).1;simp at this;(first|lia|omega)
    have tk:∀{c:Addr}{xs:List V}{o:HO},g c=some (.tup xs)->upd g d o c=some (.tup xs):=fun{c xs o} e=>by
     rw[au (fun z=>by subst z;rw[U] at e;cases e)];exact e
    rcases hj2 with rfl|rfl
    ·have e:V.ref Z=v:=by simpa using S
     subst e;refine⟨_,rfl,_,rfl,d,_,rfl,DPut.t (k:=y.1.map Sum.inl) U (by rw[AC];exact gl) (zH (AB (iE _) (by simp;(first|lia|omega)))),⟨_,rfl,u.then sx,tk h_,tk gl,tk G,?_⟩⟩;rw[al,iF,AG];rfl
    ·have e:V.ref b4=v:=by simpa using S
     subst e;refine⟨_,rfl,_,rfl,d,_,rfl,DPut.t (k:=y.2.map Sum.inl) U (by rw[AC];exact G) (zH (AB (iE _) (by simp;(first|lia|omega)))),⟨_,rfl,u.then sx,tk h_,tk gl,tk G,?_⟩⟩;rw[al,iF,AG];rfl
   ·rintro σ g ⟨jR,rfl,u,h_,gl,G,U⟩
    refine⟨_,_,rfl,u,?_⟩;rw[AI ey,lh,oo];exact U
  ·rintro σ X ⟨v3,O,rfl,q,Y⟩
   rw[Ab,fu,take_all] at Y;refine⟨_,rfl,l,as,pss,rfl,q.seq hl,q.tps ha,hw,fun KN H5 ks s5 _ tK yW=>⟨KN,rfl,⟨_,SqL.of tK⟩,fun D2 bL=>?_⟩⟩;refine zB (EJ (p:=fun p=>!decide (p∈stds ps)) (fun o os H' R Cs ho _ hR=>⟨_,rfl,_,rfl,d,_,rfl,DGet.t (k:=os.map Sum.inl) ((s5.trans Cs) _ _ Y) (by rw[AC];exact ho),_,rfl,?_⟩) (SqL.of tK) yW ω bL fun g bs u fJ G=>k D2 g bs J ((q.trans s5).trans u) ((q.trans s5).free bL) fJ G);rw[ql];exact hR H' (Same.refl _)
end
end K51
end
section
namespace K51
open K1
open PySem L2 STb
abbrev rg:Stmt:=top 45
def IJ{pss:Ξ}(hw:a' pss=true){p r:List Int}(hp:p∈canon pss)(hr:r∈rims p):r∈canon pss:=by
 obtain⟨h,i,c,a⟩:=vk.mp hr;obtain⟨d,e⟩:=vl c a;have g:r≠[]:=fun z=>by
  rw[z] at a;have:=congrArg List.length a;rw[Af,Av,List.length_drop,List.length_nil] at this;have:=List.length_pos_iff.mpr (iI.mp (li hw hp)).1;(first|lia|omega)
 obtain⟨_,t,ht,f⟩:=q3.mp hp;exact q3.mpr ⟨g,t,ht,d.trans f⟩
def Rw(H:Hp)(t:Addr)(p:List Int):Prop:=∃a v,H t=some (.tup [.ref a,v])/\Tp H a p
abbrev Rws(H:Hp)(ts:List Addr)(ps:Ξ):Prop:=Paired (Rw H) ts ps
def Rw.same{H H':Hp}{t:Addr}{p:List Int}(h:Rw H t p)(s:Same H H'):Rw H' t p:=let ⟨a,v,e,q⟩:=h;⟨a,v,s _ _ e,s.tp q⟩
def Rws.same{H H':Hp}{ts:List Addr}{ps:Ξ}(h:Rws H ts ps)(s:Same H H'):Rws H' ts ps:=Paired.mapP h fun _ _ q=>q.same s
def Rws.upd{H:Hp}{d:Addr}{o o':HO}{ts:List Addr}{ps:Ξ}(h:Rws H ts ps)(hd:H d=some o')(a:∀xs,o'≠.tup xs):Rws (L2.upd H d o) ts ps:=
 Paired.mapP h fun t c ⟨b,v,e1,e2⟩=>⟨b,v,by rw[au (dg e1 hd fun z=>a _ z.symm)];exact e1,by show L2.upd H d o b=_;rw[au (dg (show H b=some _ from e2) hd fun z=>a _ z.symm)];exact e2⟩
def Rws.get{H:Hp}:∀{ts:List Addr}{a:Ξ}{i:Nat}{t:Addr},Rws H ts a->ts[i]?=some t->∃c,a[i]?=some c/\Rw H t c
 |_,_,0,_,.cons h _,e=>by cases e;exact⟨_,rfl,h⟩
 |_,_,i+1,_,.cons _ t,e=>Rws.get (i:=i) t (by simpa using e)
abbrev rj(K:Ac):TE:=cI (zL (aM 0) (zL (j8 (i6 K) [] E0 (zL (j8 wc [] E0 (zL (aM 0) (zL (tC (.int 1)) bD))) (zL (aM 1) bD))) bD))
section
variable{P:Program}{w:World}{K:Ac}{mg:Str->Option Value}{base:Heap}
def O9{H2:Hp}{L D d:Addr}{as:List Addr}{g l:Ξ}{es:List En}{Q:VK}(T:H2 L=some (.lst (as.map V.ref)))(ht:Tps H2 as g)(hz:g.length<=1000)(E:∀r∈g,r.length<=5)(he:Ends H2 d es)(u:∀r∈g,∀q∈rims r,q∈es.map (·.1))(x:Ok l es)(F:H2 D=none)(k:∀(a:Hp)(ts:List Addr),Same H2 a->a D=some (.lst (ts.map V.ref))->Rws a ts g->Q (.ref D) a):c7 (eI K L) (cV 0) cz (rj K) [none,some (.ref d)] H2 D Q:=by
 have P:=ht.length;refine z0 (xs:=as.map V.ref) (fun j σ ys a=>∃(i:Option V)(ts:List Addr),σ=[i,some (.ref d)]/\Same H2 a/\a D=some (.lst ys)/\ys=ts.map V.ref/\Rws a ts (g.take j)) ?_ ?_ ?_ ?_
 ·exact⟨none,[],rfl,Same.new F,al,rfl,.nil⟩
 ·rintro j σ ys a ⟨i,ts,rfl,f,e,rfl,_⟩
  exact SqL.of (f _ _ T)
 ·rintro j σ ys a v M N hy ⟨i,ts,rfl,f,e,rfl,hp⟩
  obtain⟨o,O,rfl⟩:=zQ M;obtain⟨r,A,C⟩:=ht.get O;have s:=An A;have S:(as.map V.ref).length<=sizeLine:=by rw[Ab];exact aq ω
  refine cR ⟨_,rfl,_,rfl,o,r,1,rfl,f.tp C,E r s,fun U Y us y _ G H=>⟨_,rfl,U,d,us,_,es,l,rfl,SqL.of G,H,he.same (f.trans y),fun c hc=>⟨u r s c.1 (EZ hc).1,(EZ hc).2⟩,?_,x,fun W Z c I _ X _ _=>⟨aq (by simp),fun p J=>?_⟩⟩⟩
  ·rw[N6];have:=gd r;have:=E r s;(first|lia|omega)
  have h:=(y.trans I).trans (Same.new (o:=.tup [.ref o,.ref W]) J);refine ci S N hy (h _ _ e) ⟨_,ts++[p],rfl,(f.trans h).then F,al,by rw[Ah];rfl,?_⟩;rw[AI A];exact Rws.upd (Paired.snoc (hp.same h) ⟨o,_,al,h.tp (f.tp C)⟩) (h _ _ e) (by intro xs z;cases z)
 ·rintro σ ys a ⟨i,ts,rfl,f,e,rfl,hp⟩
  rw[Ab,P,Au (Ag _)] at hp;exact k a ts f e hp
def IK(K:Ac)(fC:Addr):Sp:=fun vs H Q E=>∃l m as pss ts ps,vs=[.ref l,.ref m]/\SqL K H l (as.map V.ref)/\Tps H as pss/\eD pss/\SqL K H m (ts.map V.ref)/\Prs2 H ts ps/\ps.length<=100/\
 (∀D H' bs,PG (canon pss) ps->Same H H'->H D=none->H' D=some (.lst (List.map V.ref bs))->Rws H' bs ((canon pss).filter fun p=>!decide (p∈stds ps))->Q (.ref D) H')/\
 ∀H1,¬PG (canon pss) ps->Same H H1->∀x,H1 x=none->E (.ref x) (some fC) H1
def ro:zl ["web","pairs","left","ends"] ["web","pairs"] (ze rg):=⟨rfl,rfl,rfl,δ,rfl,δ,δ⟩
def O_{f u v y z fC:Addr}{fd G I J L:FuncData}(F:Fun K "thin_seams" "thin_seams" rg f fd)(B:Bt mg)(Fl:Fun K "left_over" "left_over" ou u G)(bl:Binds K G ["web","pairs"] [])(ml:mg "left_over"=some (.ref u))(Gl:FnOk P w K mg base (bF P w) 10 u G ["web","pairs"] (E9 K fC))(Fe:Fun K "ends_of" "ends_of" qY v I)(be:Binds K I ["left","pairs"] [])(me:mg "ends_of"=some (.ref v))(Ge:FnOk P w K mg base aR 4 v I ["left","pairs"] (Iy K))(Ft:Fun K "seam_terms" "seam_terms" n7 y J)(bt:Binds K J ["piece","often"] [])(mt:mg "seam_terms"=some (.ref y))(Gt:FnOk P w K mg base aR 2 y J ["piece","often"] wc)(Fb:Fun K "brought_to_ends" "brought_to_ends" ol z L)(bb:Binds K L ["terms","ends"] [])(mb:mg "brought_to_ends"=some (.ref z))(Gb:FnOk P w K mg base aR 2 z L ["terms","ends"] (i6 K)):FnOk P w K mg base (bF P w) 11 f fd ["web","pairs"] (IK K fC):=by
 refine F.ok1 ro (fun vs H Q E h=>?_) (fun cdv A outer s H vs Q E hr h=>?_)
 ·obtain⟨l,m,as,pss,ts,ps,rfl,_⟩:=h;rfl
 ·obtain⟨l,m,as,pss,ts,ps,rfl,hl,ha,hw,hm,ht,hz,k,kE⟩:=h
  have d:Room 2 _:=hr.mono ξ;have jI:Room 4 _:=hr.mono ξ;refine⟨_,zd (zk (i:=2) ro.nd rfl (Or.inl rfl) (zo Gl hr rfl ml Fl.kp bl .nil (bh (E:=E)) (ae (pv 0) (ae (pv 1) ap))))
   (zd (zk (i:=3) ro.nd rfl (Or.inr rfl) (zo Ge jI rfl me Fe.kp be .nil aF (ae (pv 2) (ae (pv 1) ap))))
   (zg (zm (zt ["web","pairs","left","ends"] ["piece","ends"] [none,some 3] (zv (pv 2)) (fun M C s₀ H₀ ex=>zi (i:=0) (cO ["piece","ends"]) rfl (Or.inl rfl))
    (fun M C s₀ H₀ ex=>zM) (fun M C s₀ H₀ ex=>zx (ae (pv 0) (ae (zo Gb d rfl mb Fb.kp bb .nil aF (ae (zo Gt d rfl mt Ft.kp bt .nil aF (ae (pv 0) (ae zf ap))) (ae (pv 1) ap))) ap)))
    (hfr:=cw (ze rg) δ) (te:=rj K))))),?_⟩
  obtain⟨_,_,_,T⟩:=nZ hw.1;rw[<-nW] at T;have U:∀p∈canon pss,p.length<=5:=fun p hp=>(iI.mp (li hw.1 hp)).2.1;refine⟨_,rfl,_,rfl,l,m,as,pss,ts,ps,rfl,hl,ha,hw,hm,ht,hz,fun W H2 bs N g gf j O=>?_,fun H1 X Y x hx=>kE H1 X Y x hx⟩;refine⟨_,rfl,_,rfl,W,m,bs,ts,canon pss,ps,rfl,SqL.of j,O,g.seq hm,ht.same g,N,M5 pss,fun p hp r hr=>IJ hw.1 hp hr,U,T,hz,fun ED H3 es a DN BQ c o=>?_⟩;have jQ:((canon pss).filter fun p=>!decide (p∈stds ps)).length<=(canon pss).length:=List.length_filter_le _ _;have e:∀p∈(canon pss).filter (fun p=>!decide (p∈stds ps)),p∈canon pss:=fun p hp=>(List.mem_filter.mp hp).1;refine⟨_,rfl,W,rfl,⟨_,SqL.of (a _ _ j)⟩,fun D S=>zB (O9 (a _ _ j) (a.tps O) ω (fun r hr=>U r (e r hr)) BQ (fun r hr q hq=>c q (IJ hw.1 (e r hr) hq)) o S fun H4 us Z aZ nS=>k D H4 us N ((g.trans a).trans Z) ((g.trans a).free S) aZ nS)⟩
end
end K51
end
section
namespace L2
open PySem PySem.Spec PyProof.Rows
def gR(K:Ac)(a:Addr)(n:Nat):It:=
 ⟨fun i H=>i<n/\∃xs,SqL K H a xs/\xs.length=n,fun i H x H'=>H'=H/\∀xs,SqL K H a xs->xs.reverse[i]?=some x,fun i H=>i=n/\∃xs,SqL K H a xs/\xs.length=n⟩
def O'{P:Program}{w:World}{K:Ac}{tg:Expr}(a it:Addr)(n:Nat):Turn P w K tg (gR K a n) [it] it (fun i h=>h.IsRevIter it a ((n:Int)-1-(i:Int))) where
 mem:=by simp
 obj:=fun i h st b hb=>by
  have e:b=it:=by simpa using hb
  subst e;obtain⟨o,e,c,d⟩:=st;exact⟨o,e,fun v z=>by rw[d] at z;cases z⟩
 keep:=fun i h h' st k=>st.at fun o e=>k it (by simp) o e
 item:=by
  intro X f hw g hc i aa s σ H E I hf st j;subst f hw g;obtain⟨hi,xs,hq,A⟩:=j;obtain⟨G,C,p,hz⟩:=I.list hq;have hx:xs.reverse[i]?=some (xs[n-1-i]'ω):=by
   have e:xs.length-1-i=n-1-i:=ω
   rw[List.getElem?_reverse ω,e];exact Aj _
  obtain⟨u,hu,D⟩:=C.get (Aj (l:=xs) (i:=n-1-i) ω);obtain⟨f0,f1,f2,f3,f4,f5⟩:=hf it (by simp);have e:(n:Int)-1-(i:Int)=((n-1-i:Nat):Int):=ω
  rw[e] at st;refine wpAny_pyNext_rev_item st p.isList (x:=u) (by simpa using hu) fun h' q r=>?_;rw[show((n-1-i:Nat):Int)-1=(n:Int)-1-((i+1:Nat):Int) from ω] at q;have F:Inv X aa σ H {s with heap:=h'}:=I.turned (t':=s.toks) (fun b o hb e=>(r.2 b hb).trans e) f0 f1 f3 f4 f5;obtain⟨o,e,c,d⟩:=id q;exact⟨u,rfl,mJ (s:={s with heap:=h'}) e c d ξ ⟨xs[n-1-i]'ω,H,F,D,⟨rfl,fun ys hy=>by rw[I.list_inj hy hq];exact hx⟩,q,fun b hb=>(hf b hb).1⟩⟩
 done:=by
  intro X f hw g hc i aa s σ H E I hf st j;subst f hw g;obtain⟨hi,xs,hq,A⟩:=j;obtain⟨f0,f1,f2,f3,f4,f5⟩:=hf it (by simp);rw[hi,show(n:Int)-1-(n:Int)=-1 from ω] at st;exact wpAny_pyNext_rev_end (I.ok.hd hc) st fun h' y=>⟨rfl,I.turned (t':=s.toks) (fun b o hb e=>y b o hb e) f0 f1 f3 f4 f5⟩
 self:=fun _ _ _ _ _ st h=>wpAny_pyIter_revIter st h
def Pa(K:Ac)(ta:TA):TI:=fun σ H R=>ta σ H fun vs H1=>∃a xs,vs=[.ref a]/\SqL K H1 a xs/\R (gR K a xs.length) H1
section
variable{X:Cx}{tg:Expr}
def Pb{e:Expr}{ta:TA}{p pos:Pos}(j:Gl X "reversed")(hm:X.mg "reversed"=none)(l:AV "reversed"=some (.type "reversed"))(ha:PA X [e] ta)(he:starEach [e] X.env=[(false,eval e X.env)]:=by rfl):PI X tg (.Call (.Name "reversed" p) [e] [] pos) (Pa X.K ta):=by
 intro aa s σ H R I h;refine Call_ (hY I j hm l (PyProof.Rows.callWith_type1 (aX (ha pos aa s σ H _ I h) fun us c ⟨vs,H1,I1,f,q1⟩=>?_) he rfl));obtain⟨a,xs,rfl,hx,q⟩:=q1;obtain⟨u,rfl,g⟩:=vals1 f;cases g;obtain⟨d,i,p2,hz⟩:=I1.list hx;refine call_reversed_list p2.isList ?_;refine wpAny_pyIter_revIter (s:={c with heap:=c.heap.push (revObj a ((d.toArray.size:Int)-1))}) ⟨_,Aq _ rfl,rfl,rfl⟩ ?_;refine⟨c⁻¹,[c⁻¹],_,_,H1,rfl,I1.kept fun b o e=>Ae _ e,O' a _ xs.length,⟨_,Aq _ rfl,rfl,?_⟩,fun b hb=>?_,q⟩
 ·show Data.fields #[.ref a,rawInt ((d.toArray.size:Int)-1)]=Data.fields #[.ref a,rawInt ((xs.length:Int)-1-((0:Nat):Int))]
  rw[Ai,i.length];simp
 ·have e:b=c⁻¹:=by simpa using hb
  subst e;exact I1.fpOk (Ag _) (I1.hok.fresh (Ag _))
end
def Pc{K:Ac}{a:Addr}{xs:List V}{g:TG}{tb:TS}{D:Ends}{σ:St}{H:Hp}(c:Nat->St->Hp->Prop)(o:c 0 σ H)(r:∀i σ H,i<=xs.length->c i σ H->SqL K H a xs)(hs:∀i x σ H,xs.reverse[i]?=some x->c i σ H->g x σ H fun f H2=>tb {D with nx:=c (i+1),ct:=c (i+1),bk:=D.nx} f H2)(hd:∀σ H,c xs.length σ H->D.nx σ H):∃W:Nat->Nat->St->Hp->Prop,(∃m,W 0 m σ H)/\∀i m σ H,W i m σ H->
   ((gR K a xs.length).stop i H/\D.nx σ H)\/((gR K a xs.length).go i H/\∃N:St->Hp->Prop,(∀h H',N h H'->∃j,j<m/\W (i+1) j h H')/\∀x H',(gR K a xs.length).yld i H x H'->g x σ H' fun f H2=>tb {D with nx:=N,ct:=N,bk:=D.nx} f H2):=by
 refine⟨fun i m σ H=>m=xs.length-i/\i<=xs.length/\c i σ H,⟨xs.length,by simp,AY _,o⟩,?_⟩;rintro i m σ H ⟨rfl,hi,p⟩;have q:=r i σ H hi p
 by_cases d:i<xs.length
 ·refine .inr ⟨⟨d,xs,q,rfl⟩,c (i+1),fun h H' l=>⟨xs.length-(i+1),ω,rfl,d,l⟩,fun x H' y=>?_⟩
  obtain⟨e,y⟩:=y;subst e;exact hs i x σ _ (y xs q) p
 ·have e:i=xs.length:=ω
  subst e;exact .inl ⟨⟨rfl,xs,q,rfl⟩,hd σ H p⟩
end L2
namespace K51
open K1
open PySem L2 STb
abbrev gT:Stmt:=top 43
abbrev oA:Stmt:=top 42
def allP(kn:Ξ):List Pq:=kn.reverse.flatMap fun p=>(rims p).map fun r=>(r,p)
def IL{kn:Ξ}{x:Pq}:x∈allP kn↔x.2∈kn/\x.1∈rims x.2:=by
 unfold allP;rw[List.mem_flatMap];constructor
 ·rintro⟨p,hp,hx⟩
  obtain⟨r,hr,rfl⟩:=List.mem_map.mp hx;exact⟨List.mem_reverse.mp hp,hr⟩
 ·rintro⟨h1,h2⟩
  exact⟨x.2,List.mem_reverse.mpr h1,List.mem_map.mpr ⟨x.1,h2,rfl⟩⟩
def Prs2.app{H:Hp}:∀{ts us:List Addr}{xs ys:List Pq},Prs2 H ts xs->Prs2 H us ys->Prs2 H (ts++us) (xs++ys)
 |_,_,_,_,.nil,h=>h
 |_,_,_,_,.cons r q,h=>.cons r (Prs2.app q h)
def Tps.rev{H:Hp}{as:List Addr}{pss:Ξ}(h:Tps H as pss):Tps H as.reverse pss.reverse:=by
 induction h with
 |nil=>exact .nil
 |cons r t ih=>rw[List.reverse_cons,List.reverse_cons];exact Tps.snoc ih r
abbrev IM:TE:=cI (zL (aM 0) (zL (aM 1) bD))
section
variable{P:Program}{w:World}{K:Ac}{mg:Str->Option Value}{base:Heap}
def Pd{H2:Hp}{L g D:Addr}{as:List Addr}{kn:Ξ}{p:List Int}{Q:VK}(A:SqL K H2 L (as.map V.ref))(ht:Tps H2 as kn)(hp:Tp H2 g p)(hz:kn.length<=1000)(h:H2 D=none)(k:∀(a:Hp)(ts:List Addr),Same H2 a->a D=some (.lst (ts.map V.ref))->Prs2 a ts (kn.map fun r=>(r,p))->Q (.ref D) a):c7 (eI K L) (cV 0) cz IM [none,some (.ref g)] H2 D Q:=by
 have C:=ht.length;refine z0 (xs:=as.map V.ref) (fun j σ ys a=>∃(v:Option V)(ts:List Addr),σ=[v,some (.ref g)]/\Same H2 a/\a D=some (.lst ys)/\ys=ts.map V.ref/\Prs2 a ts ((kn.map fun r=>(r,p)).take j)) ?_ ?_ ?_ ?_
 ·exact⟨none,[],rfl,Same.new h,al,rfl,.nil⟩
 ·rintro j σ ys a ⟨v,ts,rfl,d,c,rfl,_⟩
  exact d.seq A
 ·rintro j σ ys a x hx l hy ⟨v,ts,rfl,d,c,rfl,hb⟩
  obtain⟨o,q,rfl⟩:=zQ hx;obtain⟨r,s,hr⟩:=ht.get q;have u:(as.map V.ref).length<=sizeLine:=by rw[Ab];exact aq ω
  have e:(kn.map fun r=>(r,p))[j]?=some (r,p):=by rw[Ao,s];rfl
  refine cR ⟨_,rfl,_,rfl,aq (by simp),fun T i=>?_⟩;have f:=Same.new (o:=.tup [.ref o,.ref g]) i;have y:Pr2 (upd a T (.tup [.ref o,.ref g])) T (r,p):=⟨o,g,al,(d.trans f).tp hr,(d.trans f).tp hp⟩;refine ci u l hy (f _ _ c) ⟨_,ts++[T],rfl,(d.trans f).then h,al,by rw[Ah];rfl,?_⟩;rw[AI e];exact Prs2.upd (Prs2.add (hb.same f) y) (f _ _ c) (by intro xs z;cases z)
 ·rintro σ ys a ⟨v,ts,rfl,d,c,rfl,hb⟩
  rw[Au (by rw[Ab,Ab];(first|lia|omega))] at hb;exact k a ts d c hb
def E_(K:Ac):Sp:=fun vs H Q _=>∃l as kn,vs=[.ref l]/\SqL K H l (as.map V.ref)/\Tps H as kn/\(∀p∈kn,p.length<=5)/\kn.length<=1000/\∀D H' ts,Same H H'->H' D=some (.lst (List.map V.ref ts))->Prs2 H' ts (allP kn)->Q (.ref D) H'
def Fc:zl ["every","told","piece"] ["every"] (ze gT):=⟨rfl,rfl,rfl,δ,rfl,δ,δ⟩
def Pe{f fr:Addr}{fd y:FuncData}(F:Fun K "pairs_of" "pairs_of" gT f fd)(B:Bt mg)(Fr:Fun K "rims_of" "rims_of" hU fr y)(br:Binds K y ["piece"] [])(mr:mg "rims_of"=some (.ref fr)):FnOk P w K mg base aR 2 f fd ["every"] (E_ K):=by
 have Gr:FnOk P w K mg base aR 1 fr y ["piece"] k8:=n3 Fr B;refine F.ok Fc (fun vs H Q E h=>?_) (fun cdv A outer s H vs Q E hr h=>?_)
 ·obtain⟨l,as,kn,rfl,_⟩:=h;rfl
 ·obtain⟨l,as,kn,rfl,O,ht,g,hz,k⟩:=h
  refine⟨_,zd (zk (i:=1) Fc.nd rfl (Or.inl rfl) (zr ap))
   (zd (zV AE rfl (Pb rfl B.reversed Mw (ae (pv 0) ap)) (zi (i:=2) Fc.nd rfl (Or.inr rfl))
    (zg (zN (eY AN PySem.F.slot_list_extend PySem.F.type_list_extend Gg (pv 1) (ae (zt ["every","told","piece"] ["rim","piece"] [none,some 2] (zv (zo Gr hr rfl mr Fr.kp br .nil aF (ae (pv 2) ap))) (fun G C s₀ H₀ ex=>zi (i:=0) (cO ["rim","piece"]) rfl (Or.inl rfl)) (fun G C s₀ H₀ ex=>zM)
     (fun G C s₀ H₀ ex=>zx (ae (pv 0) (ae (pv 1) ap))) (hfr:=cw (ze gT) δ) (te:=IM)) ap)))))
   (zg (zm (pv 1)))),?_⟩
  have Z:=ht.length;refine⟨aq (by simp),fun L I=>?_⟩;have S:=Same.new (o:=.lst []) I;have ye:=Tps.rev ht;refine⟨_,rfl,l,_,rfl,S.seq O,Pc (K:=K) (a:=l) (xs:=as.map V.ref) (fun i σ H2=>∃(u:Option V)(ts:List Addr),σ=[some (.ref l),some (.ref L),u]/\Same H H2/\H2 L=some (.lst (ts.map V.ref))/\Prs2 H2 ts ((kn.reverse.take i).flatMap fun p=>(rims p).map fun r=>(r,p)))
   ⟨none,[],rfl,S,al,.nil⟩ (fun i σ H2 _ ⟨_,_,_,c,_⟩=>c.seq O) ?_ ?_⟩
  ·rintro i x σ H2 hx ⟨u,ts,rfl,c,d,e⟩
   rw[<-List.map_reverse] at hx;obtain⟨a,Y,rfl⟩:=zQ hx;obtain⟨p,ep,hp⟩:=ye.get Y;have v:p∈kn:=List.mem_reverse.mp (An ep);have hi:i<kn.length:=by have:=(List.getElem?_eq_some_iff.mp ep).1;rw[List.length_reverse] at this;exact this
   have T:((kn.reverse.take i).flatMap fun p=>(rims p).map fun r=>(r,p)).length<=5*i:=by
    have:∀l:Ξ,(∀p∈l,p.length<=5)->(l.flatMap fun p=>(rims p).map fun r=>(r,p)).length<=5*l.length:=fun l=>by
     induction l with
     |nil=>intro _;simp
     |cons a r ih=>
      intro h;rw[List.flatMap_cons,Af,Ab,Am];have h1:=gd a;have h2:=h a Ar;have h3:=ih fun p hp=>h p (At _ hp);(first|lia|omega)
    have h:=this (kn.reverse.take i) fun p hp=>g p (List.mem_reverse.mp (List.mem_of_mem_take hp));rw[Av,List.length_reverse] at h;(first|lia|omega)
   have fu:=e.length;refine⟨_,rfl,.inl ⟨rfl,_,SqL.of d⟩,_,rfl,a,p,rfl,c.tp hp,g p v,fun RL H3 rs J _ M q=>⟨RL,rfl,⟨_,SqL.of M⟩,fun D U=>zB (Pd (SqL.of M) q ((c.trans J).tp hp) (AB (gd _) (by have:=g p v;(first|lia|omega))) U fun H4 us W X N=>?_)⟩⟩;have g_:=N.length;rw[Ab] at g_;have nN:=gd p;have DM:=g p v;have j:=J.trans W;refine⟨L,D,_,_,rfl,rfl,j _ _ d,X,by rw[Ab,Ab];exact aq ω,⟨_,ts++us,rfl,(c.trans j).then I,by rw[al,Ah],?_⟩⟩;rw[AI ep,List.flatMap_append,List.flatMap_singleton];exact Prs2.upd (Prs2.app (e.same j) N) (j _ _ d) (by intro xs z;cases z)
  ·rintro σ H2 ⟨u,ts,rfl,c,d,e⟩
   rw[Ab,Z,Au (by rw[List.length_reverse];(first|lia|omega))] at e;exact⟨_,rfl,k L H2 ts c d e⟩
end
end K51
end
section
namespace K51
open K1
open PySem L2 STb
def i9(kn:Ξ)(ps:List Pq):Prop:=∀x:Pq,x.2∈kn->x.1∈rims x.2->x.1∈stds ps\/x.2∈stds ps\/¬eF (ps++[x])
def lj{ps:List Pq}{p:List Int}:p∈stds ps↔∃x∈ps,p=x.1\/p=x.2:=by
 unfold stds;rw[List.mem_flatMap];exact⟨fun⟨x,h1,h2⟩=>⟨x,h1,by simpa using h2⟩,fun⟨x,h1,h2⟩=>⟨x,h1,by simpa using h2⟩⟩
def Fd{ps a:List Pq}(h:ps.Perm a):(stds ps).Perm (stds a):=h.flatMap_right _
def Pf{kn:Ξ}{ps a:List Pq}(h:ps.Perm a)(g:PG kn ps):PG kn a:=⟨fun x hx=>g.has x (h.mem_iff.mpr hx),(Fd h).nodup_iff.mp g.nd,EK g.ac fun x hx=>h.mem_iff.mpr hx⟩
def Pg{kn:Ξ}{ps d:List Pq}(h:ps.Perm d)(g:i9 kn ps):i9 kn d:=fun x h1 h2=>by
 rcases g x h1 h2 with a|a|a
 ·exact .inl ((Fd h).mem_iff.mp a)
 ·exact .inr (.inl ((Fd h).mem_iff.mp a))
 ·exact .inr (.inr fun c=>a (EK c fun y hy=>by
   rcases List.mem_append.mp hy with hy|hy
   ·exact Aw _ (h.mem_iff.mp hy)
   ·exact Az _ hy))
def Ph{l:List Pq}(h:(l.map (·.1)).Nodup):∀a∈l,∀b∈l,a.1=b.1->a=b:=by
 induction l with
 |nil=>intro a ha;cases ha
 |cons c r ih=>
  intro a ha b hb e;rw[AF,List.nodup_cons] at h;rcases List.mem_cons.mp ha with f|ha'
  ·rcases List.mem_cons.mp hb with d|hb'
   ·rw[f,d]
   ·exact absurd (List.mem_map.mpr ⟨b,hb',by rw[<-e,f]⟩) h.1
  ·rcases List.mem_cons.mp hb with d|hb'
   ·exact absurd (List.mem_map.mpr ⟨a,ha',by rw[e,d]⟩) h.1
   ·exact ih h.2 a ha' b hb' e
def Pi{xs ps:List Pq}(hm:∀x∈xs,x∈ps)(c:(ps.map (·.1)).Nodup)(hp:(xs.map (·.1)).Perm (ps.map (·.1))):xs.Perm ps:=by
 have nx:xs.Nodup:=(List.Pairwise.of_map (·.1) (fun a b h e=>h (by rw[e])) (List.nodup_iff_pairwise_ne.mp (hp.nodup_iff.mpr c)):xs.Pairwise (·≠·));have d:ps.Nodup:=(List.Pairwise.of_map (·.1) (fun a b h e=>h (by rw[e])) (List.nodup_iff_pairwise_ne.mp c):ps.Pairwise (·≠·));refine(List.perm_ext_iff_of_nodup nx d).mpr fun x=>⟨hm x,fun hx=>?_⟩;obtain⟨y,hy,e⟩:=List.mem_map.mp (hp.mem_iff.mpr (List.mem_map.mpr ⟨x,hx,rfl⟩));rw[<-Ph c y (hm y hy) x hx e];exact hy
def Pj{r p:List Int}(h:r∈rims p):r≠p:=fun e=>by
 obtain⟨_,k,hk,a⟩:=vk.mp h;have:=(vl hk a).2;rw[e] at this;(first|lia|omega)
def IN(l:List Pq):(stds l).length=2*l.length:=by
 induction l with
 |nil=>rfl
 |cons a r ih=>rw[show stds (a::r)=[a.1,a.2]++stds r from rfl,Af,ih];simp;(first|lia|omega)
abbrev rq:TE:=cI (zL (aM 0) (zL (pk (aM 1) (aM 0)) bD))
abbrev Ff:List Str:=["web","seconds","stands","pair","piece"]
section
variable{P:Program}{w:World}{K:Ac}{mg:Str->Option Value}{base:Heap}
def Pk{H2:Hp}{L d D:Addr}{as:List Addr}{kn:Ξ}{ps:List Pq}{Q:VK}(M:SqL K H2 L (as.map V.ref))(ht:Tps H2 as kn)(hs:Sec H2 d ps)(i:∀p∈kn,p∈ps.map (·.1))(hz:kn.length<=1000)(u:H2 D=none)(k:∀(a:Hp)(ts:List Addr)(xs:List Pq),Same H2 a->a D=some (.lst (ts.map V.ref))->Prs2 a ts xs->xs.map (·.1)=kn->(∀x∈xs,x∈ps)->Q (.ref D) a):c7 (eI K L) (cV 0) cz rq [none,some (.ref d)] H2 D Q:=by
 have N:=ht.length;refine z0 (xs:=as.map V.ref) (fun j σ ys a=>∃(v:Option V)(ts:List Addr)(xs:List Pq),σ=[v,some (.ref d)]/\Same H2 a/\a D=some (.lst ys)/\ys=ts.map V.ref/\Prs2 a ts xs/\xs.map (·.1)=kn.take j/\∀x∈xs,x∈ps) ?_ ?_ ?_ ?_
 ·exact⟨none,[],[],rfl,Same.new u,al,rfl,.nil,rfl,fun x hx=>(by cases hx)⟩
 ·rintro j σ ys a ⟨v,ts,xs,rfl,e,c,rfl,_⟩
  exact e.seq M
 ·rintro j σ ys a y hx C hy ⟨v,ts,xs,rfl,e,c,rfl,hb,hm,g⟩
  obtain⟨o,E,rfl⟩:=zQ hx;obtain⟨r,l,hr⟩:=ht.get E;have I:(as.map V.ref).length<=sizeLine:=by rw[Ab];exact aq ω
  obtain⟨kvs,F,hk⟩:=hs.same e;rcases sec_val hk r with ⟨_,G⟩|⟨b,q,H,hq,hb'⟩
  ·exact absurd (i r (An l)) G
  have s:=DGet.t (k:=r.map Sum.inl) F (by rw[AC];exact e.tp hr);rw[H] at s;refine cR ⟨_,rfl,_,rfl,_,rfl,d,_,rfl,s,aq (by simp),fun T A=>?_⟩;have f:=Same.new (o:=.tup [.ref o,.ref b]) A;have J:Pr2 (upd a T (.tup [.ref o,.ref b])) T (r,q):=⟨o,b,al,(e.trans f).tp hr,f.tp hb'⟩;refine ci I C hy (f _ _ c) ⟨_,ts++[T],xs++[(r,q)],rfl,(e.trans f).then u,al,by rw[Ah];rfl,Prs2.upd (Prs2.add (hb.same f) J) (f _ _ c) (by intro xs z;cases z),by rw[AI l,Ah,hm];rfl,fun x hx=>?_⟩;rcases List.mem_append.mp hx with h|h
  ·exact g x h
  ·rw[List.mem_singleton.mp h];exact hq
 ·rintro σ ys a ⟨v,ts,xs,rfl,e,c,rfl,hb,hm,g⟩
  rw[Au (by rw[Ab];(first|lia|omega))] at hm;exact k a ts xs e c hb hm g
def IP(K:Ac):Sp:=fun vs H Q _=>∃l as pss,vs=[.ref l]/\SqL K H l (as.map V.ref)/\Tps H as pss/\eD pss/\∀D H' ts c,Same H H'->H D=none->H' D=some (.lst (List.map V.ref ts))->Prs2 H' ts c->PG (canon pss) c->i9 (canon pss) c->(c.map (·.1)).Pairwise (fun a b=>kle a b=true)->Q (.ref D) H'
def jH:zl Ff ["web"] (ze oA):=⟨rfl,rfl,rfl,δ,rfl,δ,δ⟩
def Pl{f fp fo fr fq fk:Addr}{fd bT bH aU qJ cU:FuncData}(F:Fun K "pairing" "pairing" oA f fd)(B:Bt mg)(i3:mg "any"=none)(iB:AV "any"=some (.builtin "any"))(Fp:Fun K "pieces" "pieces" k7 fp bT)(bp:Binds K bT ["web"] [])(mp:mg "pieces"=some (.ref fp))(Gp:FnOk P w K mg base aR 8 fp bT ["web"] (iK K))(Fo:Fun K "pairs_of" "pairs_of" gT fo bH)(bo:Binds K bH ["every"] [])(mo:mg "pairs_of"=some (.ref fo))(Go:FnOk P w K mg base aR 2 fo bH ["every"] (E_ K))(Fr:Fun K "round_with" "round_with" qH fr aU)(br:Binds K aU ["seconds","new"] [])(mr:mg "round_with"=some (.ref fr))(Gr:FnOk P w K mg base aR 3 fr aU ["seconds","new"] lg)(Fq:Fun K "in_order" "in_order" kF fq qJ)(bq:Binds K qJ ["some"] [])(mq:mg "in_order"=some (.ref fq))(Fk:Fun K "order_key" "order_key" eC fk cU)(bk:Binds K cU ["piece"] [])(mk:mg "order_key"=some (.ref fk)):FnOk P w K mg base aR 9 f fd ["web"] (IP K):=by
 have Gq:FnOk P w K mg base aR 4 fq qJ ["some"] (uN K):=Es Fq B Fk bk mk;refine F.ok jH (fun vs H Q E h=>?_) (fun cdv A outer s H vs Q E hr h=>?_)
 ·obtain⟨l,as,pss,rfl,_⟩:=h;rfl
 ·obtain⟨l,as,pss,rfl,hl,ha,hw,k⟩:=h
  have hu:=fZ hr;have hr2:Room 2 _:=hr.mono ξ;have hr3:Room 3 _:=hr.mono ξ;have jI:Room 4 _:=hr.mono ξ;refine⟨_,zd (zk (i:=1) jH.nd rfl (Or.inr rfl) zX)
   (zd (zk (i:=2) jH.nd rfl (Or.inr rfl) zX)
   (zd (zV AE rfl (zv (zo Go hr2 rfl mo Fo.kp bo .nil aF (ae (zo Gp hr rfl mp Fp.kp bp .nil aF (ae (pv 0) ap)) ap))) (zi (i:=3) jH.nd rfl (Or.inl rfl))
    (zd (zU (PW.pt (mE (jh (zw (GU rfl) rfl i3 iB (ae (zt Ff ["piece","stands"] [none,some 2] (jW (pv 3)) (fun cl C s₀ H₀ ex=>zi (i:=0) (cO ["piece","stands"]) rfl (Or.inl rfl)) (fun cl C s₀ H₀ ex=>zM)
      (fun cl C s₀ H₀ ex=>xV (sH hu (pv 0) (pv 1)) (by with_unfolding_all rfl)) (hfr:=cw (ze oA) δ) (te:=fy (aM 0) (aM 1))) ap))) (mx (zn jn (zw zp rfl B.len ei (ae (zo Gr hr3 rfl mr Fr.kp br .nil aF (ae (pv 1) (ae (pv 3) ap))) ap)) zf (aK _))))) (zg JG) zq)
    (zd (fA hu (pv 1) (cK eK (pv 3) zf (fun _ _=>rfl)) (cK eK (pv 3) zf (fun _ _=>rfl)) rfl)
    (zg (zV AE rfl (jW (pv 3)) (zi (i:=4) jH.nd rfl (Or.inl rfl)) (zg (fA hu (pv 2) (pv 4) ej rfl)))))))
   (zg (zm (zt Ff ["piece","seconds"] [none,some 1] (zv (zo Gq jI rfl mq Fq.kp bq .nil aF (ae (zG (GX rfl) rfl B.list gI (ae (pv 1) ap)) ap))) (fun cl C s₀ H₀ ex=>zi (i:=0) (cO ["piece","seconds"]) rfl (Or.inl rfl)) (fun cl C s₀ H₀ ex=>zM)
    (fun cl C s₀ H₀ ex=>zx (ae (pv 0) (ae (ju hu (pv 1) (pv 0) (fun _ _=>rfl)) ap))) (hfr:=cw (ze oA) δ) (te:=rq)))))),?_⟩
  obtain⟨_,_,_,bE⟩:=nZ hw.1;rw[<-nW] at bE;have c5:∀p∈canon pss,p.length<=5:=fun p hp=>(iI.mp (li hw.1 hp)).2.1;intro d hd;have s1:=Same.new (o:=.dT []) hd;have kO:=al (H:=H) (a:=d) (o:=.dT []);generalize upd H d (.dT [])=H1 at s1 kO;intro T qZ;have s2:=Same.new (o:=.dT []) qZ;have jX:H T=none:=s1.free qZ;have pK:d≠T:=zh kO qZ;have hZ:=s1.trans s2;refine⟨_,rfl,l,as,pss,rfl,hZ.seq hl,hZ.tps ha,hw,fun KN H3 ks s3 _ wL Be=>?_⟩;refine⟨KN,ks,canon pss,rfl,SqL.of wL,Be,c5,ω,fun PL H4 ts s4 uG js=>?_⟩;have rf:=s3.trans s4;have iT:=hZ.trans rf;refine⟨PL,rfl,⟨_,SqL.of uG⟩,?_⟩;have bg:∀{ps:List Pq},PG (canon pss) ps->2*ps.length<=200:=fun{ps} g=>by
   have:=g.nd.length_le_of_subset (l₂:=canon pss) fun p hp=>by
    obtain⟨x,hx,e⟩:=lj.mp hp;obtain⟨h1,h2⟩:=g.has x hx;rcases e with rfl|rfl
    ·obtain⟨h3,kk,iZ,er⟩:=vk.mp h2
     obtain⟨av,hlt⟩:=vl iZ er;have h0:x.1≠[]:=fun z=>by
      rw[z] at er;have:=congrArg List.length er;rw[Af,Av,List.length_drop,List.length_nil] at this;have:=List.length_pos_iff.mpr (iI.mp (li hw.1 h1)).1;(first|lia|omega)
     obtain⟨_,t,ht,gE⟩:=q3.mp h1;exact q3.mpr ⟨h0,t,ht,av.trans gE⟩
    ·exact h1
   rw[IN] at this;(first|lia|omega)
  refine zK (K:=K) (a:=PL) (xs:=ts.map V.ref) (fun i σ J=>∃(v3 v4:Option V)(ps:List Pq),σ=[some (.ref l),some (.ref d),some (.ref T),v3,v4]/\Same H J/\J PL=some (.lst (ts.map V.ref))/\Prs2 J ts (allP (canon pss))/\Sec J d ps/\J T=some (.dT (cg (stds ps)))/\PG (canon pss) ps/\∀x∈(allP (canon pss)).take i,x.1∈stds ps\/x.2∈stds ps\/¬eF (ps++[x]))
   ⟨none,none,[],rfl,iT,uG,js,⟨[],rf _ _ (s2 _ _ kO),.nil⟩,rf _ _ al,⟨fun x hx=>(by cases hx),(by simp[stds]),dB⟩,by simp⟩ (fun i σ J _ ⟨_,_,_,_,_,h,_⟩=>SqL.of h) ?_ ?_
  ·rintro i v σ J hv ⟨v3,v4,ps,rfl,s5,kg,dS,bV,eU,S,mK⟩
   obtain⟨t,et,rfl⟩:=zQ hv;obtain⟨x,ex,hx⟩:=dS.get et;obtain⟨a,b,ext,uj,ut⟩:=id hx;obtain⟨qp,tX⟩:=IL.mp (An ex);have hpl:=bg S;have dZ:∀{Y:List Pq},(∀y∈ps,y∈Y)->(x.1∈stds Y\/x.2∈stds Y\/¬eF (Y++[x]))->∀y∈(allP (canon pss)).take (i+1),y.1∈stds Y\/y.2∈stds Y\/¬eF (Y++[y]):=fun{Y} av dN y hy=>by
    rw[AI ex] at hy;rcases List.mem_append.mp hy with hy|hy
    ·rcases mK y hy with h|h|h
     ·obtain⟨z,hz,e⟩:=lj.mp h
      exact .inl (lj.mpr ⟨z,av z hz,e⟩)
     ·obtain⟨z,hz,e⟩:=lj.mp h
      exact .inr (.inl (lj.mpr ⟨z,av z hz,e⟩))
     ·exact .inr (.inr fun c=>h (EK c fun z hz=>by
       rcases List.mem_append.mp hz with hz|hz
       ·exact Aw _ (av z hz)
       ·exact Az _ hz))
    ·rw[List.mem_singleton.mp hy];exact dN
   refine⟨_,rfl,t,rfl,⟨_,SqT.of ext⟩,fun D hD=>zB (Ir hx eU hD fun H6 O h6=>⟨D,_,rfl,SqL.of h6,_,rfl,?_⟩)⟩;have Bv:=s5.trans O
   by_cases X:x.1∈stds ps\/x.2∈stds ps
   ·rw[show([decide (x.1∈stds ps),decide (x.2∈stds ps)].any id)=true by
     rcases X with h|h
     ·rw[decide_eq_true h];rfl
     ·rw[decide_eq_true h];simp]
    exact bu ⟨_,_,ps,rfl,Bv,O _ _ kg,dS.same O,bV.same O,O _ _ eU,S,dZ (fun _ h=>h) (X.elim .inl fun h=>.inr (.inl h))⟩
   have hn1:x.1∉stds ps:=fun h=>X (.inl h);have iM:x.2∉stds ps:=fun h=>X (.inr h);rw[show([decide (x.1∈stds ps),decide (x.2∈stds ps)].any id)=false by rw[decide_eq_false hn1,decide_eq_false iM];rfl];have jM:x.1∉ps.map (·.1):=fun h=>by
    obtain⟨y,hy,e⟩:=List.mem_map.mp h;exact hn1 (lj.mpr ⟨y,hy,.inl e.symm⟩)
   refine a9 ⟨_,rfl,_,rfl,d,t,ps,x,rfl,bV.same O,hx.same O,E1 S.nd,jM,fun y hy=>c5 _ (S.has y hy).1,c5 _ qp,ω,S.ac,fun D2 M s7 _ kW fF=>?_,fun D2 M us cs s7 _ kW bn fL _ lu=>?_⟩
   ·refine⟨D2,[],rfl,.inl (SqL.of kW),_,_,rfl,rfl,_,rfl,a9 ?_⟩
    have u:=O.trans s7;have yF:=s5.trans u;obtain⟨kvs,ek,hk⟩:=bV.same u;obtain⟨U,e1,e2,e3⟩:=HY hk jM (u.tp ut);have qB:=A1 hk;refine⟨_,rfl,t,_,_,_,rfl,rfl,SqT.of (u _ _ ext),zD (j:=1) rfl,_,rfl,_,rfl,t,_,_,_,rfl,rfl,SqT.of (u _ _ ext),zD (j:=0) rfl,d,_,rfl,DPut.t (k:=x.1.map Sum.inl) ek (by rw[AC];exact u.tp uj) (zH ω),?_⟩;rw[e1];have nq:∀{c:Addr}{xs:List V},M c=some (.tup xs)->upd M d (.dT U) c=some (.tup xs):=fun{c xs} e=>by
     rw[au (fun z=>by subst z;rw[ek] at e;cases e)];exact e
    have nod:∀xs,(HO.dT kvs)≠.tup xs:=by intro xs z;cases z
    have nPd:PL≠d:=fun z=>by have:=u _ _ kg;rw[z,ek] at this;cases this
    have Z:Sec (upd M d (.dT U)) d (ps++[x]):=⟨U,al,Paired.mapP e2 fun kv y ⟨h1,b,h2,h3⟩=>⟨h1,b,h2,nq h3⟩⟩;have lC:upd M d (.dT U) T=some (.dT (cg (stds ps))):=by rw[au (Ne.symm pK)];exact u _ _ eU
    have hP8:upd M d (.dT U) PL=some (.lst (ts.map V.ref)):=by rw[au nPd];exact u _ _ kg
    have ht8:Prs2 (upd M d (.dT U)) ts (allP (canon pss)):=Prs2.upd (dS.same u) ek nod;have ig:=nq (u _ _ ext);have lR:Tp (upd M d (.dT U)) a x.1:=nq (u.tp uj);have j6:Tp (upd M d (.dT U)) b x.2:=nq (u.tp ut);have se:Same H (upd M d (.dT U)):=yF.then hd;generalize upd M d (.dT U)=H8 at Z lC hP8 ht8 ig lR j6 se;have hsl:=IN ps;refine⟨_,rfl,t,rfl,⟨_,SqT.of ig⟩,rT (K:=K) (a:=t) (xs:=[.ref a,.ref b]) (fun j σ N=>∃(v4:Option V),σ=[some (.ref l),some (.ref d),some (.ref T),some (.ref t),v4]/\Same H N/\N t=some (.tup [.ref a,.ref b])/\Tp N a x.1/\Tp N b x.2/\N PL=some (.lst (ts.map V.ref))/\Prs2 N ts (allP (canon pss))/\Sec N d (ps++[x])/\N T=some (.dT (cg (stds ps++[x.1,x.2].take j))))
     ⟨_,rfl,se,ig,lR,j6,hP8,ht8,Z,by rw[List.take_zero,AT];exact lC⟩ (fun j σ N _ ⟨_,_,_,h,_⟩=>SqT.of h) ?_ ?_⟩
    ·rintro j v σ N hv ⟨Bf,rfl,s9,oN,nJ,nH,ji,nu,gA,W⟩
     have hj2:j=0\/j=1:=by have:=(List.getElem?_eq_some_iff.mp hv).1;simp at this;(first|lia|omega)
     have I:∀xs,(HO.dT (cg (stds ps++[x.1,x.2].take j)))≠.tup xs:=by intro xs z;cases z
     have tk:∀{c:Addr}{xs:List V}{o:HO},N c=some (.tup xs)->upd N T o c=some (.tup xs):=fun{c xs o} e=>by
      rw[au (fun z=>by subst z;rw[W] at e;cases e)];exact e
     have nPs:PL≠T:=fun z=>by rw[z,W] at ji;cases ji
     rcases hj2 with rfl|rfl
     ·have e:V.ref a=v:=by simpa using hv
      subst e;refine⟨_,rfl,_,rfl,T,_,rfl,DPut.t (k:=x.1.map Sum.inl) W (by rw[AC];exact nJ) (zH (AB (iE _) (by simp;(first|lia|omega)))),⟨_,rfl,s9.then jX,tk oN,tk nJ,tk nH,by rw[au nPs];exact ji,Prs2.upd nu W I,Sec.upd gA W I pK,?_⟩⟩;rw[al,iF,AG];rfl
     ·have e:V.ref b=v:=by simpa using hv
      subst e;refine⟨_,rfl,_,rfl,T,_,rfl,DPut.t (k:=x.2.map Sum.inl) W (by rw[AC];exact nH) (zH (AB (iE _) (by simp;(first|lia|omega)))),⟨_,rfl,s9.then jX,tk oN,tk nJ,tk nH,by rw[au nPs];exact ji,Prs2.upd nu W I,Sec.upd gA W I pK,?_⟩⟩;rw[al,iF,AG];rfl
    ·rintro σ N ⟨Bf,rfl,s9,oN,nJ,nH,ji,nu,gA,W⟩
     refine⟨_,_,ps++[x],rfl,s9,ji,nu,gA,by rw[lh,oo];exact W,⟨fun y hy=>?_,?_,fF⟩,dZ (fun y hy=>Aw _ hy) (.inl (lj.mpr ⟨x,by simp,.inl rfl⟩))⟩
     ·rcases List.mem_append.mp hy with h|h
      ·exact S.has y h
      ·rw[List.mem_singleton.mp h];exact⟨qp,tX⟩
     ·rw[lh,oo,AM]
      refine⟨S.nd,by simpa using Pj tX,fun y hy z hz e=>?_⟩;subst e;have:y=x.1\/y=x.2:=by simpa using hz
      rcases this with rfl|rfl
      ·exact hn1 hy
      ·exact iM hy
   ·have hcl:=bn.length
    have uQ:=List.length_pos_iff.mpr fL.1;refine⟨D2,_,rfl,.inl (SqL.of kW),_,_,rfl,rfl,_,rfl,?_⟩;rw[Ab,hcl,decide_eq_true (show(0:Int)<((cs.length:Nat):Int) from ω)];have u:=O.trans s7;exact bu ⟨_,_,ps,rfl,s5.trans u,u _ _ kg,dS.same u,bV.same u,u _ _ eU,S,dZ (fun _ h=>h) (.inr (.inr (HX fL lu)))⟩
  ·rintro σ J ⟨v3,v4,ps,rfl,s5,kg,dS,bV,eU,S,mK⟩
   have fu:=dS.length;rw[Ab,fu,take_all] at mK;have k9:i9 (canon pss) ps:=fun x h1 h2=>mK x (IL.mpr ⟨h1,h2⟩);have hpl:=bg S;obtain⟨kvs,ek,hk⟩:=bV;have qB:=A1 hk;refine⟨_,rfl,d,_,rfl,ek,fun bs hb L hL=>?_⟩;have tb:Tps J bs (ps.map (·.1)):=by
    have:∀{kvs:List (List Key×V)}{ps:List Pq}{bs:List Addr},Paired (eP J) kvs ps->Paired (fun(p:List Key×V) b=>J b=some (.tup (p.1.map kV))) kvs bs->Tps J bs (ps.map (·.1)):=fun{kvs ps bs} h=>by
     induction h generalizing bs with
     |nil=>intro h2;cases h2;exact .nil
     |cons r t ih=>
      intro h2;cases h2 with
      |cons r2 t2=>
       refine .cons ?_ (ih t2);rw[r.1,AC] at r2;exact r2
    exact this hk hb
   have sL:=Same.new (o:=.lst (bs.map V.ref)) hL;have ki:=tb.length;rw[Ab] at ki;refine⟨L,bs,_,rfl,SqL.of al,sL.tps tb,by rw[Ab];(first|lia|omega),fun D H6 qs O hD fJ hp hs=>?_⟩;have hq:∀q∈qs,Tp H6 q.2 q.1:=fun q hq=>by
    obtain⟨m,em⟩:=List.mem_iff_getElem?.mp (hp.mem_iff.mp hq);rw[ck.cN] at em;cases e1:(ps.map (·.1))[m]? with
    |none=>rw[e1] at em;cases em
    |some f=>
     cases e2:bs[m]? with
     |none=>rw[e1,e2] at em;cases em
     |some b=>
      rw[e1,e2] at em;obtain rfl:(f,b)=q:=As em;exact O.tp (Ee (sL.tps tb) m b f e2 e1)
   have G:(qs.map (·.1)).Perm (ps.map (·.1)):=by
    have:=hp.map (·.1);rw[List.map_fst_zip (by rw[Ab];(first|lia|omega))] at this;exact this
   have hsort:(qs.map (·.1)).Pairwise (fun a b=>kle a b=true):=(List.pairwise_map.mpr hs).imp fun h=>nT.mpr h;have lV:H6 D=some (.lst ((qs.map (·.2)).map V.ref)):=by rw[fJ,AC];rfl
   have tq:Tps H6 (qs.map (·.2)) (qs.map (·.1)):=Ez hq;have oP:=sL.trans O;have r_:(qs.map (·.1)).length<=1000:=by rw[G.length_eq,Ab];(first|lia|omega)
   refine⟨D,rfl,⟨_,SqL.of lV⟩,fun D2 bL=>zB (Pk (SqL.of lV) tq (Sec.same (⟨kvs,ek,hk⟩:Sec J d ps) oP) (fun p cu=>G.mem_iff.mp cu) r_ bL fun M us xs s7 kW B7 lW dk=>?_)⟩;have tU:xs.Perm ps:=Pi dk (E1 S.nd) (by rw[lW];exact G);exact k D2 M us xs ((s5.trans oP).trans s7) ((s5.trans oP).free bL) kW B7 (Pf tU.symm S) (Pg tU.symm k9) (by rw[lW];exact hsort)
end
end K51
end
section
namespace L2
open PySem PySem.Spec PyProof.Rows
def Cl(P:Program)(w:World)(K:Ac)(mg:Str->Option Value)(base:Heap)(CX:eN)(x:Str)(ps:List Str)(k:Nat)(sp:Sp):Prop:=
 ∃(f:Addr)(fd:FuncData),PySem.W.keepIn K (.ref f)=true/\Binds K fd ps []/\mg x=some (.ref f)/\FnOk P w K mg base CX k f fd ps sp
section
variable{X:Cx}{CX:eN}{k n:Nat}{ps:List Str}{sp:Sp}{E:XK}{x:Str}{p pos:Pos}{e:Expr}{es:List Expr}{t:TA}
def zE(C:Cl X.prog X.w X.K X.mg X.base CX x ps k sp)(hr:Room n X.A)(c:Gl X x)(hx:c6 CX X E)(ha:PA X (e::es) t)(d:k<=n:=by decide)(g:(x==("__debug__":Str))=false:=by decide)
  (he:starEach (e::es) X.env=(false,eval e X.env)::starEach es X.env:=by rfl) (a:(backTo pos (starEach es X.env)).any (·.1)=false:=by rfl):PE X (.Call (.Name x p) (e::es) [] pos) (j8 sp [] E t):=by
 obtain⟨f,fd,hk,hb,hm,F⟩:=C;exact zo F (hr.mono d) c hm hk hb .nil hx ha g he a
end
section
variable{P:Program}{w:World}{K:Ac}{mg:Str->Option Value}{base:Heap}{CX:eN}{k:Nat}{f:Addr}{fd:FuncData}{x:Str}{st:Stmt}{ps:List Str}{sp sq:Sp}
def FnOk.or(F:FnOk P w K mg base CX k f fd ps sp)(G:FnOk P w K mg base CX k f fd ps sq):FnOk P w K mg base CX k f fd ps (fun vs H Q E=>sp vs H Q E\/sq vs H Q E):=
 ⟨fun vs H Q E h=>h.elim (F.len vs H Q E) (G.len vs H Q E),fun A outer s H args us vs Q E hr he hb a h=>h.elim (F.run A outer s H args us vs Q E hr he hb a) (G.run A outer s H args us vs Q E hr he hb a)⟩
def dr(F:Fun K x x st f fd)(b:Binds K fd ps [])(m:mg x=some (.ref f))(G:FnOk P w K mg base CX k f fd ps sp):Cl P w K mg base CX x ps k sp:=⟨f,fd,F.kp,b,m,G⟩
def ll(F:Fun K x x st f fd)(b:Binds K fd ps [])(m:mg x=some (.ref f))(G:FnOk P w K mg base aR k f fd ps sp)(a:FnOk P w K mg base (bF P w) k f fd ps sq):Cl P w K mg base (bF P w) x ps k (fun vs H Q E=>sp vs H Q E\/sq vs H Q E):=⟨f,fd,F.kp,b,m,G.cx1.or a⟩
structure Df(K:Ac)(x:Str)(st:Stmt)(f:Addr):Prop where
 ex:∃fd,Fun K x x st f fd
 a:PySem.W.nsIn K mainGlobals x=some (some (.ref f))
def Fg{i:Value}{j g:Option Addr}{h:Array (Option Value)}{kV d e cdv ct:Value}(a:PySem.W.nsIn K mainGlobals x=some (some (.ref f)))(l:K.lookup f=some ⟨i,j,.func (PySem.W.fnOf x x (zbA st) (zA st) (ze st) .none kV d e g cdv ct),h⟩)(c:PySem.W.codeIn K cdv x=true)(k:PySem.W.keepIn K (.ref f)=true):Df K x st f:=⟨⟨_,KH l c k⟩,a⟩
structure Nn(K:Ac)(x:Str)(v:Option Value):Prop where
 e:PySem.W.nsIn K mainGlobals x=some v
abbrev BA(x:Str)(st:Stmt)(us:List Value)(r:List (Str×Value)):Prop:=∀(kV bz pm:Value)(an:Option Addr)(cdv ct:Value),bindArgs (PySem.W.fnOf x x (zbA st) (zA st) (ze st) .none kV bz pm an cdv ct) ⟨us,[]⟩=pure r
variable{h:Heap}(X:K.In h)(G:h.Ns mainGlobals mg)
include X G
theorem Nn.m{v:Value}(n:Nn K x (some v)):mg x=some v:=PySem.W.mg_of X G n.e
theorem Nn.n(n:Nn K x none):mg x=none:=PySem.W.mg_none_of X G n.e
theorem Df.m(D:Df K x st f):mg x=some (.ref f):=PySem.W.mg_of X G D.a
theorem Df.g1(D:Df K x st f)(p:Str)(hb:∀a,BA x st [a] [(p,a)]:=by exact fun _ _ _ _ _ _ _=>rfl):∃fd,Fun K x x st f fd/\Binds K fd [p] []/\mg x=some (.ref f):=by
 obtain⟨⟨fd,F⟩,a⟩:=D;refine⟨fd,F,F.binds fun _ _ _ _ _ _ us c=>?_,PySem.W.mg_of X G a⟩
 match us,c with
 |[a],_=>exact hb a _ _ _ _ _ _
theorem Df.g2(D:Df K x st f)(p q:Str)(hb:∀a b,BA x st [a,b] [(p,a),(q,b)]:=by exact fun _ _ _ _ _ _ _ _=>rfl):∃fd,Fun K x x st f fd/\Binds K fd [p,q] []/\mg x=some (.ref f):=by
 obtain⟨⟨fd,F⟩,a⟩:=D;refine⟨fd,F,F.binds fun _ _ _ _ _ _ us c=>?_,PySem.W.mg_of X G a⟩
 match us,c with
 |[a,b],_=>exact hb a b _ _ _ _ _ _
theorem Df.g3(D:Df K x st f)(p q r:Str)(hb:∀a b c,BA x st [a,b,c] [(p,a),(q,b),(r,c)]:=by exact fun _ _ _ _ _ _ _ _ _=>rfl):∃fd,Fun K x x st f fd/\Binds K fd [p,q,r] []/\mg x=some (.ref f):=by
 obtain⟨⟨fd,F⟩,a⟩:=D;refine⟨fd,F,F.binds fun _ _ _ _ _ _ us d=>?_,PySem.W.mg_of X G a⟩
 match us,d with
 |[a,b,c],_=>exact hb a b c _ _ _ _ _ _
theorem Df.g4(D:Df K x st f)(p q r s:Str)(hb:∀a b c d,BA x st [a,b,c,d] [(p,a),(q,b),(r,c),(s,d)]:=by exact fun _ _ _ _ _ _ _ _ _ _=>rfl):∃fd,Fun K x x st f fd/\Binds K fd [p,q,r,s] []/\mg x=some (.ref f):=by
 obtain⟨⟨fd,F⟩,a⟩:=D;refine⟨fd,F,F.binds fun _ _ _ _ _ _ us e=>?_,PySem.W.mg_of X G a⟩
 match us,e with
 |[a,b,c,d],_=>exact hb a b c d _ _ _ _ _ _
theorem Df.g5(D:Df K x st f)(p q r s u:Str)(hb:∀a b c d e,BA x st [a,b,c,d,e] [(p,a),(q,b),(r,c),(s,d),(u,e)]:=by exact fun _ _ _ _ _ _ _ _ _ _ _=>rfl):∃fd,Fun K x x st f fd/\Binds K fd [p,q,r,s,u] []/\mg x=some (.ref f):=by
 obtain⟨⟨fd,F⟩,a⟩:=D;refine⟨fd,F,F.binds fun _ _ _ _ _ _ us g=>?_,PySem.W.mg_of X G a⟩
 match us,g with
 |[a,b,c,d,e],_=>exact hb a b c d e _ _ _ _ _ _
omit X G
theorem Pm{C:Addr}(a:PySem.W.findIn K (.ref C) "__getattribute__"=some (some (.builtin "BaseException.__getattribute__")))(b:PySem.W.findIn K (.ref C) "__getattr__"=some none)(q:PySem.W.excIn K C hV "ValueError.__new__"=true)(c:PySem.W.findIn K (.ref C) "__class__"=some (some (.builtin "object.__class__")))(d:PySem.W.specialIn K (.builtin "object.__class__") "__get__"=some (some (.builtin "getset_descriptor.__get__")))(e:PySem.W.takesIn K (.builtin "object.__class__")=some true)(f:PySem.W.mroIn K C (.type "object")=some true)(g:PySem.W.mroIn K C (.type "BaseException")=some true):eH K C:=
 ⟨a,b,O5 q,c,d,e,f,g⟩
end
end L2
end
section
namespace K51
open K1
open PySem L2 STb
abbrev Fh:Stmt:=top 24
section
variable{P:Program}{w:World}{K:Ac}{mg:Str->Option Value}{base:Heap}{f fW fC fP fN:Addr}{fd:FuncData}
def IQ:zl ["web","piece","every"] ["web","piece"] (ze Fh):=⟨rfl,rfl,rfl,δ,rfl,δ,δ⟩
abbrev QX(K:Ac)(C:Addr):Prop:=PySem.W.excIn K C hV "ValueError.__new__"=true
abbrev C1(P:Program)(w:World)(K:Ac)(mg:Str->Option Value)(base:Heap)(x:Str)(ps:List Str)(k:Nat)(sp sq:Sp):Prop:=Cl P w K mg base (bF P w) x ps k fun vs H Q E=>sp vs H Q E\/sq vs H Q E
def Bad(K:Ac)(fW:Addr)(H:Hp)(l:Addr)(E:XK):Prop:=∃as pss,SqL K H l (as.map V.ref)/\Tps H as pss/\(pss.all zF=true->(dd (pss.flatMap parts)).length<1000)/\a' pss=false/\∀H1,Same H H1->∀x,H1 x=none->E (.ref x) (some fW) H1
def Bad.same{H H':Hp}{l:Addr}{E:XK}(h:Bad K fW H l E)(s:Same H H'):Bad K fW H' l E:=let ⟨as,pss,a,b,c,d,k⟩:=h;⟨as,pss,s.seq a,s.tps b,c,d,fun H1 e=>k H1 (s.trans e)⟩
def eR(K:Ac)(fW:Addr):Sp:=fun vs H Q E=>∃l,vs=[.ref l]/\Bad K fW H l E
def jL(K:Ac)(fW:Addr):Sp:=fun vs H Q E=>∃l v,vs=[.ref l,v]/\Bad K fW H l E
def Pn(F:Fun K "must_be_web" "must_be_web" qi f fd)(o:mg "NoWeb"=some (.ref fW))(p:QX K fW)(q:Cl P w K mg base aR "is_web" ["web"] 6 (Eu K)):FnOk P w K mg base (bF P w) 7 f fd ["web"] (eR K fW):=by
 refine F.ok1 HM (fun vs H Q E h=>?_) (fun cdv A outer s H vs Q E hr h=>?_)
 ·obtain⟨l,rfl,_⟩:=h;rfl
 ·obtain⟨l,rfl,as,pss,i,ht,j,hw,k⟩:=h
  refine⟨_,zg (zU (mG (jh (zE q hr rfl aF (ae (pv 0) ap))))
   (zg (E6 (C:=fW) (EX:=E) rfl rfl o p (fun aa σ H' s' x I hx c hs d=>ww I hx c hs (fun a e=>nomatch e) d))) zq),?_⟩
  refine⟨_,rfl,l,as,pss,rfl,i,ht,j,fun H1 g=>⟨_,rfl,?_⟩⟩;rw[hw];exact bu fun x hx=>k H1 g x hx
def Po(F:Fun K "pieces" "pieces" k7 f fd)(a:C1 P w K mg base "must_be_web" ["web"] 7 (EA K) (eR K fW)):FnOk P w K mg base (bF P w) 8 f fd ["web"] (eR K fW):=by
 refine F.ok1 HL (fun vs H Q E h=>?_) (fun cdv A outer s H vs Q E hr h=>?_)
 ·obtain⟨l,rfl,_⟩:=h;rfl
 ·obtain⟨l,rfl,hb⟩:=h
  exact⟨_,zd (zN (zE a hr rfl (bh (E:=E)) (ae (pv 0) ap))) zY,⟨_,rfl,.inr ⟨l,rfl,hb⟩⟩⟩
def IR(K:Ac)(fP:Addr)(H:Hp)(l:Addr)(v:V)(E:XK):Prop:=∃a as pss p,v=.ref a/\SqL K H l (as.map V.ref)/\Tps H as pss/\eD pss/\Tp H a p/\p∉canon pss/\∀H1,Same H H1->∀x,H1 x=none->E (.ref x) (some fP) H1
def wG(K:Ac)(fW fP:Addr):Sp:=fun vs H Q E=>∃l v,vs=[.ref l,v]/\(Bad K fW H l E\/IR K fP H l v E)
def Ps(F:Fun K "pieces_about" "pieces_about" Fh f fd)(r:mg "NoPiece"=some (.ref fP))(u:QX K fP)(y:C1 P w K mg base "pieces" ["web"] 8 (iK K) (eR K fW)):FnOk P w K mg base (bF P w) 9 f fd ["web","piece"] (wG K fW fP):=by
 refine F.ok1 IQ (fun vs H Q E h=>?_) (fun cdv A outer s H vs Q E hr h=>?_)
 ·obtain⟨l,v,rfl,_⟩:=h;rfl
 ·obtain⟨l,v,rfl,hb⟩:=h
  have q:=hr.units;refine⟨_,zd (zk (i:=2) IQ.nd rfl (Or.inl rfl) (zE y hr rfl (bh (E:=E)) (ae (pv 0) ap)))
   (zd (zU (zn (Lv (in1_units q)) (pv 1) (pv 2) (by with_unfolding_all rfl)) (zg (E6 (C:=fP) (EX:=E) rfl rfl r u (fun aa σ H' s' x I hx d hs g=>ww I hx d hs (fun a e=>nomatch e) g))) zq) zY),?_⟩
  rcases hb with hb|⟨a,as,pss,p,rfl,o,ht,hw,ha,hp,k⟩
  ·exact⟨_,rfl,.inr ⟨l,rfl,hb⟩⟩
  ·refine⟨_,rfl,.inl ⟨l,as,pss,rfl,o,ht,hw,fun D H2 bs c z j hb=>⟨_,rfl,_,rfl,a,D,p,bs,canon pss,rfl,rfl,c.tp ha,SqL.of j,hb,_,rfl,?_⟩⟩⟩
   rw[if_pos rfl,decide_eq_false hp];exact bu fun x hx=>k H2 c x hx
end
end K51
end
section
namespace L2
open PySem PySem.Spec PyProof.Rows
def Pt{X:Cx}{tg iter:Expr}{body:List Stmt}{te:TE}{pos:Pos}(hi:PE X iter te)(hs:∀x,foldedSetIterable iter X.env x=pure x:=by intro _;rfl):PS X (.For tg iter body [] pos) (fun _ σ H=>te σ H fun _ _=>False):=by
 intro aa s σ H D I h;exact wpAny_For (aX (hi aa s σ H _ I h) fun v a ⟨x,H1,d,c,q⟩=>q.elim) hs
end L2
namespace K51
open K1
open PySem L2 STb
abbrev wN:Stmt:=top 26
abbrev Fm:Stmt:=top 28
abbrev wO:Stmt:=top 30
abbrev wQ:Stmt:=top 31
def gg{pss:Ξ}(hw:a' pss=true):eD pss/\(canon pss).length<=200/\∀p∈canon pss,p.length<=5:=by
 have h:=(nZ hw).2.2.2;rw[<-nW] at h;exact⟨⟨hw,ω⟩,h,fun p hp=>(iI.mp (li hw hp)).2.1⟩
section
variable{P:Program}{w:World}{K:Ac}{mg:Str->Option Value}{base:Heap}{f fW fP fC:Addr}{fd:FuncData}
def Web(K:Ac)(H:Hp)(l:Addr)(pss:Ξ):Prop:=∃as,SqL K H l (as.map V.ref)/\Tps H as pss/\a' pss=true
def Web.same{H H':Hp}{l:Addr}{pss:Ξ}(h:Web K H l pss)(s:Same H H'):Web K H' l pss:=let ⟨as,a,b,c⟩:=h;⟨as,s.seq a,s.tps b,c⟩
def i'(K:Ac):Sp:=fun vs H Q _=>∃l pss,vs=[.ref l]/\Web K H l pss/\∀v H',Same H H'->Q v H'
def rv:zl ["web"] ["web"] (ze wN):=⟨rfl,rfl,rfl,δ,rfl,δ,δ⟩
def Pu(F:Fun K "free_pairs" "free_pairs" wN f fd)(p:Cl P w K mg base aR "pieces" ["web"] 8 (iK K))(q:Cl P w K mg base aR "free_among" ["every"] 2 (vT K)):FnOk P w K mg base aR 9 f fd ["web"] (i' K):=by
 refine F.ok rv (fun vs H Q E h=>?_) (fun cdv A outer s H vs Q E hr h=>?_)
 ·obtain⟨l,pss,rfl,_⟩:=h;rfl
 ·obtain⟨l,pss,rfl,⟨as,e,ht,hw⟩,k⟩:=h
  obtain⟨g,i,j⟩:=gg hw;refine⟨_,zg (zm (zE q hr rfl aF (ae (zE p hr rfl aF (ae (pv 0) ap)) ap))),?_⟩;exact⟨_,rfl,l,as,pss,rfl,e,ht,g,fun D H2 bs a _ c hb=>⟨D,bs,canon pss,rfl,SqL.of c,hb,j,i,fun r o ts d _ _ _=>k _ o (a.trans d)⟩⟩
def Pv(F:Fun K "free_pairs" "free_pairs" wN f fd)(a:Cl P w K mg base (bF P w) "pieces" ["web"] 8 (eR K fW))(c:Cl P w K mg base aR "free_among" ["every"] 2 (vT K)):FnOk P w K mg base (bF P w) 9 f fd ["web"] (eR K fW):=by
 refine F.ok1 rv (fun vs H Q E h=>?_) (fun cdv A outer s H vs Q E hr h=>?_)
 ·obtain⟨l,rfl,_⟩:=h;rfl
 ·obtain⟨l,rfl,hb⟩:=h
  exact⟨_,zg (zm (zE c hr rfl aF (ae (zE a hr rfl (bh (E:=E)) (ae (pv 0) ap)) ap))),⟨_,rfl,l,rfl,hb⟩⟩
def IS:zl ["web","piece","every","pair"] ["web","piece"] (ze Fm):=⟨rfl,rfl,rfl,δ,rfl,δ,δ⟩
def Pw(F:Fun K "pushed" "pushed" Fm f fd)(a:Cl P w K mg base (bF P w) "pieces_about" ["web","piece"] 9 (wG K fW fP)):FnOk P w K mg base (bF P w) 10 f fd ["web","piece"] (wG K fW fP):=by
 refine F.ok1 IS (fun vs H Q E h=>?_) (fun cdv A outer s H vs Q E hr h=>?_)
 ·obtain⟨l,v,rfl,_⟩:=h;rfl
 ·obtain⟨l,v,rfl,hb⟩:=h
  exact⟨_,zd (zk (i:=2) IS.nd rfl (Or.inl rfl) (zE a hr rfl (bh (E:=E)) (ae (pv 0) (ae (pv 1) ap)))) zY,⟨_,rfl,_,rfl,l,v,rfl,hb⟩⟩
def jN:zl ["web","left","row","free"] ["web"] (ze wO):=⟨rfl,rfl,rfl,δ,rfl,δ,δ⟩
def Px{L:Ξ}{z:Pp}(h:z∈gJ (eM L) L):(L.filter fun x=>!decide (x=z.1\/x=z.2)).length<L.length:=by
 unfold gJ at h;obtain⟨p,hp,rfl⟩:=List.mem_map.mp h;have a:p∈L:=(List.mem_filter.mp hp).1;refine List.length_filter_lt_length_iff_exists.mpr ⟨p,a,?_⟩;simp[EH]
def Py(F:Fun K "pushes" "pushes" wO f fd)(B:Bt mg)(Cp:Cl P w K mg base aR "pieces" ["web"] 8 (iK K))(Cf:Cl P w K mg base aR "free_among" ["every"] 2 (vT K))(Ct:Cl P w K mg base aR "taken_out" ["every","pair"] 1 (HW K))(Cg:Cl P w K mg base aR "greatest_of" ["every"] 5 (HP K)):FnOk P w K mg base aR 9 f fd ["web"] (i' K):=by
 refine F.ok jN (fun vs H Q E h=>?_) (fun cdv A outer s H vs Q E hr h=>?_)
 ·obtain⟨l,pss,rfl,_⟩:=h;rfl
 ·obtain⟨l,pss,rfl,⟨as,hl,ht,hw⟩,k⟩:=h
  obtain⟨ws,bE,h5⟩:=gg hw;refine⟨_,zd (zk (i:=1) jN.nd rfl (Or.inl rfl) (zE Cp hr rfl aF (ae (pv 0) ap)))
   (zd (zk (i:=2) jN.nd rfl (Or.inl rfl) (zr ap))
   (zd (zk (i:=3) jN.nd rfl (Or.inl rfl) (zE Cf hr rfl aF (ae (pv 1) ap)))
   (zd (yy AE (zn jn (zw zp rfl B.len ei (ae (pv 3) ap)) zf (aK _))
    (zd (zN (eY AN PySem.F.slot_list_append PySem.F.type_list_append kd (pv 2) (ae (cK zZ (pv 3) zf (fun _ _=>rfl)) ap)))
    (zd (zk (i:=1) jN.nd rfl (Or.inl rfl) (zE Ct hr rfl aF (ae (pv 1) (ae (cK zZ (pv 3) zf (fun _ _=>rfl)) ap))))
    (zg (zk (i:=3) jN.nd rfl (Or.inl rfl) (zE Cf hr rfl aF (ae (pv 1) ap)))))))
   (zg (zm (zx (ae (pv 2) (ae (zE Cg hr rfl aF (ae (pv 1) ap)) ap)))))))),?_⟩
  refine⟨_,rfl,l,as,pss,rfl,hl,ht,ws,fun e H1 ls s1 _ N v=>⟨aq (by simp),fun a O=>?_⟩⟩;have y:=Same.new (o:=.lst []) O;have S:e≠a:=zh N O;refine⟨_,rfl,e,ls,canon pss,rfl,SqL.of (y _ _ N),y.tps v,h5,bE,fun g H2 fs I qa yP jd=>?_⟩;have U:g≠a:=Ne.symm (zh al qa);refine⟨fun m σ c=>∃(e g:Addr)(ls fs d:List Addr)(L:Ξ),m=L.length/\σ=[some (.ref l),some (.ref e),some (.ref a),some (.ref g)]/\Same H c/\e≠a/\g≠a/\c e=some (.lst (ls.map V.ref))/\Tps c ls L/\c a=some (.lst (d.map V.ref))/\c g=some (.lst (fs.map V.ref))/\Prs2 c fs (gJ (eM L) L)/\(∀p∈L,p.length<=5)/\d.length+L.length<=200,
   ⟨_,e,g,ls,fs,[],canon pss,rfl,rfl,(s1.trans y).trans I,S,U,I _ _ (y _ _ N),I.tps (y.tps v),I _ _ al,yP,jd,h5,by simpa using bE⟩,?_⟩
  have Y:H a=none:=s1.free O;rintro m σ c ⟨e,g,ls,fs,d,L,rfl,rfl,s3,S,U,hA,rF,hR,W,u,X,hlen⟩;have jQ:=u.length;refine⟨_,rfl,g,_,rfl,.inl (SqL.of W),_,_,rfl,rfl,_,rfl,?_⟩;rw[Ab,jQ];cases hfr:gJ (eM L) L with
  |nil=>
   exact a9 ⟨_,rfl,_,rfl,e,ls,L,rfl,SqL.of hA,rF,X,ω,fun TD H5 x=>⟨aq (by simp),fun T hT=>k _ _ ((s3.trans x).trans (Same.new hT))⟩⟩
  |cons z r=>
   rw[hfr] at u jQ;rw[decide_eq_true (show(0:Int)<(((z::r).length:Nat):Int) by rw[Am];(first|lia|omega))];have hz:z∈gJ (eM L) L:=by rw[hfr];exact Ar
   have Z:=Px hz;refine bu ⟨_,fun ak H' h=>h,?_⟩;cases u with
   |@cons t _ pe _ ht hfs'=>
   refine⟨_,rfl,.inl ⟨rfl,_,SqL.of hR⟩,_,rfl,g,_,_,_,rfl,rfl,SqL.of W,zD (j:=0) rfl,a,_,_,rfl,rfl,hR,by rw[Ab];exact zH ω,?_⟩;have nn:∀xs:List V,HO.lst (d.map V.ref)≠.tup xs:=by intro xs z;cases z
   have C:upd c a (.lst (d.map V.ref++[.ref t])) e=some (.lst (ls.map V.ref)):=by rw[au S];exact hA
   have G:upd c a (.lst (d.map V.ref++[.ref t])) g=some (.lst ((t::pe).map V.ref)):=by rw[au U];exact W
   have q:Tps (upd c a (.lst (d.map V.ref++[.ref t]))) ls L:=Tps.upd rF hR nn;have js:Pr2 (upd c a (.lst (d.map V.ref++[.ref t]))) t z:=Pr2.upd ht hR nn;have M:upd c a (.lst (d.map V.ref++[.ref t])) a=some (.lst ((d++[t]).map V.ref)):=by rw[al,Ah];rfl
   have s4:Same H (upd c a (.lst (d.map V.ref++[.ref t]))):=s3.then Y;generalize upd c a (.lst (d.map V.ref++[.ref t]))=H4 at C G q js M s4;refine⟨_,rfl,_,rfl,g,_,_,_,rfl,rfl,SqL.of G,zD (j:=0) rfl,e,t,ls,L,z,rfl,SqL.of C,q,ω,js,fun D H5 bs x bU cC nE=>?_⟩;refine⟨_,rfl,D,bs,_,rfl,SqL.of cC,nE,fun p hp=>X p (List.mem_filter.mp hp).1,ω,fun D2 H6 ts J qX pD vQ=>?_⟩;exact⟨_,Z,D,D2,bs,ts,d++[t],_,rfl,rfl,(s4.trans x).trans J,Ne.symm (zh M bU),Ne.symm (zh (x _ _ M) qX),J _ _ cC,J.tps nE,J _ _ (x _ _ M),pD,vQ,fun p hp=>X p (List.mem_filter.mp hp).1,by rw[Af,AK];(first|lia|omega)⟩
def Pz(F:Fun K "pushes" "pushes" wO f fd)(a:Cl P w K mg base (bF P w) "pieces" ["web"] 8 (eR K fW)):FnOk P w K mg base (bF P w) 9 f fd ["web"] (eR K fW):=by
 refine F.ok1 jN (fun vs H Q E h=>?_) (fun cdv A outer s H vs Q E hr h=>?_)
 ·obtain⟨l,rfl,_⟩:=h;rfl
 ·obtain⟨l,rfl,hb⟩:=h
  exact⟨_,zd (zk (i:=1) jN.nd rfl (Or.inl rfl) (zE a hr rfl (bh (E:=E)) (ae (pv 0) ap))) zY,⟨_,rfl,l,rfl,hb⟩⟩
abbrev PB:List Str:=["web","pairs","other","left","goal","pair"]
def lm:zl PB ["web","pairs","other"] (ze wQ):=⟨rfl,rfl,rfl,δ,rfl,δ,δ⟩
def IT(K:Ac):Sp:=fun vs H Q _=>∃l m o pss a,vs=[.ref l,.ref m,.ref o]/\Web K H l pss/\Web K H o a/\SqL K H m []/\∀v H',Same H H'->Q v H'
def PD(F:Fun K "is_pushed" "is_pushed" wQ f fd)(u:Cl P w K mg base aR "pieces" ["web"] 8 (iK K)):FnOk P w K mg base aR 9 f fd ["web","pairs","other"] (IT K):=by
 refine F.ok lm (fun vs H Q E h=>?_) (fun cdv A outer s H vs Q E hr h=>?_)
 ·obtain⟨l,m,o,pss,j,rfl,_⟩:=h;rfl
 ·obtain⟨l,m,o,pss,j,rfl,⟨as,D,ht,hw⟩,⟨os,G,I,J⟩,hm,k⟩:=h
  have L:=hr.units;refine⟨_,zd (zk (i:=3) lm.nd rfl (Or.inl rfl) (zE u hr rfl aF (ae (pv 0) ap)))
   (zd (zk (i:=4) lm.nd rfl (Or.inl rfl) (zE u hr rfl aF (ae (pv 2) ap)))
   (zd (zV AE rfl (zv (pv 1)) (zi (i:=5) lm.nd rfl (Or.inl rfl)) zY)
   (zg (zm (mS (G7 L) (pv 3) (pv 4) (aK _)))))),?_⟩
  refine⟨_,rfl,l,as,pss,rfl,D,ht,(gg hw).1,fun q H1 ls d _ v e=>?_⟩;refine⟨_,rfl,o,os,j,rfl,d.seq G,d.tps I,(gg J).1,fun r H2 y g _ z C=>?_⟩;have p:=d.trans g;refine⟨_,rfl,m,rfl,⟨_,p.seq hm⟩,zK (K:=K) (a:=m) (xs:=[]) (fun i σ c=>σ=[some (.ref l),some (.ref m),some (.ref o),some (.ref q),some (.ref r),none]/\c=H2) ⟨rfl,rfl⟩ (fun i σ c _ h=>by rw[h.2];exact p.seq hm) (fun i x σ c hx _=>nomatch hx) ?_⟩;rintro σ c ⟨rfl,rfl⟩;exact⟨_,rfl,_,rfl,.inr ⟨q,r,ls,y,canon pss,canon j,rfl,rfl,SqL.of (g _ _ v),g.tps e,SqL.of z,C,k _ _ p⟩⟩
def IU(K:Ac)(fW:Addr):Sp:=fun vs H Q E=>∃l v o,vs=[.ref l,v,.ref o]/\(Bad K fW H l E\/(∃pss,Web K H l pss)/\Bad K fW H o E)
def PF(F:Fun K "is_pushed" "is_pushed" wQ f fd)(a:C1 P w K mg base "pieces" ["web"] 8 (iK K) (eR K fW)):FnOk P w K mg base (bF P w) 9 f fd ["web","pairs","other"] (IU K fW):=by
 refine F.ok1 lm (fun vs H Q E h=>?_) (fun cdv A outer s H vs Q E hr h=>?_)
 ·obtain⟨l,v,o,rfl,_⟩:=h;rfl
 ·obtain⟨l,v,o,rfl,hb⟩:=h
  refine⟨_,zd (zk (i:=3) lm.nd rfl (Or.inl rfl) (zE a hr rfl (bh (E:=E)) (ae (pv 0) ap)))
   (zd (zk (i:=4) lm.nd rfl (Or.inl rfl) (zE a hr rfl (bh (E:=E)) (ae (pv 2) ap))) zY),?_⟩
  rcases hb with hb|⟨⟨pss,as,d,ht,hw⟩,hb⟩
  ·exact⟨_,rfl,.inr ⟨l,rfl,hb⟩⟩
  ·exact⟨_,rfl,.inl ⟨l,as,pss,rfl,d,ht,(gg hw).1,fun D H2 bs c _ _ _=>⟨_,rfl,.inr ⟨o,rfl,hb.same c⟩⟩⟩⟩
def PH(F:Fun K "judged" "judged" qQ f fd)(a:Cl P w K mg base aR "first_bad" ["every","pairs"] 3 (E2 K))(c:Cl P w K mg base (bF P w) "pieces" ["web"] 8 (eR K fW)):FnOk P w K mg base (bF P w) 9 f fd ["web","pairs"] (jL K fW):=by
 refine F.ok1 q4 (fun vs H Q E h=>?_) (fun cdv A outer s H vs Q E hr h=>?_)
 ·obtain⟨l,v,rfl,_⟩:=h;rfl
 ·obtain⟨l,v,rfl,hb⟩:=h
  exact⟨_,zd (zk (i:=2) q4.nd rfl (Or.inl rfl) (zE a hr rfl aF (ae (zE c hr rfl (bh (E:=E)) (ae (pv 0) ap)) (ae (pv 1) ap)))) zY,⟨_,rfl,l,rfl,hb⟩⟩
def PJ(F:Fun K "pairing" "pairing" oA f fd)(a:Cl P w K mg base aR "pairs_of" ["every"] 2 (E_ K))(c:Cl P w K mg base (bF P w) "pieces" ["web"] 8 (eR K fW)):FnOk P w K mg base (bF P w) 9 f fd ["web"] (eR K fW):=by
 refine F.ok1 jH (fun vs H Q E h=>?_) (fun cdv A outer s H vs Q E hr h=>?_)
 ·obtain⟨l,rfl,_⟩:=h;rfl
 ·obtain⟨l,rfl,hb⟩:=h
  refine⟨_,zd (zk (i:=1) jH.nd rfl (Or.inr rfl) zX) (zd (zk (i:=2) jH.nd rfl (Or.inr rfl) zX) (zd (Pt (zE a hr rfl aF (ae (zE c hr rfl (bh (E:=E)) (ae (pv 0) ap)) ap))) zY)),?_⟩;exact fun d hd e he=>⟨_,rfl,l,rfl,(hb.same (Same.new hd)).same (Same.new he)⟩
def PK(F:Fun K "left_over" "left_over" ou f fd)(a:Cl P w K mg base (bF P w) "judged" ["web","pairs"] 9 (jL K fW)):FnOk P w K mg base (bF P w) 10 f fd ["web","pairs"] (jL K fW):=by
 refine F.ok1 re (fun vs H Q E h=>?_) (fun cdv A outer s H vs Q E hr h=>?_)
 ·obtain⟨l,v,rfl,_⟩:=h;rfl
 ·obtain⟨l,v,rfl,hb⟩:=h
  exact⟨_,zd (zU (zn ij (zE a hr rfl (bh (E:=E)) (ae (pv 0) (ae (pv 1) ap))) (zx (ae pe_str ap)) (aK _)) zY zq) zY,⟨_,rfl,_,rfl,l,v,rfl,hb⟩⟩
def PM(F:Fun K "thin_seams" "thin_seams" rg f fd)(a:Cl P w K mg base (bF P w) "left_over" ["web","pairs"] 10 (jL K fW)):FnOk P w K mg base (bF P w) 11 f fd ["web","pairs"] (jL K fW):=by
 refine F.ok1 ro (fun vs H Q E h=>?_) (fun cdv A outer s H vs Q E hr h=>?_)
 ·obtain⟨l,v,rfl,_⟩:=h;rfl
 ·obtain⟨l,v,rfl,hb⟩:=h
  exact⟨_,zd (zk (i:=2) ro.nd rfl (Or.inl rfl) (zE a hr rfl (bh (E:=E)) (ae (pv 0) (ae (pv 1) ap)))) zY,⟨_,rfl,_,rfl,l,v,rfl,hb⟩⟩
end
end K51
end
section
namespace K51
open K1
open PySem L2
abbrev wT:Stmt:=top 58
def Fn(C:Addr)(i:Nat)(b:Bool):TE:=fun σ H Q=>∃x,σ[i]?=some (some (.ref x))/\H x=some (eQ x C)/\Q (.bl b) H
section
variable{X:Cx}
def oB{n a:Str}{i:Nat}{C fC:Addr}{b:Bool}{q1 d f pos:Pos}(g:eH X.K C)(y:A4 X.K (.ref C) (.ref fC)=some b)(j:X.mg "isinstance"=none)(l:X.mg a=some (.ref fC))(o:Gl X "isinstance")(r:Gl X a)(he:PE X (.Name n d) (aM i))(p:(a==("__debug__":Str))=false:=by decide):PE X (.Call (.Name "isinstance" q1) [.Name n d,.Name a f] [] pos) (Fn C i b):=by
 intro aa s σ H Q I h;obtain⟨x,e,hx,q⟩:=h;refine(show PE X _ _ from zw (IF (c:=.ref fC) (fun u h=>h) g y) o j Hw (ae he (ae (mw (v:=.ref fC) r l rfl (hd:=p)) ap))) aa s σ H Q I ?_;exact⟨_,e,x,rfl,hx,q⟩
end
structure Mk(K:Ac)(C f0 f1 f2 f3 f4 f5:Addr)(b0 b1 b2:Bool):Prop where
 xc:eH K C
 y0:A4 K (.ref C) (.ref f0)=some b0
 y1:A4 K (.ref C) (.ref f1)=some b1
 y2:A4 K (.ref C) (.ref f2)=some b2
 y3:A4 K (.ref C) (.ref f3)=some false
 y4:A4 K (.ref C) (.ref f4)=some false
 y5:A4 K (.ref C) (.ref f5)=some false
 yv:A4 K (.ref C) (.type "ValueError")=some true
section
variable{P:Program}{w:World}{K:Ac}{mg:Str->Option Value}{base:Heap}
def Wc(K:Ac)(f0 f1 f2 f3 f4 f5 C:Addr)(t:Str):Prop:=∃a c d,Mk K C f0 f1 f2 f3 f4 f5 a c d/\((a=true/\c=false/\d=false/\t="web")\/(a=false/\c=true/\d=false/\t="piece")\/(a=false/\c=false/\d=true/\t="push"))
def IV(K:Ac)(f0 f1 f2 f3 f4 f5:Addr):Sp:=fun vs H Q _=>∃x C t,vs=[.ref x]/\Wc K f0 f1 f2 f3 f4 f5 C t/\H x=some (eQ x C)/\∀H',Same H H'->Q (.str t) H'
def Fu:zl ["e","marks"] ["e"] (ze wT):=⟨rfl,rfl,rfl,δ,rfl,δ,δ⟩
def PN{f f0 f1 f2 f3 f4 f5:Addr}{fd:FuncData}(F:Fun K "_law_which" "_law_which" wT f fd)(q:mg "isinstance"=none)(O:mg "ValueError"=none)(S:mg "NoWeb"=some (.ref f0))(T:mg "NoPiece"=some (.ref f1))(U:mg "NoPush"=some (.ref f2))(W:mg "NoOrder"=some (.ref f3))(X:mg "NoNumber"=some (.ref f4))(Y:mg "NoChain"=some (.ref f5))
 :q8 P w K mg base 1 f fd ["e"] (IV K f0 f1 f2 f3 f4 f5):=by
 refine F.okN Fu (fun vs H Q E h=>?_) (fun cdv A outer s H vs Q E hr h=>?_)
 ·obtain⟨x,C,t,rfl,_⟩:=h;rfl
 ·obtain⟨x,C,t,rfl,⟨z,D,G,M,hb⟩,hx,k⟩:=h
  refine⟨_,zd (zk (i:=1) Fu.nd rfl (Or.inl rfl) (zr (ae (oB M.xc M.y0 q S rfl rfl (pv 0)) (ae (oB M.xc M.y1 q T rfl rfl (pv 0)) (ae (oB M.xc M.y2 q U rfl rfl (pv 0)) (ae (oB M.xc M.y3 q W rfl rfl (pv 0)) ap))))))
   (zd (zk (i:=1) Fu.nd rfl (Or.inl rfl) (zu iu (pv 1) (zr (ae (oB M.xc M.y4 q X rfl rfl (pv 0)) (ae (oB M.xc M.y5 q Y rfl rfl (pv 0)) ap)))))
   (zd (zU (PW.pt (mE (zn ij (eY AN PySem.F.slot_list_count PySem.F.type_list_count O2 (pv 1) (ae ej ap)) zf (aK _)) (mx (mG (jh (zw (IF (c:=.ty "ValueError") (fun u h=>h) M.xc M.yv) rfl q Hw (ae (pv 0) (ae (Jw (v:=.ty "ValueError") rfl O PyProof.Rows.Boot.«ValueError» rfl) ap))))))))
     (zg (zm pe_str)) zq)
    (zg (zm (cK zZ (zr (ae pe_str (ae pe_str (ae pe_str (ae pe_str (ae pe_str (ae pe_str ap))))))) (eY AN PySem.F.slot_list_index PySem.F.type_list_index O3 (pv 1) (ae ej ap)) (fun _ _=>rfl)))))),?_⟩
  refine⟨x,rfl,hx,x,rfl,hx,x,rfl,hx,x,rfl,hx,aq (by simp),fun p hp=>?_⟩;have I:=Same.new (o:=.lst [.bl z,.bl D,.bl G,.bl false]) hp;refine⟨_,rfl,x,rfl,I _ _ hx,x,rfl,I _ _ hx,aq (by simp),fun p2 J=>?_⟩;have N:=I.trans (Same.new (o:=.lst [.bl false,.bl false]) J);refine⟨p,p2,_,_,rfl,rfl,(Same.new J) _ _ al,al,aq (by simp),fun l L=>?_⟩;have r:=N.trans (Same.new (o:=.lst [.bl z,.bl D,.bl G,.bl false,.bl false,.bl false]) L);have d:=al (H:=upd (upd H p (.lst [.bl z,.bl D,.bl G,.bl false])) p2 (.lst [.bl false,.bl false])) (a:=l) (o:=.lst [.bl z,.bl D,.bl G,.bl false,.bl false,.bl false]);rcases hb with ⟨rfl,rfl,rfl,rfl⟩|⟨rfl,rfl,rfl,rfl⟩|⟨rfl,rfl,rfl,rfl⟩
  ·refine⟨_,rfl,.inl ⟨rfl,_,SqL.of d⟩,l,_,.bl true,rfl,rfl,d,rfl,?_⟩
   refine⟨rfl,rfl,false,(by first|rfl|decide),a9 ⟨_,rfl,x,rfl,r _ _ hx,?_⟩⟩;refine⟨true,rfl,a9 ⟨aq (by simp),fun y g=>?_⟩⟩;have j:=(Same.new (o:=.lst [.str "web",.str "piece",.str "push",.str "order",.str "number",.str "chain"]) g) _ _ d;refine⟨_,rfl,.inl ⟨rfl,_,SqL.of j⟩,l,_,.bl true,0,rfl,rfl,j,ξ,rfl,ξ,ξ,(fun m hm=>?_),y,_,0,_,rfl,rfl,SqL.of al,rfl,k _ (r.trans (Same.new g))⟩;exact absurd hm ω
  ·refine⟨_,rfl,.inl ⟨rfl,_,SqL.of d⟩,l,_,.bl true,rfl,rfl,d,rfl,?_⟩
   refine⟨rfl,rfl,false,(by first|rfl|decide),a9 ⟨_,rfl,x,rfl,r _ _ hx,?_⟩⟩;refine⟨true,rfl,a9 ⟨aq (by simp),fun y g=>?_⟩⟩;have j:=(Same.new (o:=.lst [.str "web",.str "piece",.str "push",.str "order",.str "number",.str "chain"]) g) _ _ d;refine⟨_,rfl,.inl ⟨rfl,_,SqL.of j⟩,l,_,.bl true,1,rfl,rfl,j,ξ,rfl,ξ,ξ,(fun m hm=>?_),y,_,1,_,rfl,rfl,SqL.of al,rfl,k _ (r.trans (Same.new g))⟩;have:m=0:=ω
   rcases this with rfl<;>decide
  ·refine⟨_,rfl,.inl ⟨rfl,_,SqL.of d⟩,l,_,.bl true,rfl,rfl,d,rfl,?_⟩
   refine⟨rfl,rfl,false,(by first|rfl|decide),a9 ⟨_,rfl,x,rfl,r _ _ hx,?_⟩⟩;refine⟨true,rfl,a9 ⟨aq (by simp),fun y g=>?_⟩⟩;have j:=(Same.new (o:=.lst [.str "web",.str "piece",.str "push",.str "order",.str "number",.str "chain"]) g) _ _ d;refine⟨_,rfl,.inl ⟨rfl,_,SqL.of j⟩,l,_,.bl true,2,rfl,rfl,j,ξ,rfl,ξ,ξ,(fun m hm=>?_),y,_,2,_,rfl,rfl,SqL.of al,rfl,k _ (r.trans (Same.new g))⟩;have:m=0\/m=1:=ω
   rcases this with rfl|rfl<;>decide
end
end K51
end
section
namespace K51
open K1
open PySem L2 STb
abbrev zS:Stmt:=top 59
abbrev lH:Stmt:=top 60
def IW(kn:Ξ):PG kn []:=⟨(fun x hx=>nomatch hx),List.nodup_nil,dB⟩
def Fv:a' []=true:=δ
section
variable{P:Program}{w:World}{K:Ac}{mg:Str->Option Value}{base:Heap}{f fW fP fC fS fw f0 f1 f2 f3 f4 f5:Addr}{fd dP:FuncData}
def PP(K:Ac)(fW fP fC:Addr)(H:Hp)(i:Int)(l:Addr)(v:V)(m:Addr)(Q:VK)(E:XK):Prop:=Bad K fW H l E\/(i≠1/\(∃pss,Web K H l pss)/\SqL K H m []/\∀H',Same H H'->Q .non H')\/(i=1/\IR K fP H l v E) \/
 ((i=7\/i=8)/\∃as pss ts ps,SqL K H l (as.map V.ref)/\Tps H as pss/\a' pss=true/\SqL K H m (ts.map V.ref)/\Prs2 H ts ps/\ps.length<=100/\¬PG (canon pss) ps/\∀H1,Same H H1->∀x,H1 x=none->E (.ref x) (some fC) H1)
def IX(K:Ac)(fW fP fC:Addr):Sp:=fun vs H Q E=>∃i l v m,vs=[.int i,.ref l,v,.ref m]/\0<=i/\i<=8/\PP K fW fP fC H i l v m Q E
abbrev fR:List Str:=["way","web","piece","pairs"]
def PQ:zl fR fR (ze zS):=⟨rfl,rfl,rfl,δ,rfl,δ,δ⟩
def PR(F:Fun K "_law_called" "_law_called" zS f fd)(C0:Cl P w K mg base (bF P w) "free_pairs" ["web"] 9 (fun vs H Q E=>i' K vs H Q E\/eR K fW vs H Q E))(ym:Cl P w K mg base (bF P w) "pushed" ["web","piece"] 10 (wG K fW fP))(C2:Cl P w K mg base (bF P w) "pushes" ["web"] 9 (fun vs H Q E=>i' K vs H Q E\/eR K fW vs H Q E))(O:Cl P w K mg base (bF P w) "is_pushed" ["web","pairs","other"] 9 (fun vs H Q E=>IT K vs H Q E\/IU K fW vs H Q E))(C5:Cl P w K mg base (bF P w) "judged" ["web","pairs"] 9 (fun vs H Q E=>E3 K vs H Q E\/jL K fW vs H Q E))(C6:Cl P w K mg base (bF P w) "pairing" ["web"] 9 (fun vs H Q E=>IP K vs H Q E\/eR K fW vs H Q E))(C7:Cl P w K mg base (bF P w) "left_over" ["web","pairs"] 10 (fun vs H Q E=>E9 K fC vs H Q E\/jL K fW vs H Q E))(C8:Cl P w K mg base (bF P w) "thin_seams" ["web","pairs"] 11 (fun vs H Q E=>IK K fC vs H Q E\/jL K fW vs H Q E)):FnOk P w K mg base (bF P w) 12 f fd fR (IX K fW fP fC):=by
 refine F.ok1 PQ (fun vs H Q E h=>?_) (fun cdv A outer s H vs Q E hr h=>?_)
 ·obtain⟨i,l,v,m,rfl,_⟩:=h;rfl
 ·obtain⟨i,l,v,m,rfl,S,i8,hc⟩:=h
  have R8:∃a,PSs (a_ (bF P w) P w K mg base fR "_law_called" (ze zS) f cdv A outer s H E) (List.drop 8 (zA zS)) a/\(∀H2,i<8->Q .non H2->a {nx:=fun _ H'=>Q .non H',rt:=Q} [some (.int i),some (.ref l),some v,some (.ref m)] H2)/\(8<=i->a {nx:=fun _ H'=>Q .non H',rt:=Q} [some (.int i),some (.ref l),some v,some (.ref m)] H):=by
   refine⟨_,zg (zU (zn eW (pv 0) zf (aK _)) (zg (zN (zE C8 hr rfl (bh (E:=E)) (ae (pv 1) (ae (pv 3) ap))))) zq),fun H2 j q=>?_,fun o=>?_⟩
   ·refine⟨_,rfl,rfl,_,rfl,bI (fun e=>?_) (fun _=>q)⟩
    have:i=8:=by have:=of_decide_eq_true e;injection this
    (first|lia|omega)
   ·refine⟨_,rfl,rfl,_,rfl,bI (fun e=>?_) (fun e=>?_)⟩
    rotate_left
    ·exact absurd (decide_eq_true (show V.int i=V.int 8 by rw[show i=8 from ω])) e
    have p:i=8:=by have:=of_decide_eq_true e;injection this
    subst p;rcases hc with hb|⟨_,⟨pss,as,c,ht,hw⟩,hm,k⟩|⟨n1,_⟩|⟨u,as,pss,ts,ps,c,ht,hw,hm,hp,hz,r,y⟩
    ·exact⟨_,rfl,_,rfl,.inr ⟨l,_,rfl,hb⟩⟩
    ·exact⟨_,rfl,_,rfl,.inl ⟨l,m,as,pss,[],[],rfl,c,ht,(gg hw).1,hm,.nil,ξ,fun D H1 bs _ d _ _ _=>k _ (d),fun H1 r=>absurd (IW _) r⟩⟩
    ·exact absurd n1 ξ
    ·exact⟨_,rfl,_,rfl,.inl ⟨l,m,as,pss,ts,ps,rfl,c,ht,(gg hw).1,hm,hp,hz,fun D H1 bs g=>absurd g r,fun H1 _ d x hx=>y H1 d x hx⟩⟩
  obtain⟨t8,T,G,U⟩:=R8;have R7:∃a,PSs (a_ (bF P w) P w K mg base fR "_law_called" (ze zS) f cdv A outer s H E) (List.drop 7 (zA zS)) a/\(∀H2,i<7->Q .non H2->a {nx:=fun _ H'=>Q .non H',rt:=Q} [some (.int i),some (.ref l),some v,some (.ref m)] H2)/\(7<=i->a {nx:=fun _ H'=>Q .non H',rt:=Q} [some (.int i),some (.ref l),some v,some (.ref m)] H):=by
   refine⟨_,zd (zU (zn eW (pv 0) zf (aK _)) (zg (zN (zE C7 hr rfl (bh (E:=E)) (ae (pv 1) (ae (pv 3) ap))))) zq) T,fun H2 j q=>?_,fun o=>?_⟩
   ·refine⟨_,rfl,rfl,_,rfl,bI (fun e=>?_) (fun _=>G H2 ω q)⟩
    have:i=7:=by have:=of_decide_eq_true e;injection this
    (first|lia|omega)
   ·refine⟨_,rfl,rfl,_,rfl,bI (fun e=>?_) (fun e=>?_)⟩
    rotate_left
    ·exact U (by have:i≠7:=fun z=>e (decide_eq_true (by rw[z]));(first|lia|omega))
    have p:i=7:=by have:=of_decide_eq_true e;injection this
    subst p;rcases hc with hb|⟨_,⟨pss,as,c,ht,hw⟩,hm,k⟩|⟨n1,_⟩|⟨u,as,pss,ts,ps,c,ht,hw,hm,hp,hz,r,y⟩
    ·exact⟨_,rfl,_,rfl,.inr ⟨l,_,rfl,hb⟩⟩
    ·exact⟨_,rfl,_,rfl,.inl ⟨l,m,as,pss,[],[],rfl,c,ht,(gg hw).1,hm,.nil,ξ,fun D H1 bs _ d _ _ _=>G H1 ω (k _ (d)),fun H1 r=>absurd (IW _) r⟩⟩
    ·exact absurd n1 ξ
    ·exact⟨_,rfl,_,rfl,.inl ⟨l,m,as,pss,ts,ps,rfl,c,ht,(gg hw).1,hm,hp,hz,fun D H1 bs g=>absurd g r,fun H1 _ d x hx=>y H1 d x hx⟩⟩
  obtain⟨t7,W,I,X⟩:=R7;have R6:∃a,PSs (a_ (bF P w) P w K mg base fR "_law_called" (ze zS) f cdv A outer s H E) (List.drop 6 (zA zS)) a/\(∀H2,i<6->Q .non H2->a {nx:=fun _ H'=>Q .non H',rt:=Q} [some (.int i),some (.ref l),some v,some (.ref m)] H2)/\(6<=i->a {nx:=fun _ H'=>Q .non H',rt:=Q} [some (.int i),some (.ref l),some v,some (.ref m)] H):=by
   refine⟨_,zd (zU (zn eW (pv 0) zf (aK _)) (zg (zN (zE C6 hr rfl (bh (E:=E)) (ae (pv 1) ap)))) zq) W,fun H2 j q=>?_,fun o=>?_⟩
   ·refine⟨_,rfl,rfl,_,rfl,bI (fun e=>?_) (fun _=>I H2 ω q)⟩
    have:i=6:=by have:=of_decide_eq_true e;injection this
    (first|lia|omega)
   ·refine⟨_,rfl,rfl,_,rfl,bI (fun e=>?_) (fun e=>?_)⟩
    rotate_left
    ·exact X (by have:i≠6:=fun z=>e (decide_eq_true (by rw[z]));(first|lia|omega))
    have p:i=6:=by have:=of_decide_eq_true e;injection this
    subst p;rcases hc with hb|⟨_,⟨pss,as,c,ht,hw⟩,hm,k⟩|⟨n1,_⟩|⟨u,as,pss,ts,ps,c,ht,hw,hm,hp,hz,r,y⟩
    ·exact⟨_,rfl,.inr ⟨l,rfl,hb⟩⟩
    ·exact⟨_,rfl,.inl ⟨l,as,pss,rfl,c,ht,(gg hw).1,fun D H1 ts ko d _ _ _ _ _ _=>I H1 ω (k _ (d))⟩⟩
    ·exact absurd n1 ξ
    ·exact absurd u ξ
  obtain⟨t6,Y,C,Z⟩:=R6;have R5:∃a,PSs (a_ (bF P w) P w K mg base fR "_law_called" (ze zS) f cdv A outer s H E) (List.drop 5 (zA zS)) a/\(∀H2,i<5->Q .non H2->a {nx:=fun _ H'=>Q .non H',rt:=Q} [some (.int i),some (.ref l),some v,some (.ref m)] H2)/\(5<=i->a {nx:=fun _ H'=>Q .non H',rt:=Q} [some (.int i),some (.ref l),some v,some (.ref m)] H):=by
   refine⟨_,zd (zU (zn eW (pv 0) zf (aK _)) (zg (zN (zE C5 hr rfl (bh (E:=E)) (ae (pv 1) (ae (pv 3) ap))))) zq) Y,fun H2 j q=>?_,fun o=>?_⟩
   ·refine⟨_,rfl,rfl,_,rfl,bI (fun e=>?_) (fun _=>C H2 ω q)⟩
    have:i=5:=by have:=of_decide_eq_true e;injection this
    (first|lia|omega)
   ·refine⟨_,rfl,rfl,_,rfl,bI (fun e=>?_) (fun e=>?_)⟩
    rotate_left
    ·exact Z (by have:i≠5:=fun z=>e (decide_eq_true (by rw[z]));(first|lia|omega))
    have p:i=5:=by have:=of_decide_eq_true e;injection this
    subst p;rcases hc with hb|⟨_,⟨pss,as,c,ht,hw⟩,hm,k⟩|⟨n1,_⟩|⟨u,as,pss,ts,ps,c,ht,hw,hm,hp,hz,r,y⟩
    ·exact⟨_,rfl,_,rfl,.inr ⟨l,_,rfl,hb⟩⟩
    ·exact⟨_,rfl,_,rfl,.inl ⟨l,m,as,pss,[],[],rfl,c,ht,(gg hw).1,hm,.nil,ξ,fun D H1 _ d _=>C H1 ω (k _ (d)),(fun i x D H1 hx=>nomatch hx),fun D R H1 us cs _ d _ _ _ _ _ _ _=>C H1 ω (k _ (d))⟩⟩
    ·exact absurd n1 ξ
    ·exact absurd u ξ
  obtain⟨t5,h5,J,b5⟩:=R5;have R4:∃a,PSs (a_ (bF P w) P w K mg base fR "_law_called" (ze zS) f cdv A outer s H E) (List.drop 4 (zA zS)) a/\(∀H2,i<4->Q .non H2->a {nx:=fun _ H'=>Q .non H',rt:=Q} [some (.int i),some (.ref l),some v,some (.ref m)] H2)/\(4<=i->a {nx:=fun _ H'=>Q .non H',rt:=Q} [some (.int i),some (.ref l),some v,some (.ref m)] H):=by
   refine⟨_,zd (zU (zn eW (pv 0) zf (aK _)) (zg (zN (zE O hr rfl (bh (E:=E)) (ae (zr ap) (ae (pv 3) (ae (pv 1) ap)))))) zq) h5,fun H2 j q=>?_,fun o=>?_⟩
   ·refine⟨_,rfl,rfl,_,rfl,bI (fun e=>?_) (fun _=>J H2 ω q)⟩
    have:i=4:=by have:=of_decide_eq_true e;injection this
    (first|lia|omega)
   ·refine⟨_,rfl,rfl,_,rfl,bI (fun e=>?_) (fun e=>?_)⟩
    rotate_left
    ·exact b5 (by have:i≠4:=fun z=>e (decide_eq_true (by rw[z]));(first|lia|omega))
    have p:i=4:=by have:=of_decide_eq_true e;injection this
    subst p;rcases hc with hb|⟨_,⟨pss,as,c,ht,hw⟩,hm,k⟩|⟨n1,_⟩|⟨u,as,pss,ts,ps,c,ht,hw,hm,hp,hz,r,y⟩
    ·exact⟨aq (by simp),fun e he=>⟨_,rfl,_,rfl,.inr ⟨e,_,l,rfl,.inr ⟨⟨[],[],SqL.of al,.nil,Fv⟩,hb.same (Same.new he)⟩⟩⟩⟩
    ·exact⟨aq (by simp),fun e he=>⟨_,rfl,_,rfl,.inl ⟨e,m,l,[],pss,rfl,⟨[],SqL.of al,.nil,Fv⟩,Web.same ⟨as,c,ht,hw⟩ (Same.new he),(Same.new he).seq hm,fun v H1 d=>J H1 ω (k _ ((Same.new he).trans d))⟩⟩⟩
    ·exact absurd n1 ξ
    ·exact absurd u ξ
  obtain⟨t4,h4,L,b4⟩:=R4;have R3:∃a,PSs (a_ (bF P w) P w K mg base fR "_law_called" (ze zS) f cdv A outer s H E) (List.drop 3 (zA zS)) a/\(∀H2,i<3->Q .non H2->a {nx:=fun _ H'=>Q .non H',rt:=Q} [some (.int i),some (.ref l),some v,some (.ref m)] H2)/\(3<=i->a {nx:=fun _ H'=>Q .non H',rt:=Q} [some (.int i),some (.ref l),some v,some (.ref m)] H):=by
   refine⟨_,zd (zU (zn eW (pv 0) zf (aK _)) (zg (zN (zE O hr rfl (bh (E:=E)) (ae (pv 1) (ae (pv 3) (ae (zr ap) ap)))))) zq) h4,fun H2 j q=>?_,fun o=>?_⟩
   ·refine⟨_,rfl,rfl,_,rfl,bI (fun e=>?_) (fun _=>L H2 ω q)⟩
    have:i=3:=by have:=of_decide_eq_true e;injection this
    (first|lia|omega)
   ·refine⟨_,rfl,rfl,_,rfl,bI (fun e=>?_) (fun e=>?_)⟩
    rotate_left
    ·exact b4 (by have:i≠3:=fun z=>e (decide_eq_true (by rw[z]));(first|lia|omega))
    have p:i=3:=by have:=of_decide_eq_true e;injection this
    subst p;rcases hc with hb|⟨_,⟨pss,as,c,ht,hw⟩,hm,k⟩|⟨n1,_⟩|⟨u,as,pss,ts,ps,c,ht,hw,hm,hp,hz,r,y⟩
    ·exact⟨_,rfl,_,rfl,aq (by simp),fun e he=>.inr ⟨l,_,e,rfl,.inl (hb.same (Same.new he))⟩⟩
    ·exact⟨_,rfl,_,rfl,aq (by simp),fun e he=>.inl ⟨l,m,e,pss,[],rfl,Web.same ⟨as,c,ht,hw⟩ (Same.new he),⟨[],SqL.of al,.nil,Fv⟩,(Same.new he).seq hm,fun v H1 d=>L H1 ω (k _ ((Same.new he).trans d))⟩⟩
    ·exact absurd n1 ξ
    ·exact absurd u ξ
  obtain⟨t3,h3,M,b3⟩:=R3;have R2:∃a,PSs (a_ (bF P w) P w K mg base fR "_law_called" (ze zS) f cdv A outer s H E) (List.drop 2 (zA zS)) a/\(∀H2,i<2->Q .non H2->a {nx:=fun _ H'=>Q .non H',rt:=Q} [some (.int i),some (.ref l),some v,some (.ref m)] H2)/\(2<=i->a {nx:=fun _ H'=>Q .non H',rt:=Q} [some (.int i),some (.ref l),some v,some (.ref m)] H):=by
   refine⟨_,zd (zU (zn eW (pv 0) zf (aK _)) (zg (zN (zE C2 hr rfl (bh (E:=E)) (ae (pv 1) ap)))) zq) h3,fun H2 j q=>?_,fun o=>?_⟩
   ·refine⟨_,rfl,rfl,_,rfl,bI (fun e=>?_) (fun _=>M H2 ω q)⟩
    have:i=2:=by have:=of_decide_eq_true e;injection this
    (first|lia|omega)
   ·refine⟨_,rfl,rfl,_,rfl,bI (fun e=>?_) (fun e=>?_)⟩
    rotate_left
    ·exact b3 (by have:i≠2:=fun z=>e (decide_eq_true (by rw[z]));(first|lia|omega))
    have p:i=2:=by have:=of_decide_eq_true e;injection this
    subst p;rcases hc with hb|⟨_,⟨pss,as,c,ht,hw⟩,hm,k⟩|⟨n1,_⟩|⟨u,as,pss,ts,ps,c,ht,hw,hm,hp,hz,r,y⟩
    ·exact⟨_,rfl,.inr ⟨l,rfl,hb⟩⟩
    ·exact⟨_,rfl,.inl ⟨l,pss,rfl,⟨as,c,ht,hw⟩,fun v H1 d=>M H1 ω (k _ (d))⟩⟩
    ·exact absurd n1 ξ
    ·exact absurd u ξ
  obtain⟨t2,h2,a2,b2⟩:=R2;have R1:∃a,PSs (a_ (bF P w) P w K mg base fR "_law_called" (ze zS) f cdv A outer s H E) (List.drop 1 (zA zS)) a/\(∀H2,i<1->Q .non H2->a {nx:=fun _ H'=>Q .non H',rt:=Q} [some (.int i),some (.ref l),some v,some (.ref m)] H2)/\(1<=i->a {nx:=fun _ H'=>Q .non H',rt:=Q} [some (.int i),some (.ref l),some v,some (.ref m)] H):=by
   refine⟨_,zd (zU (zn eW (pv 0) zf (aK _)) (zg (zN (zE ym hr rfl (bh (E:=E)) (ae (pv 1) (ae (pv 2) ap))))) zq) h2,fun H2 j q=>?_,fun o=>?_⟩
   ·refine⟨_,rfl,rfl,_,rfl,bI (fun e=>?_) (fun _=>a2 H2 ω q)⟩
    have:i=1:=by have:=of_decide_eq_true e;injection this
    (first|lia|omega)
   ·refine⟨_,rfl,rfl,_,rfl,bI (fun e=>?_) (fun e=>?_)⟩
    rotate_left
    ·exact b2 (by have:i≠1:=fun z=>e (decide_eq_true (by rw[z]));(first|lia|omega))
    have p:i=1:=by have:=of_decide_eq_true e;injection this
    subst p;rcases hc with hb|⟨n1,_⟩|⟨_,r⟩|⟨u,_⟩
    ·exact⟨_,rfl,_,rfl,l,v,rfl,.inl hb⟩
    ·exact absurd rfl n1
    ·exact⟨_,rfl,_,rfl,l,v,rfl,.inr r⟩
    ·exact absurd u ξ
  obtain⟨t1,h1,N,b1⟩:=R1;have R0:∃a,PSs (a_ (bF P w) P w K mg base fR "_law_called" (ze zS) f cdv A outer s H E) (List.drop 0 (zA zS)) a/\(∀H2,i<0->Q .non H2->a {nx:=fun _ H'=>Q .non H',rt:=Q} [some (.int i),some (.ref l),some v,some (.ref m)] H2)/\(0<=i->a {nx:=fun _ H'=>Q .non H',rt:=Q} [some (.int i),some (.ref l),some v,some (.ref m)] H):=by
   refine⟨_,zd (zU (zn eW (pv 0) zf (aK _)) (zg (zN (zE C0 hr rfl (bh (E:=E)) (ae (pv 1) ap)))) zq) h1,fun H2 j q=>?_,fun o=>?_⟩
   ·refine⟨_,rfl,rfl,_,rfl,bI (fun e=>?_) (fun _=>N H2 ω q)⟩
    have:i=0:=by have:=of_decide_eq_true e;injection this
    (first|lia|omega)
   ·refine⟨_,rfl,rfl,_,rfl,bI (fun e=>?_) (fun e=>?_)⟩
    rotate_left
    ·exact b1 (by have:i≠0:=fun z=>e (decide_eq_true (by rw[z]));(first|lia|omega))
    have p:i=0:=by have:=of_decide_eq_true e;injection this
    subst p;rcases hc with hb|⟨_,⟨pss,as,c,ht,hw⟩,hm,k⟩|⟨n1,_⟩|⟨u,as,pss,ts,ps,c,ht,hw,hm,hp,hz,r,y⟩
    ·exact⟨_,rfl,.inr ⟨l,rfl,hb⟩⟩
    ·exact⟨_,rfl,.inl ⟨l,pss,rfl,⟨as,c,ht,hw⟩,fun v H1 d=>N H1 ω (k _ (d))⟩⟩
    ·exact absurd n1 ξ
    ·exact absurd u ξ
  obtain⟨t0,h0,a0,b0⟩:=R0;exact⟨t0,h0,b0 S⟩
end
end K51
end
section
namespace K51
open K1
open PySem L2 STb
def PU{K:Ac}{C f0 f1 f2 f3 f4 f5:Addr}{h i j:Bool}(a:PySem.W.findIn K (.ref C) "__getattribute__"=some (some (.builtin "BaseException.__getattribute__")))(b:PySem.W.findIn K (.ref C) "__getattr__"=some none)(q:PySem.W.excIn K C hV "ValueError.__new__"=true)(c:PySem.W.findIn K (.ref C) "__class__"=some (some (.builtin "object.__class__")))(d:PySem.W.specialIn K (.builtin "object.__class__") "__get__"=some (some (.builtin "getset_descriptor.__get__")))(e:PySem.W.takesIn K (.builtin "object.__class__")=some true)(f:PySem.W.mroIn K C (.type "object")=some true)(g:PySem.W.mroIn K C (.type "BaseException")=some true)(l:A4 K (.ref C) (.ref f0)=some h)(o:A4 K (.ref C) (.ref f1)=some i)(p:A4 K (.ref C) (.ref f2)=some j)(r:A4 K (.ref C) (.ref f3)=some false)(s:A4 K (.ref C) (.ref f4)=some false)(u:A4 K (.ref C) (.ref f5)=some false)(v:A4 K (.ref C) (.type "ValueError")=some true):Mk K C f0 f1 f2 f3 f4 f5 h i j:=⟨Pm a b q c d e f g,l,o,p,r,s,u,v⟩
section
variable{P:Program}{w:World}{K:Ac}{mg:Str->Option Value}{base:Heap}{f fS fw f0 f1 f2 f3 f4 f5:Addr}{fd dP:FuncData}
def IY(K:Ac)(H:Hp)(l:Addr):Prop:=∃as pss,SqL K H l (as.map V.ref)/\Tps H as pss/\(pss.all zF=true->(dd (pss.flatMap parts)).length<1000)/\a' pss=false
def Met(K:Ac)(H:Hp)(i:Int)(l:Addr)(v:V)(m:Addr)(t:Str):Prop:=(t="web"/\IY K H l)\/(t="told"/\i≠1/\(∃pss,Web K H l pss)/\SqL K H m [])\/(t="piece"/\i=1/\∃a as pss p,v=.ref a/\SqL K H l (as.map V.ref)/\Tps H as pss/\a' pss=true/\Tp H a p/\p∉canon pss) \/
 (t="push"/\(i=7\/i=8)/\∃as pss ts ps,SqL K H l (as.map V.ref)/\Tps H as pss/\a' pss=true/\SqL K H m (ts.map V.ref)/\Prs2 H ts ps/\ps.length<=100/\¬PG (canon pss) ps)
def hX(K:Ac):Sp:=fun vs H Q _=>∃i l v m t,vs=[.int i,.ref l,v,.ref m]/\0<=i/\i<=8/\Met K H i l v m t/\∀H',Same H H'->Q (.str t) H'
abbrev PV:List Str:=["way","web","piece","pairs","told","e"]
def w6:zl PV ["way","web","piece","pairs"] (ze lH):=⟨rfl,rfl,rfl,δ,rfl,δ,δ⟩
def PX(F:Fun K "_law_met" "_law_met" lH f fd)(D:mg "SeamError"=some (.ref fS))(J:Cl P w K mg base (bF P w) "_law_called" fR 12 (IX K f0 f1 f2))(Fw:Fun K "_law_which" "_law_which" wT fw dP)(G:Binds K dP ["e"] [])(I:mg "_law_which"=some (.ref fw))(L:q8 P w K mg base 1 fw dP ["e"] (IV K f0 f1 f2 f3 f4 f5))(M:Mk K f0 f0 f1 f2 f3 f4 f5 true false false)(M1:Mk K f1 f0 f1 f2 f3 f4 f5 false true false)(M2:Mk K f2 f0 f1 f2 f3 f4 f5 false false true)(N:eG K f0 fS)(S1:eG K f1 fS)(S2:eG K f2 fS):FnOk P w K mg base aR 13 f fd ["way","web","piece","pairs"] (hX K):=by
 refine F.ok w6 (fun vs H Q E h=>?_) (fun cdv A outer s H vs Q E hr h=>?_)
 ·obtain⟨i,l,v,m,t,rfl,_⟩:=h;rfl
 ·obtain⟨i,l,v,m,t,rfl,q,r,hm,k⟩:=h
  have o:Room 1 _:=hr.mono ξ;refine⟨_,zd (zk (i:=4) w6.nd rfl (Or.inl rfl) pe_str)
   (zd (OS (ie:=5) (S:=fS) rfl w6.nd rfl rfl rfl rfl rfl D
    (fun aa EB=>zg (zN (zE J hr rfl (OR rfl) (ae (pv 0) (ae (pv 1) (ae (pv 2) (ae (pv 3) ap)))))))
    (fun aa x=>zg (zk (i:=4) w6.nd rfl (Or.inl rfl) (O0 (E:=E0) L (o.mark _) rfl I Fw.kp G .nil (ae (pv 5) ap)))))
   (zg (zm (pv 4)))),?_⟩
  refine⟨_,rfl,_,rfl,_,rfl,_,rfl,i,l,v,m,rfl,q,r,?_⟩;rcases hm with ⟨rfl,as,pss,c,ht,hf,hw⟩|⟨rfl,n1,u,hm⟩|⟨rfl,rfl,a,as,pss,p,rfl,c,ht,hw,ha,hp⟩|⟨rfl,y,as,pss,ts,ps,c,ht,hw,hm,z,hz,C⟩
  ·refine .inl ⟨as,pss,c,ht,hf,hw,fun H1 d x hx=>⟨x,f0,rfl,rfl,N,fun g c=>match g,c with|[a1,a2,a3,a4,a5,a6],_=>⟨_,rfl,x,f0,_,rfl,⟨_,_,_,M,.inl ⟨rfl,rfl,rfl,rfl⟩⟩,al,fun H2 j=>⟨_,rfl,k H2 (d.trans ((Same.new hx).trans j))⟩⟩⟩⟩
  ·exact .inr (.inl ⟨n1,u,hm,fun H1 d=>⟨_,rfl,k H1 d⟩⟩)
  ·refine .inr (.inr (.inl ⟨rfl,a,as,pss,p,rfl,c,ht,(gg hw).1,ha,hp,fun H1 d x hx=>⟨x,f1,rfl,rfl,S1,fun g c=>match g,c with|[a1,a2,a3,a4,a5,a6],_=>⟨_,rfl,x,f1,_,rfl,⟨_,_,_,M1,.inr (.inl ⟨rfl,rfl,rfl,rfl⟩)⟩,al,fun H2 j=>⟨_,rfl,k H2 (d.trans ((Same.new hx).trans j))⟩⟩⟩⟩))
  ·refine .inr (.inr (.inr ⟨y,as,pss,ts,ps,c,ht,hw,hm,z,hz,C,fun H1 d x hx=>⟨x,f2,rfl,rfl,S2,fun g c=>match g,c with|[a1,a2,a3,a4,a5,a6],_=>⟨_,rfl,x,f2,_,rfl,⟨_,_,_,M2,.inr (.inr ⟨rfl,rfl,rfl,rfl⟩)⟩,al,fun H2 j=>⟨_,rfl,k H2 (d.trans ((Same.new hx).trans j))⟩⟩⟩⟩))
end
end K51
end
section
namespace L2
open PySem PySem.Spec PyProof.Rows
section
variable{X:Cx}
def IZ{h:Heap}:∀{zs:List Str}{us:List Value},Vals (zs.map V.str) us->∃c,ReadsAll h us (zs.map PyData.str) c
 |[],us,r=>by cases r;exact⟨_,.nil⟩
 |z::zs,us,r=>by
  cases r with
  |cons a b=>
   obtain⟨t,rfl⟩:=a;obtain⟨c,q⟩:=IZ b;exact⟨_,.cons (.str z t) q⟩
def w_{aa:Ψ}{σ:St}{H:Hp}{s:Shared}{l:Addr}{zs:List Str}(I:Inv X aa σ H s)(d:SqL X.K H l (zs.map V.str)):∃a,Reads s.heap (.ref l) (.list (zs.map PyData.str)) a:=by
 obtain⟨e,r,p,_⟩:=I.list d;obtain⟨o,c,hc,n,hd⟩:=id p.isList;obtain⟨a,q⟩:=IZ (h:=s.heap) r;exact⟨_,.list c hc hd (by simpa using q)⟩
def I0:∀{zs:List Str},(∀z∈zs,PyData.strOk z=true)->PyData.canLayAll0 (zs.map PyData.str)=true/\PyData.depthAll (zs.map PyData.str)<=1
 |[],_=>by simp[PyData.canLayAll0,PyData.depthAll]
 |z::r,h=>by
  obtain⟨a,b⟩:=I0 (zs:=r) fun y hy=>h y (At _ hy);have hz:=h z Ar;simp only[AF,PyData.canLayAll0,PyData.depthAll,PyData.canLay0,PyData.depth,a,hz];exact⟨rfl,ω⟩
def xl{zs:List Str}(h:∀z∈zs,PyData.strOk z=true):SeqAt.shaped (.list (zs.map PyData.str))=true:=by
 obtain⟨a,b⟩:=I0 h;simp[SeqAt.shaped,PyData.canLay0,PyData.depth,a];(first|lia|omega)
def xq(zs:List Str):(Shape.list .str).has (.list (zs.map PyData.str))=true:=by simp[Shape.has]
def Fx:∀zs:List Str,same (.list (zs.map PyData.str)) (.list (zs.map PyData.str))=true
 |[]=>by simp[same,sameAll]
 |z::r=>by
  have:=Fx r;simp only[same] at this ⊢;simp only[AF,sameAll,same,this];simp
def xB(b:Bool)(K:Ac):R2:=fun x y H Q=>∃l m zs,x=.ref l/\y=.ref m/\SqL K H l (List.map V.str zs)/\SqL K H m (List.map V.str zs)/\(∀z∈zs,PyData.strOk z=true)/\Q (.bl b) H
def PY(hu:X.A.units+64<cLine):cG X (A6 .Eq) (xB true X.K):=by
 intro aa s σ H x y v u Q I a c h;obtain⟨l,m,zs,rfl,rfl,d,hm,hs,q⟩:=h;cases a;cases c;obtain⟨_,e⟩:=w_ I d;obtain⟨_,f⟩:=w_ I hm;refine eq_dataH_same e f (xl hs) (xl hs) hu (SeqAt.noMix_of_shape (.list .str) rfl _ _ (xq _) (xq _)) ?_;rw[Fx];exact⟨.bl _,H,I,rfl,q⟩
def PZ(hu:X.A.units+64<cLine):cG X (A6 .NotEq) (xB false X.K):=by
 intro aa s σ H x y v u Q I a c h;obtain⟨l,m,zs,rfl,rfl,d,hm,hs,q⟩:=h;cases a;cases c;obtain⟨_,e⟩:=w_ I d;obtain⟨_,f⟩:=w_ I hm;refine ne_dataH_same e f (xl hs) (xl hs) hu (SeqAt.noMix_of_shape (.list .str) rfl _ _ (xq _) (xq _)) ?_;rw[Fx];exact⟨.bl _,H,I,rfl,q⟩
end
end L2
end
section
namespace K51
open K1
open PySem L2 STb
abbrev je:Stmt:=top 61
def I_{H:Hp}:∀{as:List Addr}{pss:Ξ},Tps H as pss->∀{t:Addr}{q:List Int},Tp H t q->∀i:Nat,Tps H (as.take i++t::as.drop i) (pss.take i++q::pss.drop i)
 |_,_,.nil,t,q,ht,i=>by rw[List.take_nil,List.take_nil,List.drop_nil,List.drop_nil];exact .cons ht .nil
 |_,_,.cons a r,t,q,ht,0=>.cons ht (.cons a r)
 |_,_,.cons a r,t,q,ht,i+1=>.cons a (I_ r ht i)
def P0{pss:Ξ}{q:List Int}(hq:q∈pss)(h:zF q=false):pss.all zF=false/\a' pss=false:=by
 have e:pss.all zF=false:=by
  rw[Bool.eq_false_iff];intro z;rw[List.all_eq_true.mp z q hq] at h;cases h
 refine⟨e,?_⟩;unfold a';rw[e];simp
def NoL(H:Hp)(D:Addr):Prop:=∃bs a,H D=some (.lst (List.map V.ref bs))/\Tps H bs a/\a.length<=300/\(a.all zF=true->(dd (a.flatMap parts)).length<1000)/\a' a=false
def NoL.same{H H':Hp}{D:Addr}(h:NoL H D)(s:Same H H'):NoL H' D:=let ⟨bs,aw,a,b,c⟩:=h;⟨bs,aw,s _ _ a,s.tps b,c⟩
def NoL.w{K:Ac}{H:Hp}{D:Addr}(h:NoL H D):IY K H D:=let ⟨bs,aw,a,b,_,c⟩:=h;⟨bs,aw,SqL.of a,b,c⟩
def Lm(H:Hp)(L:Addr)(pss:Ξ):Prop:=∃as,H L=some (.lst (List.map V.ref as))/\Tps H as pss
def Lm.same{H H':Hp}{L:Addr}{pss:Ξ}(h:Lm H L pss)(s:Same H H'):Lm H' L pss:=let ⟨as,a,b⟩:=h;⟨as,s _ _ a,s.tps b⟩
def Lms(H:Hp)(S:Addr)(c:List Ξ):Prop:=∃a,H S=some (.lst (List.map V.ref a))/\Paired (Lm H) a c
def Lms.same{H H':Hp}{S:Addr}{c:List Ξ}(h:Lms H S c)(s:Same H H'):Lms H' S c:=let ⟨Ls,a,b⟩:=h;⟨Ls,s _ _ a,Paired.mapP b fun _ _ q=>q.same s⟩
def P4{H:Hp}{d:List Addr}{c:List Ξ}{L:Addr}{q:Ξ}(h:Paired (Lm H) d c)(e:Lm H L q):Paired (Lm H) (d++[L]) (c++[q]):=by
 induction h with
 |nil=>exact .cons e .nil
 |cons a _ ih=>exact .cons a ih
def Lms.cat{H:Hp}{S D T M:Addr}{a:List Ξ}{q:Ξ}{Ls:List Addr}(hs:H S=some (.lst (List.map V.ref Ls)))(h:Paired (Lm H) Ls a)(hd:Lm H D q)(c:H T=none)(d:upd H T (.lst [.ref D]) M=none):Lms (upd (upd H T (.lst [.ref D])) M (.lst (Ls.map V.ref++[.ref D]))) M (a++[q]):=by
 have s:=(Same.new (o:=.lst [.ref D]) c).trans (Same.new (o:=.lst (Ls.map V.ref++[.ref D])) d);exact⟨Ls++[D],by rw[al,Ah];rfl,P4 (Paired.mapP h fun _ _ z=>z.same s) (hd.same s)⟩
def Lm.box{p:Addr}{H H':Hp}{L:Addr}{pss:Ξ}(h:Lm H L pss)(c:zai p H H')(hb:zah H p):Lm H' L pss:=let ⟨as,a,b⟩:=h;⟨as,c _ _ (hb.ne a) a,c.tps hb b⟩
def Lms.box{p:Addr}{H H':Hp}{S:Addr}{c:List Ξ}(h:Lms H S c)(d:zai p H H')(hb:zah H p):Lms H' S c:=let ⟨Ls,a,b⟩:=h;⟨Ls,d _ _ (hb.ne a) a,Paired.mapP b fun _ _ q=>q.box d hb⟩
def Lms.at{H:Hp}{S:Addr}{c:List Ξ}{w:Int}{x:Ξ}(h:Lms H S c)(e:0<=w)(hx:c[w.toNat]?=some x):∃Ls L,H S=some (.lst (List.map V.ref Ls))/\eX (Ls.map V.ref) w=some (.ref L)/\Lm H L x:=by
 obtain⟨Ls,a,b⟩:=h;have d:=b.length;have hw:w.toNat<Ls.length:=by rw[d];exact(List.getElem?_eq_some_iff.mp hx).1
 have hy:=Ee b w.toNat _ x (Aj hw) hx;refine⟨Ls,Ls[w.toNat],a,?_,hy⟩;have:=zD (xs:=Ls.map V.ref) (j:=w.toNat) (v:=.ref Ls[w.toNat]) (by rw[Ao,Aj hw];rfl)
 rwa [show((w.toNat:Nat):Int)=w from ω] at this
def ones(a:Int):Ξ:=[[1,0],[2,2],[-1],[100],[0,100+a],[-1-a],[0,1,2,3,4,5],[]]
def r21:Ξ:=(AQ 21).map fun(k:Nat)=>[0+(k:Int),40,41]
def r7:Ξ:=(AQ 7).map fun(k:Nat)=>[5*(0+(k:Int)),5*(0+(k:Int))+1,5*(0+(k:Int))+2,5*(0+(k:Int))+3,5*(0+(k:Int))+4]
abbrev allB(far:Int):List Ξ:=(ones far).map (fun q=>[q])++[r21]++[r7]
def P5(a:Int):∀w:Nat,w<8->∃q∈ones a,(allB a)[w]?=some [q]
 |0,_=>⟨_,by simp[ones],rfl⟩
 |1,_=>⟨_,by simp[ones],rfl⟩
 |2,_=>⟨_,by simp[ones],rfl⟩
 |3,_=>⟨_,by simp[ones],rfl⟩
 |4,_=>⟨_,by simp[ones],rfl⟩
 |5,_=>⟨_,by simp[ones],rfl⟩
 |6,_=>⟨_,by simp[ones],rfl⟩
 |7,_=>⟨_,by simp[ones],rfl⟩
 |n+8,h=>absurd h ω
def P6:r21.length<=300/\(r21.all zF=true->(dd (r21.flatMap parts)).length<1000)/\a' r21=false:=by
 refine⟨δ,fun _=>δ,δ⟩
def P7:r7.length<=300/\(r7.all zF=true->(dd (r7.flatMap parts)).length<1000)/\a' r7=false:=by
 refine⟨δ,fun _=>δ,δ⟩
def gX:([[0,1],[2],[0,1]]:Ξ).length<=300/\(([[0,1],[2],[0,1]]:Ξ).all zF=true->(dd (([[0,1],[2],[0,1]]:Ξ).flatMap parts)).length<1000)/\a' [[0,1],[2],[0,1]]=false:=by
 refine⟨δ,fun _=>δ,δ⟩
def P8{a:Int}(h:0<=a):∀q∈ones a,zF q=false:=by
 intro q hq;unfold ones at hq;simp only[List.mem_cons,List.not_mem_nil,or_false] at hq;rcases hq with rfl|rfl|rfl|rfl|rfl|rfl|rfl|rfl
 ·decide
 ·decide
 ·decide
 ·decide
 ·simp[zF];(first|lia|omega)
 ·simp[zF];(first|lia|omega)
 ·decide
 ·decide
section
variable{P:Program}{w:World}{K:Ac}{mg:Str->Option Value}{base:Heap}{f:Addr}{fd:FuncData}
def rx{H2:Hp}{D:Addr}{n:Nat}{lo:Int}{c:List (Option V)}{g:Nat->List Int}{te:TE}{Q:VK}(p:∀(j:Nat)(H:Hp)(R:VK),j<n->(∀a H',Same H H'->Tp H' a (g j)->R (.ref a) H')->te (some (.int (lo+j))::c) H R)(q:n<=100)(l:H2 D=none)(k:∀d bs,Same H2 d->d D=some (.lst (List.map V.ref bs))->Tps d bs ((AQ n).map g)->Q (.ref D) d):c7 (g0 lo n) (cV 0) cz te (none::c) H2 D Q:=by
 refine GW (fun j σ ys d=>∃(v:Option V)(bs:List Addr),σ=v::c/\Same H2 d/\d D=some (.lst ys)/\ys=bs.map V.ref/\Tps d bs (((AQ n).map g).take j)) ?_ ?_ ?_
 ·exact⟨none,[],rfl,Same.new l,al,rfl,.nil⟩
 ·rintro j σ ys d h hy ⟨v,bs,rfl,i,e,rfl,hb⟩
  have o:((AQ n).map g)[j]?=some (g j):=by rw[Ao,List.getElem?_range h];rfl
  refine cR (p j d _ h fun a r f ha=>?_);refine ci (aq ω) h hy (f _ _ e) ⟨_,bs++[a],rfl,(i.trans f).then l,al,by rw[Ah];rfl,?_⟩;rw[AI o];exact Tps.upd (Tps.snoc (f.tps hb) ha) (f _ _ e) (by intro xs z;cases z)
 ·rintro σ ys d ⟨v,bs,rfl,i,e,rfl,hb⟩
  rw[Au (by simp)] at hb;exact k d bs i e hb
def Ja:Sp:=fun vs H Q _=>∃p l as pss,vs=[.ref p,.ref l]/\zah H p/\H l=some (.lst (List.map V.ref as))/\Tps H as pss/\pss.length<=200/\∀D H',zai p H H'->zah H' p->NoL H' D->Q (.ref D) H'
abbrev oC:List Str:=["box","web","far","some","way","found"]
def lK:zl oC ["box","web"] (ze je):=⟨rfl,rfl,rfl,δ,rfl,δ,δ⟩
def P9(F:Fun K "_law_none" "_law_none" je f fd)(B:Bt mg)(Ct:Cl P w K mg base aR "_law_take" ["box","most"] 1 uX):FnOk P w K mg base aR 2 f fd ["box","web"] Ja:=by
 refine F.ok lK (fun vs H Q E h=>?_) (fun cdv A outer s H vs Q E hr h=>?_)
 ·obtain⟨p,l,as,pss,rfl,_⟩:=h;rfl
 ·obtain⟨p,l,as,pss,rfl,fH,hl,ht,hz,k⟩:=h
  have R4:∃N,PSs (a_ aR P w K mg base oC "_law_none" (ze je) f cdv A outer s H E).nox (List.drop 4 (zA je)) N/\∀(S:Addr)(d:Int)(H2:Hp),0<=d->zai p H H2->zah H2 p->Lms H2 S (allB d)->
    N {nx:=fun _ H'=>Q .non H',rt:=Q} [some (.ref p),some (.ref l),some (.int d),some (.ref S),none,none] H2:=by
   refine⟨_,zd (zk (i:=4) lK.nd rfl (Or.inl rfl) (zE Ct hr rfl aF (ae (pv 0) (ae zf ap))))
    (zd (zU (zn eW (pv 4) zf (aK _)) (zg (zm (zr (ae (zx (ae zf (ae zf ap))) (ae (zx (ae zf ap)) (ae (zx (ae zf (ae zf ap))) ap)))))) zq)
    (zd (zk (i:=5) lK.nd rfl (Or.inl rfl) (zG zR rfl B.list gI (ae (pv 1) ap)))
    (zd (zU (zn pb (pv 4) zf (aK _))
     (zd (zN (eY AN PySem.F.slot_list_insert PySem.F.type_list_insert G8 (pv 5) (ae (zE Ct hr rfl aF (ae (pv 0) (ae (zu dn (zw zp rfl B.len ei (ae (pv 5) ap)) zf) ap))) (ae (cK zZ (cK zZ (pv 3) (pv 4) (fun _ _=>rfl)) zf (fun _ _=>rfl)) ap))))
     (zg (zm (pv 5)))) zq)
    (zg (zm (cK zZ (pv 3) (pv 4) (fun _ _=>rfl))))))),?_⟩
   intro S d H2 f0 X G de;refine⟨_,rfl,p,11,rfl,G,ξ,ξ,fun jk H3 w0 w1 gN cb=>?_⟩;have eE:=X.trans gN;have fz:=de.box gN G;have si:=eE _ _ (fH.ne hl) hl;have lX:=eE.tps fH ht;refine⟨_,rfl,rfl,_,rfl,bI (fun _=>?_) (fun vC=>?_)⟩
   ·refine⟨aq (by simp),fun I g1=>⟨aq (by simp),fun J g2=>⟨aq (by simp),fun Y g3=>⟨aq (by simp),fun D hD=>?_⟩⟩⟩⟩
    have u1:=Same.new (o:=.tup [.int 0,.int 1]) g1;have u2:=Same.new (o:=.tup [.int 2]) g2;have Z:=Same.new (o:=.tup [.int 0,.int 1]) g3;have u:=Same.new (o:=.lst [.ref I,.ref J,.ref Y]) hD;have s:=((u1.trans u2).trans Z).trans u;refine k D _ (eE.trans (zai.of s)) (cb.same s) ⟨[I,J,Y],[[0,1],[2],[0,1]],al,?_,gX⟩;exact .cons (u.tp (Z.tp (u2.tp (show Tp _ I [0,1] from al)))) (.cons (u.tp (Z.tp (show Tp _ J [2] from al))) (.cons (u.tp (show Tp _ Y [0,1] from al)) .nil))
   have n10:jk≠10:=fun z=>vC (decide_eq_true (by rw[z]));refine⟨_,rfl,l,_,rfl,.inl (SqL.of si),fun W hF=>?_⟩;have sF:=Same.new (o:=.lst (as.map V.ref)) hF;have e:upd H3 W (.lst (as.map V.ref)) W=some (.lst (as.map V.ref)):=al;have bZ:=cb.same sF;have iG:=eE.trans (zai.of sF);have iV:=fz.same sF;have js:=sF.tps lX;have aJ:=ht.length;generalize upd H3 W (.lst (as.map V.ref))=H4 at *;refine⟨_,rfl,_,_,rfl,rfl,_,rfl,bI (fun e8=>?_) (fun e8=>?_)⟩
   ·have w8:jk<8:=of_decide_eq_true e8
    obtain⟨q,hq,eq⟩:=P5 d jk.toNat ω;refine⟨_,rfl,.inl ⟨rfl,_,SqL.of e⟩,_,rfl,_,rfl,W,_,rfl,.inl (SqL.of e),_,_,rfl,rfl,p,_,rfl,bZ,by rw[Ab];(first|lia|omega),by rw[Ab];(first|lia|omega),fun i H5 i0 i1 nL nE=>?_⟩;rw[Ab] at i1;have s_:=nL _ _ (bZ.ne e) e;obtain⟨Ls,L,kc,iS,kw,kl,dS⟩:=(iV.box nL bZ).at w0 eq;obtain⟨t,rfl,Bi⟩:∃t,kw=[t]/\Tp H5 t q:=by
     cases dS with
     |cons a r=>cases r;exact⟨_,rfl,a⟩
    refine⟨_,rfl,_,rfl,S,_,_,_,rfl,rfl,SqL.of kc,iS,L,_,_,_,rfl,rfl,SqL.of kl,zD (j:=0) rfl,W,_,_,_,rfl,rfl,s_,i0,by rw[Ab];(first|lia|omega),by rw[Ab];exact zH ω,?_⟩;rw[<-List.map_take,<-List.map_drop,show(as.take i.toNat).map V.ref++V.ref t::(as.drop i.toNat).map V.ref=(as.take i.toNat++t::as.drop i.toNat).map V.ref by rw[Ah,AF]];have nF:W≠p:=bZ.ne e;have wB:H W=none:=(eE.free fH cb hF);have nw:=P0 (pss:=pss.take i.toNat++q::pss.drop i.toNat) (q:=q) (by simp) (P8 f0 q hq);refine⟨_,rfl,k W _ ((iG.trans nL).then wB) (nE.upd nF) ⟨_,pss.take i.toNat++q::pss.drop i.toNat,al,Tps.upd (I_ (nL.tps bZ js) Bi i.toNat) s_ (by intro xs z;cases z),?_,fun z=>?_,nw.2⟩⟩
    ·rw[Af,Am,Av,List.length_drop];(first|lia|omega)
    ·rw[nw.1] at z;cases z
   ·have w8:¬jk<8:=fun z=>e8 (decide_eq_true z)
    have:jk=8\/jk=9:=ω
    rcases this with rfl|rfl
    ·obtain⟨Ls,L,kc,iS,kw,kl,dS⟩:=iV.at (x:=r21) (w:=8) ξ rfl
     exact⟨_,rfl,_,rfl,S,_,_,_,rfl,rfl,SqL.of kc,iS,k L _ iG bZ ⟨kw,r21,kl,dS,P6⟩⟩
    ·obtain⟨Ls,L,kc,iS,kw,kl,dS⟩:=iV.at (x:=r7) (w:=9) ξ rfl
     exact⟨_,rfl,_,rfl,S,_,_,_,rfl,rfl,SqL.of kc,iS,k L _ iG bZ ⟨kw,r7,kl,dS,P7⟩⟩
  obtain⟨t4,h4,e4⟩:=R4;have R2:∃N,PSs (a_ aR P w K mg base oC "_law_none" (ze je) f cdv A outer s H E).nox (List.drop 2 (zA je)) N/\∀(S:Addr)(d:Int)(H2:Hp),0<=d->zai p H H2->zah H2 p->Lms H2 S ((ones d).map (fun q=>[q]))->
    N {nx:=fun _ H'=>Q .non H',rt:=Q} [some (.ref p),some (.ref l),some (.int d),some (.ref S),none,none] H2:=by
   refine⟨_,zd (zk (i:=3) lK.nd rfl (Or.inl rfl) (zu iu (pv 3) (zr (ae (zt oC ["k"] [none] (mN rfl B.range (ae zf ap)) (fun cl C s₀ H₀ ex=>zi (i:=0) (cO ["k"]) rfl (Or.inl rfl)) (fun cl C s₀ H₀ ex=>zM) (fun cl C s₀ H₀ ex=>zx (ae (pv 0) (ae zf (ae zf ap)))) (hfr:=di δ)) ap))))
    (zd (zk (i:=3) lK.nd rfl (Or.inl rfl) (zu iu (pv 3) (zr (ae (zt oC ["k"] [none] (mN rfl B.range (ae zf ap)) (fun cl C s₀ H₀ ex=>zi (i:=0) (cO ["k"]) rfl (Or.inl rfl)) (fun cl C s₀ H₀ ex=>zM) (fun cl C s₀ H₀ ex=>zx (ae (zu dU zf (pv 0)) (ae (zu dn (zu dU zf (pv 0)) zf) (ae (zu dn (zu dU zf (pv 0)) zf) (ae (zu dn (zu dU zf (pv 0)) zf) (ae (zu dn (zu dU zf (pv 0)) zf) ap)))))) (hfr:=di δ)) ap)))) h4),?_⟩
   intro S d H2 f0 X G de;refine⟨_,rfl,21,rfl,ξ,ξ,fun D1 iR=>zB (rx (n:=21) (lo:=0) (c:=[]) (g:=fun(k:Nat)=>[0+(k:Int),40,41]) (fun j H R hj h=>⟨_,rfl,aq (by simp),fun a ha=>h a _ (Same.new ha) al⟩) ξ iR fun H3 bs s3 hD3 cb=>⟨aq (by simp),fun T hT=>?_⟩)⟩;obtain⟨Ls,sw,iD⟩:=de.same s3;have BG:=iD.length;refine⟨S,T,_,_,rfl,rfl,(Same.new hT) _ _ sw,al,by rw[Ab,BG];exact aq (by simp[ones]),fun M hM=>?_⟩;have Bh:=Lms.cat sw iD (q:=r21) ⟨bs,hD3,cb⟩ hT hM;have s5:=(s3.trans (Same.new (o:=.lst [.ref D1]) hT)).trans (Same.new (o:=.lst (Ls.map V.ref++[.ref D1])) hM);generalize upd (upd H3 T (.lst [.ref D1])) M (.lst (Ls.map V.ref++[.ref D1]))=H5 at *;refine⟨_,rfl,7,rfl,ξ,ξ,fun D2 bL=>zB (rx (n:=7) (lo:=0) (c:=[]) (g:=fun(k:Nat)=>[5*(0+(k:Int)),5*(0+(k:Int))+1,5*(0+(k:Int))+2,5*(0+(k:Int))+3,5*(0+(k:Int))+4]) (fun j H R hj h=>⟨_,rfl,_,_,rfl,rfl,.inl ⟨ξ,ξ⟩,_,rfl,_,_,rfl,rfl,.inl ⟨ξ,ξ⟩,_,_,rfl,rfl,_,rfl,_,_,rfl,rfl,.inl ⟨ξ,ξ⟩,_,_,rfl,rfl,_,rfl,_,_,rfl,rfl,.inl ⟨ξ,ξ⟩,_,_,rfl,rfl,_,rfl,_,_,rfl,rfl,.inl ⟨ξ,ξ⟩,_,_,rfl,rfl,aq (by simp),fun a ha=>h a _ (Same.new ha) al⟩) ξ bL fun H6 cs s6 fJ vq=>⟨aq (by simp),fun T2 jj=>?_⟩)⟩;obtain⟨Ls2,uu,dj⟩:=Bh.same s6;have qb:=dj.length;refine⟨M,T2,_,_,rfl,rfl,(Same.new jj) _ _ uu,al,by rw[Ab,qb];exact aq (by simp[ones]),fun M2 rh=>?_⟩;have ya:=Lms.cat uu dj (q:=r7) ⟨cs,fJ,vq⟩ jj rh;have s7:=(s6.trans (Same.new (o:=.lst [.ref D2]) jj)).trans (Same.new (o:=.lst (Ls2.map V.ref++[.ref D2])) rh);exact e4 M2 d _ f0 (X.trans (zai.of (s5.trans s7))) (G.same (s5.trans s7)) ya
  obtain⟨J,h2,Cq⟩:=R2;have R1:∃N,PSs (a_ aR P w K mg base oC "_law_none" (ze je) f cdv A outer s H E).nox (List.drop 1 (zA je)) N/\∀(d:Int)(H2:Hp),0<=d->zai p H H2->zah H2 p->
    N {nx:=fun _ H'=>Q .non H',rt:=Q} [some (.ref p),some (.ref l),some (.int d),none,none,none] H2:=by
   refine⟨_,zd (zk (i:=3) lK.nd rfl (Or.inl rfl) (zr (ae (zr (ae (zx (ae zf (ae zf ap))) ap)) (ae (zr (ae (zx (ae zf (ae zf ap))) ap)) (ae (zr (ae (zx (ae (mP mR zf) ap)) ap)) (ae (zr (ae (zx (ae zf ap)) ap)) (ae (zr (ae (zx (ae zf (ae (zu dn zf (pv 2)) ap))) ap)) (ae (zr (ae (zx (ae (zu FM (mP mR zf) (pv 2)) ap)) ap)) (ae (zr (ae (zx (ae zf (ae zf (ae zf (ae zf (ae zf (ae zf ap))))))) ap)) (ae (zr (ae (zx ap) ap)) ap)))))))))) h2,?_⟩;intro d H2 f0 X G;refine⟨aq (by simp),fun I g1=>⟨aq (by simp),fun l1 e1=>⟨aq (by simp),fun J g2=>⟨aq (by simp),fun l2 e2=>⟨_,rfl,aq (by simp),fun Y g3=>⟨aq (by simp),fun l3 e3=>⟨aq (by simp),fun t4 g4=>⟨aq (by simp),fun l4 e4=>⟨_,rfl,_,_,rfl,rfl,aq (by simp),fun t5 g5=>⟨aq (by simp),fun l5 e5=>⟨_,rfl,_,rfl,_,_,rfl,rfl,aq (by simp),fun t6 g6=>⟨aq (by simp),fun l6 e6=>⟨aq (by simp),fun t7 g7=>⟨aq (by simp),fun l7 e7=>⟨aq (by simp),fun t8 g8=>⟨aq (by simp),fun l8 e8=>⟨aq (by simp),fun S hS=>?_⟩⟩⟩⟩⟩⟩⟩⟩⟩⟩⟩⟩⟩⟩⟩⟩⟩;have u1:=Same.new (o:=.tup [.int (1),.int (0)]) g1;have v1:=Same.new (o:=.lst [.ref I]) e1;have u2:=Same.new (o:=.tup [.int (2),.int (2)]) g2;have v2:=Same.new (o:=.lst [.ref J]) e2;have Z:=Same.new (o:=.tup [.int (-1)]) g3;have v3:=Same.new (o:=.lst [.ref Y]) e3;have u:=Same.new (o:=.tup [.int (100)]) g4;have v4:=Same.new (o:=.lst [.ref t4]) e4;have u5:=Same.new (o:=.tup [.int (0),.int (100+d)]) g5;have v5:=Same.new (o:=.lst [.ref t5]) e5;have u6:=Same.new (o:=.tup [.int (-1-d)]) g6;have v6:=Same.new (o:=.lst [.ref t6]) e6;have u7:=Same.new (o:=.tup [.int (0),.int (1),.int (2),.int (3),.int (4),.int (5)]) g7;have O:=Same.new (o:=.lst [.ref t7]) e7;have U:=Same.new (o:=.tup []) g8;have v:=Same.new (o:=.lst [.ref t8]) e8;have m1:Lm _ l1 [[1,0]]:=⟨[I],al,.cons (v1.tp (show Tp _ I [1,0] from al)) .nil⟩;have m2:Lm _ l2 [[2,2]]:=⟨[J],al,.cons (v2.tp (show Tp _ J [2,2] from al)) .nil⟩;have m3:Lm _ l3 [[-1]]:=⟨[Y],al,.cons (v3.tp (show Tp _ Y [-1] from al)) .nil⟩;have m4:Lm _ l4 [[100]]:=⟨[t4],al,.cons (v4.tp (show Tp _ t4 [100] from al)) .nil⟩;have m5:Lm _ l5 [[0,100+d]]:=⟨[t5],al,.cons (v5.tp (show Tp _ t5 [0,100+d] from al)) .nil⟩;have m6:Lm _ l6 [[-1-d]]:=⟨[t6],al,.cons (v6.tp (show Tp _ t6 [-1-d] from al)) .nil⟩;have m7:Lm _ l7 [[0,1,2,3,4,5]]:=⟨[t7],al,.cons (O.tp (show Tp _ t7 [0,1,2,3,4,5] from al)) .nil⟩;have m8:Lm _ l8 [[]]:=⟨[t8],al,.cons (v.tp (show Tp _ t8 [] from al)) .nil⟩;have y:=Same.new (o:=.lst [.ref l1,.ref l2,.ref l3,.ref l4,.ref l5,.ref l6,.ref l7,.ref l8]) hS;have lM:=(((((((((((((((u1.trans v1).trans u2).trans v2).trans Z).trans v3).trans u).trans v4).trans u5).trans v5).trans u6).trans v6).trans u7).trans O).trans U).trans v).trans y
   exact Cq S d _ f0 (X.trans (zai.of lM)) (G.same lM) ⟨[l1,l2,l3,l4,l5,l6,l7,l8],al,.cons ((((((((((((((((m1).same u2).same v2).same Z).same v3).same u).same v4).same u5).same v5).same u6).same v6).same u7).same O).same U).same v).same y) (.cons ((((((((((((((m2).same Z).same v3).same u).same v4).same u5).same v5).same u6).same v6).same u7).same O).same U).same v).same y) (.cons ((((((((((((m3).same u).same v4).same u5).same v5).same u6).same v6).same u7).same O).same U).same v).same y) (.cons ((((((((((m4).same u5).same v5).same u6).same v6).same u7).same O).same U).same v).same y) (.cons ((((((((m5).same u6).same v6).same u7).same O).same U).same v).same y) (.cons ((((((m6).same u7).same O).same U).same v).same y) (.cons ((((m7).same U).same v).same y) (.cons ((m8).same y) .nil)))))))⟩
  obtain⟨I,h1,e1⟩:=R1;refine⟨_,zd (zk (i:=2) lK.nd rfl (Or.inl rfl) (zE Ct hr rfl aF (ae (pv 0) (ae (zu rZ zf zf) ap)))) h1,?_⟩;exact⟨_,rfl,_,_,rfl,rfl,⟨ξ,ξ,ξ⟩,p,_,rfl,fH,ξ,ξ,fun d H2 f0 f1 X G=>e1 d H2 f0 X G⟩
end
abbrev bQ:Stmt:=top 62
abbrev dO:List Str:=["script","box","web","bad","pairs","way","six"]
def lP:zl dO ["script"] (ze bQ):=⟨rfl,rfl,rfl,δ,rfl,δ,δ⟩
def lU:Ξ:=((AQ 6).map fun(k:Nat)=>[5*(0+(k:Int)),5*(0+(k:Int))+1,5*(0+(k:Int))+2,5*(0+(k:Int))+3,5*(0+(k:Int))+4])++(AQ 10).map fun(k:Nat)=>[90+(k:Int)]
def r20:Ξ:=(AQ 20).map fun(k:Nat)=>[0+(k:Int),99]
def P_:a' lU=true:=δ
def P':a' r20=true:=δ
def Jb{pss:Ξ}(hw:a' pss=true){q:List Int}(h:ff q=false):q∉canon pss:=fun z=>by
 rw[li hw z] at h;cases h
def Fy{pss:Ξ}(hd:Drawn pss):[0,99]∉canon pss:=fun z=>by
 obtain⟨_,t,ht,hs⟩:=q3.mp z;have c:(99:Int)∈t:=hs.subset (by simp);obtain⟨b,first,a,hb,h,h1,i,j,hp⟩:=hd;obtain⟨n1,n2,f,l⟩:=HK hb;obtain⟨r,hr,rfl⟩:=List.mem_map.mp (hp.mem_iff.mp ht);obtain⟨_,_,_,d⟩:=f r hr;unfold dm at c;obtain⟨x,hx,e⟩:=List.mem_map.mp c;have:=d x hx;have g:a=1\/a=2\/a=3:=ω
 rcases g with rfl|rfl|rfl<;>(first|lia|omega)
def Jc{H:Hp}:∀{as bs:List Addr}{p q:Ξ},Tps H as p->Tps H bs q->Tps H (as++bs) (p++q)
 |_,_,_,_,.nil,h=>h
 |_,_,_,_,.cons a r,h=>.cons a (Jc r h)
abbrev zP:Pp:=([0],[0,99])
structure Zs(H:Hp)(W BD PL:Addr)(pss:Ξ):Prop where
 hW:Lm H W pss
 hd:Drawn pss
 hB:NoL H BD
 hP:∃ts,H PL=some (.lst (List.map V.ref ts))/\Prs2 H ts [zP,zP]
def Zs.same{H H':Hp}{W c d:Addr}{pss:Ξ}(h:Zs H W c d pss)(s:Same H H'):Zs H' W c d pss:=⟨h.hW.same s,h.hd,h.hB.same s,let ⟨ts,a,b⟩:=h.hP;⟨ts,s _ _ a,b.same s⟩⟩
def Qa{pss:Ξ}(hd:Drawn pss):¬PG (canon pss) [zP,zP]:=fun g=>Fy hd (g.has zP Ar).1
abbrev lZ(K:Ac):List V->Hp->VK->Prop:=fun xs H Q=>∃p ys,xs=[.ref p]/\(SqL K H p ys\/SqT K H p ys)/\∀l,H l=none->Q (.ref l) (L2.upd H l (.lst ys))
abbrev Qb(K:Ac):TE:=j8 (hX K) [] E0 (zL (aM 0) (zL (j9 (lZ K) (zL (aM 1) bD)) (zL (cI (zL (tC (.int 100)) bD)) (zL (j9 (lZ K) (zL (aM 2) bD)) bD))))
abbrev Qc(K:Ac):TE:=j8 (hX K) [] E0 (zL (aM 0) (zL (j9 (lZ K) (zL (aM 1) bD)) (zL (cI bD) (zL (j7 bD) bD))))
section
variable{P:Program}{w:World}{K:Ac}{mg:Str->Option Value}{base:Heap}
def Jd{k:Nat}{f:Addr}{fd:FuncData}{x:Str}{st:Stmt}{ps:List Str}{sp sq:Sp}(F:Fun K x x st f fd)(b:Binds K fd ps [])(m:mg x=some (.ref f))(G:FnOk P w K mg base (bF P w) k f fd ps sp)(a:FnOk P w K mg base (bF P w) k f fd ps sq):Cl P w K mg base (bF P w) x ps k (fun vs H Q E=>sp vs H Q E\/sq vs H Q E):=⟨f,fd,F.kp,b,m,G.or a⟩
def Je{H2:Hp}{L D:Addr}{is:List Int}{t:Str}{c:List (Option V)}{te:TE}{Q:VK}(o:∀(i:Int)(H:Hp)(R:VK),i∈is->Same H2 H->(∀H',Same H H'->R (.str t) H')->te (some (.int i)::c) H R)(p:H2 L=some (.lst (is.map V.int)))(r:is.length<=20)(g:H2 D=none)(k:∀d,Same H2 d->d D=some (.lst ((is.map fun _=>t).map V.str))->Q (.ref D) d):c7 (eI K L) (cV 0) cz te (none::c) H2 D Q:=by
 refine z0 (xs:=is.map V.int) (fun j σ ys d=>∃v:Option V,σ=v::c/\Same H2 d/\d D=some (.lst ys)/\ys=((is.map fun _=>t).take j).map V.str) ?_ ?_ ?_ ?_
 ·exact⟨none,rfl,Same.new g,al,rfl⟩
 ·rintro j σ ys d ⟨v,rfl,e,a,rfl⟩
  exact SqL.of (e _ _ p)
 ·rintro j σ ys d x hx h hy ⟨v,rfl,e,a,rfl⟩
  obtain⟨q,eq,rfl⟩:=p8 hx;have l:(is.map fun _=>t)[j]?=some t:=by rw[Ao,eq];rfl
  exact cR (o q d _ (An eq) e fun s f=>ci (by rw[Ab];exact aq ω) h hy (f _ _ a) ⟨_,rfl,(e.trans f).then g,al,by rw[AI l,Ah];rfl⟩)
 ·rintro σ ys d ⟨v,rfl,e,a,rfl⟩
  rw[Au (by simp)] at a;exact k d e a
def xC(K:Ac):Sp:=fun vs H Q _=>∃(a:Addr)(c:List Int),vs=[.ref a]/\SqL K H a (c.map V.int)/\c.length<=63/\∀H',Q (.bl true) H'
def Fz{f:Addr}{cdv:Value}{A:Around}{outer:List Env}{s:Shared}{H:Hp}{Q:VK}{E:XK}(hr:Room 13 (a_ aR P w K mg base dO "law" (ze bQ) f cdv A outer s H E).A)(k:∀H',Q (.bl true) H')(B:Bt mg)(Y:Cl P w K mg base aR "_law_met" ["way","web","piece","pairs"] 13 (hX K)):∃y,PSs (a_ aR P w K mg base dO "law" (ze bQ) f cdv A outer s H E).nox (List.drop 9 (zA bQ)) y/\∀(W h j:Addr)(pss:Ξ)(p q u v:Option V)(H2:Hp),Zs H2 W h j pss->
    y {nx:=fun _ H'=>Q .non H',rt:=Q} [p,q,some (.ref W),some (.ref h),some (.ref j),u,v] H2:=by
 have O:=hr.units;refine⟨_,zg (zm (mS (r:=xB true K) (PY O) (zt dO ["way","web"] [none,some 2] (zv (zr (ae zf (ae zf (ae zf (ae zf (ae zf (ae zf (ae zf (ae zf ap)))))))))) (fun l C s₀ H₀ ex=>zi (i:=0) (cO ["way","web"]) rfl (Or.inl rfl)) (fun l C s₀ H₀ ex=>zM)
  (fun l C s₀ H₀ ex=>(zE Y hr rfl aF (ae (pv 0) (ae (zG zR rfl B.list gI (ae (pv 1) ap)) (ae (zx ap) (ae (zr ap) ap)))))) (hfr:=cw (ze bQ) δ) (te:=Qc K)) (zu Kn (zr (ae pe_str ap)) zf) (aK _))),?_⟩
 intro W h j pss p q u v H2 z;obtain⟨hw,_⟩:=vh z.hd;refine⟨aq (by simp),fun L F=>⟨L,rfl,⟨_,SqL.of al⟩,fun D G=>zB (Je (is:=[0,2,3,4,5,6,7,8]) (t:="told") (fun i S R hi x hR=>?_) al ξ G fun S x d=>⟨aq (by simp),fun T I=>?_⟩)⟩⟩
 ·obtain⟨as,N,ht⟩:=(z.same ((Same.new F).trans x)).hW
  have a:0<=i/\i<=8/\i≠1:=by simp only[List.mem_cons,List.not_mem_nil,or_false] at hi;(first|lia|omega)
  refine⟨_,rfl,_,rfl,W,_,rfl,.inl (SqL.of N),fun X h1=>⟨aq (by simp),fun Z g1=>⟨aq (by simp),fun M1 J=>?_⟩⟩⟩;have c:=Same.new (o:=.lst (as.map V.ref)) h1;have e:=Same.new (o:=.tup []) g1;have g:=Same.new (o:=.lst []) J;exact⟨i,X,_,M1,"told",rfl,a.1,a.2.1,.inr (.inl ⟨rfl,a.2.2,⟨pss,as,SqL.of (g _ _ (e _ _ al)),g.tps (e.tps (c.tps ht)),hw⟩,SqL.of al⟩),fun H' s'=>hR H' (((c.trans e).trans g).trans s')⟩
 ·refine⟨T,8,_,rfl,rfl,al,ξ,ξ,aq (by simp),fun U M=>?_⟩
  have c:=Same.new (o:=.lst [.str "told"]) I;exact⟨D,U,["told","told","told","told","told","told","told","told"],rfl,rfl,SqL.of ((Same.new M) _ _ (c _ _ d)),SqL.of al,δ,k _⟩
def FB{f:Addr}{cdv:Value}{A:Around}{outer:List Env}{s:Shared}{H:Hp}{Q:VK}{E:XK}(hr:Room 13 (a_ aR P w K mg base dO "law" (ze bQ) f cdv A outer s H E).A)(k:∀H',Q (.bl true) H')(B:Bt mg)(D:Cl P w K mg base aR "_law_met" ["way","web","piece","pairs"] 13 (hX K)):∃G,PSs (a_ aR P w K mg base dO "law" (ze bQ) f cdv A outer s H E).nox (List.drop 8 (zA bQ)) G/\∀(W d e l:Addr)(pss:Ξ)(p q r:Option V)(H2:Hp),Zs H2 W d e pss->Lm H2 l lU->
    G {nx:=fun _ H'=>Q .non H',rt:=Q} [p,q,some (.ref W),some (.ref d),some (.ref e),r,some (.ref l)] H2:=by
 obtain⟨t9,X,Y⟩:=Fz (f:=f) (cdv:=cdv) (A:=A) (outer:=outer) (s:=s) (H:=H) (Q:=Q) (E:=E) hr k B D;refine⟨_,zd (zU (PW.pt (mE (zn ij (zE D hr rfl aF (ae zf (ae (pv 6) (ae (zx ap) (ae (zr ap) ap))))) pe_str (aK _)) (mx (zn ij (zE D hr rfl aF (ae zf (ae (zt dO ["k"] [none] (mN rfl B.range (ae zf ap)) (fun F C s₀ H₀ ex=>zi (i:=0) (cO ["k"]) rfl (Or.inl rfl)) (fun F C s₀ H₀ ex=>zM) (fun F C s₀ H₀ ex=>zx (ae (pv 0) (ae zf ap))) (hfr:=di δ)) (ae (zx ap) (ae (zr ap) ap))))) pe_str (aK _))))) (zg (zm ej)) zq) X,?_⟩;intro W d e l pss p q r H2 z I;obtain⟨xs,Z,vi⟩:=I;refine⟨_,rfl,aq (by simp),fun T1 g1=>⟨aq (by simp),fun M1 J=>?_⟩⟩;have u:=Same.new (o:=.tup []) g1;have v:=Same.new (o:=.lst []) J;refine⟨0,l,_,M1,"told",rfl,ξ,ξ,.inr (.inl ⟨rfl,ξ,⟨lU,xs,SqL.of (v _ _ (u _ _ Z)),v.tps (u.tps vi),P_⟩,SqL.of al⟩),fun H3 L=>⟨rfl,_,rfl,a9 ?_⟩⟩;refine⟨20,rfl,ξ,ξ,fun D1 M=>zB (rx (n:=20) (lo:=0) (c:=[]) (g:=fun(k:Nat)=>[0+(k:Int),99]) (fun j H R hj h=>⟨_,rfl,aq (by simp),fun a ha=>h a _ (Same.new ha) al⟩) ξ M fun H4 bs N O S=>⟨aq (by simp),fun T2 g2=>⟨aq (by simp),fun M2 T=>?_⟩⟩)⟩;have x:=Same.new (o:=.tup []) g2;have y:=Same.new (o:=.lst []) T;have iT:=(((u.trans v).trans L).trans N).trans (x.trans y);exact⟨5,D1,_,M2,"told",rfl,ξ,ξ,.inr (.inl ⟨rfl,ξ,⟨r20,bs,SqL.of (y _ _ (x _ _ O)),y.tps (x.tps S),P'⟩,SqL.of al⟩),fun H5 U=>⟨rfl,_,rfl,a9 (Y W d e pss p q r _ H5 (z.same (iT.trans U)))⟩⟩
def FC{f:Addr}{cdv:Value}{A:Around}{outer:List Env}{s:Shared}{H:Hp}{Q:VK}{E:XK}(hr:Room 13 (a_ aR P w K mg base dO "law" (ze bQ) f cdv A outer s H E).A)(k:∀H',Q (.bl true) H')(B:Bt mg)(Cm:Cl P w K mg base aR "_law_met" ["way","web","piece","pairs"] 13 (hX K)):∃D,PSs (a_ aR P w K mg base dO "law" (ze bQ) f cdv A outer s H E).nox (List.drop 7 (zA bQ)) D/\∀(W e l:Addr)(pss:Ξ)(p q r:Option V)(H2:Hp),Zs H2 W e l pss->
    D {nx:=fun _ H'=>Q .non H',rt:=Q} [p,q,some (.ref W),some (.ref e),some (.ref l),r,none] H2:=by
 obtain⟨t8,S,T⟩:=FB (f:=f) (cdv:=cdv) (A:=A) (outer:=outer) (s:=s) (H:=H) (Q:=Q) (E:=E) hr k B Cm;refine⟨_,zd (zk (i:=6) lP.nd rfl (Or.inl rfl) (zu iu (zt dO ["k"] [none] (mN rfl B.range (ae zf ap)) (fun d C s₀ H₀ ex=>zi (i:=0) (cO ["k"]) rfl (Or.inl rfl)) (fun d C s₀ H₀ ex=>zM) (fun d C s₀ H₀ ex=>zx (ae (zu dU zf (pv 0)) (ae (zu dn (zu dU zf (pv 0)) zf) (ae (zu dn (zu dU zf (pv 0)) zf) (ae (zu dn (zu dU zf (pv 0)) zf) (ae (zu dn (zu dU zf (pv 0)) zf) ap)))))) (hfr:=di δ)) (zt dO ["k"] [none] (JQ rfl B.range (ae zf (ae zf ap))) (fun d C s₀ H₀ ex=>zi (i:=0) (cO ["k"]) rfl (Or.inl rfl)) (fun d C s₀ H₀ ex=>zM) (fun d C s₀ H₀ ex=>zx (ae (pv 0) ap)) (hfr:=di δ)))) S,?_⟩;intro W e l pss p q r H2 z;refine⟨6,rfl,ξ,ξ,fun Y G=>zB (rx (n:=6) (lo:=0) (c:=[]) (g:=fun(k:Nat)=>[5*(0+(k:Int)),5*(0+(k:Int))+1,5*(0+(k:Int))+2,5*(0+(k:Int))+3,5*(0+(k:Int))+4]) (fun j H R I h=>⟨_,rfl,_,_,rfl,rfl,.inl ⟨ξ,ξ⟩,_,rfl,_,_,rfl,rfl,.inl ⟨ξ,ξ⟩,_,_,rfl,rfl,_,rfl,_,_,rfl,rfl,.inl ⟨ξ,ξ⟩,_,_,rfl,rfl,_,rfl,_,_,rfl,rfl,.inl ⟨ξ,ξ⟩,_,_,rfl,rfl,_,rfl,_,_,rfl,rfl,.inl ⟨ξ,ξ⟩,_,_,rfl,rfl,aq (by simp),fun a ha=>h a _ (Same.new ha) al⟩) ξ G fun H3 bs J u L=>?_)⟩;refine⟨90,100,rfl,ξ,fun Z M=>zB (rx (n:=10) (lo:=90) (c:=[]) (g:=fun(k:Nat)=>[90+(k:Int)]) (fun j H R I h=>⟨_,rfl,aq (by simp),fun a ha=>h a _ (Same.new ha) al⟩) ξ M fun H4 x v N y=>?_)⟩;have F:=v.tps L;have U:=F.length;have X:=y.length;rw[Ab,List.length_range] at U X;refine⟨Y,Z,_,_,rfl,rfl,v _ _ u,N,by rw[Ab,Ab];exact aq ω,fun SX O=>?_⟩;have a:=Same.new (o:=.lst (bs.map V.ref++x.map V.ref)) O;exact T W e l SX pss p q r _ (z.same ((J.trans v).trans a)) ⟨bs++x,by rw[al,Ah],Jc (a.tps F) (a.tps y)⟩
def FD{f:Addr}{cdv:Value}{A:Around}{outer:List Env}{s:Shared}{H:Hp}{Q:VK}{E:XK}(hr:Room 13 (a_ aR P w K mg base dO "law" (ze bQ) f cdv A outer s H E).A)(k:∀H',Q (.bl true) H')(B:Bt mg)(I:Cl P w K mg base aR "_law_met" ["way","web","piece","pairs"] 13 (hX K)):∃F,PSs (a_ aR P w K mg base dO "law" (ze bQ) f cdv A outer s H E).nox (List.drop 6 (zA bQ)) F/\∀(W h d:Addr)(pss:Ξ)(j l p:Option V)(H2:Hp),Zs H2 W h d pss->
    F {nx:=fun _ H'=>Q .non H',rt:=Q} [j,l,some (.ref W),some (.ref h),some (.ref d),p,none] H2:=by
 have Y:=hr.units;obtain⟨t7,O,S⟩:=FC (f:=f) (cdv:=cdv) (A:=A) (outer:=outer) (s:=s) (H:=H) (Q:=Q) (E:=E) hr k B I;refine⟨_,zd (zU (zn (r:=xB false K) (PZ Y) (zt dO ["way","web","pairs"] [none,some 2,some 4] (zv (zr (ae zf (ae zf ap)))) (fun x C s₀ H₀ ex=>zi (i:=0) (cO ["way","web","pairs"]) rfl (Or.inl rfl)) (fun x C s₀ H₀ ex=>zM)
  (fun x C s₀ H₀ ex=>(zE I hr rfl aF (ae (pv 0) (ae (zG zR rfl B.list gI (ae (pv 1) ap)) (ae (zx (ae zf ap)) (ae (zG zR rfl B.list gI (ae (pv 2) ap)) ap)))))) (hfr:=cw (ze bQ) δ) (te:=Qb K)) (zr (ae pe_str (ae pe_str ap))) (aK _)) (zg (zm ej)) zq) O,?_⟩
 intro W h d pss j l p H2 z;obtain⟨hw,_⟩:=vh z.hd;refine⟨aq (by simp),fun L y=>⟨L,rfl,⟨_,SqL.of al⟩,fun D J=>zB (Je (is:=[7,8]) (t:="push") (fun i Z R hi q hR=>?_) al ξ J fun Z q u=>⟨aq (by simp),fun T M=>?_⟩)⟩⟩
 ·have G:=z.same ((Same.new y).trans q)
  obtain⟨as,U,ht⟩:=G.hW;obtain⟨ts,X,hp⟩:=G.hP;have v:i=7\/i=8:=by simpa using hi
  refine⟨_,rfl,_,rfl,W,_,rfl,.inl (SqL.of U),fun L1 h1=>⟨aq (by simp),fun T1 g1=>?_⟩⟩;have e:=Same.new (o:=.lst (as.map V.ref)) h1;have c:=Same.new (o:=.tup [.int 100]) g1;refine⟨_,rfl,d,_,rfl,.inl (SqL.of (c _ _ (e _ _ X))),fun M1 N=>?_⟩;have g:=Same.new (o:=.lst (ts.map V.ref)) N;exact⟨i,L1,_,M1,"push",rfl,ω,ω,.inr (.inr (.inr ⟨rfl,v,as,pss,ts,[zP,zP],SqL.of (g _ _ (c _ _ al)),g.tps (c.tps (e.tps ht)),hw,SqL.of al,((hp.same e).same c).same g,ξ,Qa z.hd⟩)),fun H' s'=>hR H' (((e.trans c).trans g).trans s')⟩
 ·have a:=Same.new (o:=.lst [.str "push",.str "push"]) M
  exact⟨D,T,["push","push"],rfl,rfl,SqL.of (a _ _ u),SqL.of al,δ,_,rfl,a9 (S W h d pss j l p _ (z.same (((Same.new y).trans q).trans a)))⟩
def FE{f:Addr}{cdv:Value}{A:Around}{outer:List Env}{s:Shared}{H:Hp}{Q:VK}{E:XK}(hr:Room 13 (a_ aR P w K mg base dO "law" (ze bQ) f cdv A outer s H E).A)(k:∀H',Q (.bl true) H')(B:Bt mg)(l:Cl P w K mg base aR "_law_met" ["way","web","piece","pairs"] 13 (hX K)):∃p,PSs (a_ aR P w K mg base dO "law" (ze bQ) f cdv A outer s H E).nox (List.drop 5 (zA bQ)) p/\∀(W a c:Addr)(pss:Ξ)(d e g:Option V)(H2:Hp),Zs H2 W a c pss->
    p {nx:=fun _ H'=>Q .non H',rt:=Q} [d,e,some (.ref W),some (.ref a),some (.ref c),g,none] H2:=by
 obtain⟨S,I,J⟩:=FD (f:=f) (cdv:=cdv) (A:=A) (outer:=outer) (s:=s) (H:=H) (Q:=Q) (E:=E) hr k B l;refine⟨_,zd (zU (PW.pt (mE (zn ij (zE l hr rfl aF (ae zf (ae (zG zR rfl B.list gI (ae (pv 2) ap)) (ae (zx (ae zf ap)) (ae (zr ap) ap))))) pe_str (aK _)) (mx (zn ij (zE l hr rfl aF (ae zf (ae (zG zR rfl B.list gI (ae (pv 2) ap)) (ae (zx ap) (ae (zr ap) ap))))) pe_str (aK _))))) (zg (zm ej)) zq) I,?_⟩;intro W a c pss d e g H2 z;obtain⟨hw,_⟩:=vh z.hd;obtain⟨as,q,ht⟩:=z.hW;refine⟨_,rfl,W,_,rfl,.inl (SqL.of q),fun N h1=>⟨aq (by simp),fun y g1=>⟨aq (by simp),fun M1 C=>?_⟩⟩⟩;have L:=Same.new (o:=.lst (as.map V.ref)) h1;have r:=Same.new (o:=.tup [.int 100]) g1;have h:=Same.new (o:=.lst []) C;have u:=(L.trans r).trans h;refine⟨1,N,_,M1,"piece",rfl,ξ,ξ,.inr (.inr (.inl ⟨rfl,rfl,y,as,pss,[100],rfl,SqL.of (h _ _ (r _ _ al)),u.tps ht,hw,h.tp (show Tp _ y [100] from al),Jb hw ξ⟩)),fun T D=>⟨rfl,_,rfl,a9 ?_⟩⟩;have i:=u.trans D;refine⟨_,rfl,W,_,rfl,.inl (SqL.of (i _ _ q)),fun L2 h2=>⟨aq (by simp),fun T2 g2=>⟨aq (by simp),fun M2 F=>?_⟩⟩⟩;have M:=Same.new (o:=.lst (as.map V.ref)) h2;have v:=Same.new (o:=.tup []) g2;have j:=Same.new (o:=.lst []) F;have x:=(M.trans v).trans j;exact⟨1,L2,_,M2,"piece",rfl,ξ,ξ,.inr (.inr (.inl ⟨rfl,rfl,T2,as,pss,[],rfl,SqL.of (j _ _ (v _ _ al)),(i.trans x).tps ht,hw,j.tp (show Tp _ T2 [] from al),Jb hw ξ⟩)),fun O G=>⟨rfl,_,rfl,a9 (J W a c pss d e g O (z.same ((i.trans x).trans G)))⟩⟩
def FF{f:Addr}{cdv:Value}{A:Around}{outer:List Env}{s:Shared}{H:Hp}{Q:VK}{E:XK}(hr:Room 13 (a_ aR P w K mg base dO "law" (ze bQ) f cdv A outer s H E).A)(k:∀H',Q (.bl true) H')(B:Bt mg)(y:Cl P w K mg base aR "_law_met" ["way","web","piece","pairs"] 13 (hX K)):∃p,PSs (a_ aR P w K mg base dO "law" (ze bQ) f cdv A outer s H E).nox (List.drop 4 (zA bQ)) p/\∀(W a c:Addr)(pss:Ξ)(d e:Option V)(H2:Hp),Zs H2 W a c pss->
    p {nx:=fun _ H'=>Q .non H',rt:=Q} [d,e,some (.ref W),some (.ref a),some (.ref c),none,none] H2:=by
 obtain⟨S,F,G⟩:=FE (f:=f) (cdv:=cdv) (A:=A) (outer:=outer) (s:=s) (H:=H) (Q:=Q) (E:=E) hr k B y;refine⟨_,zd (zV AE rfl (mN rfl B.range (ae zf ap)) (zi (i:=5) lP.nd rfl (Or.inl rfl))
  (zg (zU (zn ij (zE y hr rfl aF (ae (pv 5) (ae (zG zR rfl B.list gI (ae (pv 3) ap)) (ae (zx (ae zf ap)) (ae (zG zR rfl B.list gI (ae (pv 4) ap)) ap))))) pe_str (aK _)) (zg (zm ej)) zq))) F,?_⟩
 intro W a c pss d e H2 z;refine⟨9,rfl,ξ,ξ,JS (lo:=0) (n:=9) (fun m σ j=>∃g:Option V,σ=[d,e,some (.ref W),some (.ref a),some (.ref c),g,none]/\Same H2 j) ⟨none,rfl,Same.refl H2⟩ ?_ ?_⟩
 ·rintro m σ j hm ⟨g,rfl,h⟩
  have r:=z.same h;obtain⟨bs,I,J,L,q,hf,M⟩:=r.hB;obtain⟨ts,N,hp⟩:=r.hP;refine⟨_,rfl,_,rfl,a,_,rfl,.inl (SqL.of J),fun O h1=>⟨aq (by simp),fun T g1=>?_⟩⟩;have u:=Same.new (o:=.lst (bs.map V.ref)) h1;have l:=Same.new (o:=.tup [.int 100]) g1;refine⟨_,rfl,c,_,rfl,.inl (SqL.of (l _ _ (u _ _ N))),fun M1 C=>?_⟩;have v:=Same.new (o:=.lst (ts.map V.ref)) C;have x:=(u.trans l).trans v;exact⟨_,O,_,M1,"web",rfl,ω,ω,.inl ⟨rfl,bs,I,SqL.of (v _ _ (l _ _ al)),x.tps L,hf,M⟩,fun U D=>⟨rfl,_,rfl,a9 ⟨_,rfl,h.trans (x.trans D)⟩⟩⟩
 ·rintro σ j ⟨g,rfl,h⟩
  exact G W a c pss d e g j (z.same h)
structure l_(X:Cx)(es:List Expr)(t:TA):Prop where
 h:PA X es t
def eS{X:Cx}:l_ X [] bD:=⟨ap⟩
def oD{X:Cx}{a:Int}{j:Nat}{p:Pos}{es:List Expr}{t:TA}(h:l_ X es t):l_ X (.Constant (.int a) j p::es) (zL (tC (.int a)) t):=⟨ae zf h.h⟩
def oH{X:Cx}{xs es:List Expr}{k:Nat}{q:Pos}{t u:TA}(hx:l_ X xs u)(h:l_ X es t):l_ X (.Tuple xs k q::es) (zL (cI u) t):=⟨ae (zx hx.h) h.h⟩
def lS(i:Nat):Stmt:=(zA bQ).getD i (.Pass ⟨0,0,0,0⟩)
abbrev Jf(a:Int):TE:=cI (zL (tC (.int a)) bD)
abbrev Jg(a b:Int):TE:=cI (zL (tC (.int a)) (zL (tC (.int b)) bD))
def Qd:List Expr:=match lS 3 with
 |.Assign _ (.List E _) _=>E
 |_=>[]
def Qe:∃E:List Expr,lS 3=.Assign [.Name "pairs" ⟨318,4,318,9⟩] (.List E ⟨318,12,318,46⟩) ⟨318,4,318,46⟩/\∀X:Cx,l_ X E (zL (cI (zL (Jf 0) (zL (Jg 0 99) bD))) (zL (cI (zL (Jf 0) (zL (Jg 0 99) bD))) bD)):=
 ⟨Qd,by kernel_rfl,fun X=>oH (oH (oD eS) (oH (oD (oD eS)) eS)) (oH (oH (oD eS) (oH (oD (oD eS)) eS)) eS)⟩
def lw:zA bQ=[lS 0,lS 1,lS 2,lS 3,lS 4,lS 5,lS 6,lS 7,lS 8,lS 9]:=by kernel_rfl
def Qf{f:Addr}{fd:FuncData}(F:Fun K "law" "law" bQ f fd)(B:Bt mg)(Cc:Cl P w K mg base aR "_law_cell_at" ["script","k"] 1 (HB K))(Cb:Cl P w K mg base aR "_law_box" ["cell"] 1 HC)(Ct:Cl P w K mg base aR "_law_take" ["box","most"] 1 uX)(Ck:Cl P w K mg base aR "_law_known" ["number"] 1 HE)(Cn:Cl P w K mg base aR "_law_named" ["box","web"] 2 HF)(Co:Cl P w K mg base aR "_law_none" ["box","web"] 2 Ja)(Cm:Cl P w K mg base aR "_law_met" ["way","web","piece","pairs"] 13 (hX K)):FnOk P w K mg base aR 14 f fd ["script"] (xC K):=by
 refine F.ok lP (fun vs H Q E h=>?_) (fun cdv A outer s H vs Q E hr h=>?_)
 ·obtain⟨a,I,rfl,_⟩:=h;rfl
 ·obtain⟨a,I,rfl,hS,hn,k⟩:=h
  have aE:=hr.units;obtain⟨d,J,e4⟩:=FF (f:=f) (cdv:=cdv) (A:=A) (outer:=outer) (s:=s) (H:=H) (Q:=Q) (E:=E) hr k B Cm;rw[lw] at J;obtain⟨EL,x4,qE⟩:=Qe;rw[lw,x4];have wD:PSs (a_ aR P w K mg base dO "law" (ze bQ) f cdv A outer s H E).nox [lS 4,lS 5,lS 6,lS 7,lS 8,lS 9] d:=J;refine⟨_,zd (zk (i:=1) lP.nd rfl (Or.inl rfl) (zE Cb hr rfl aF (ae (zE Cc hr rfl aF (ae (pv 0) (ae zf ap))) ap)))
   (zd (zk (i:=2) lP.nd rfl (Or.inr rfl) (zE Cn hr rfl aF (ae (pv 1) (ae (zE Ck hr rfl aF (ae (zE Ct hr rfl aF (ae (pv 1) (ae zf ap))) ap)) ap))))
   (zd (zk (i:=3) lP.nd rfl (Or.inl rfl) (zE Co hr rfl aF (ae (pv 1) (ae (pv 2) ap))))
   (zd (zk (i:=4) lP.nd rfl (Or.inr rfl) (zr (qE _).h))
   wD))),?_⟩
  refine⟨_,rfl,a,I,rfl,hS,fun n=>⟨n,rfl,fun p x y hp T=>?_⟩⟩;have L:zah (upd H p (.lst [.int x,.int y])) p:=⟨x,y,al,T⟩;generalize upd H p (.lst [.int x,.int y])=H0 at L;refine⟨_,rfl,_,rfl,p,20,rfl,L,ξ,ξ,fun n H1 U n1 r6 X=>?_⟩;obtain⟨m,rfl⟩:=Int.eq_ofNat_of_zero_le U;refine⟨m,rfl,ω,fun KD as H2 Y bU Z ht=>?_⟩;obtain⟨g1,g2⟩:=MY m ω;refine⟨p,KD,as,known m,rfl,X.same Y,Z,ht,g1,fun ps hp=>by have:=(g2 ps hp).2;(first|lia|omega),fun W bs e first aG H3 gN C DC D G c1 c2 c3 c4 c=>?_⟩;have M:Drawn e:=⟨known m,first,aG,.inl ⟨m,ω,rfl⟩,c1,c2,c3,c4,c⟩;have CS:e.length<=17:=(vh M).2.2;refine⟨_,rfl,_,rfl,p,W,bs,e,rfl,C,D,G,ω,fun BD H4 jb bZ f_=>?_⟩;have wU:Lm H4 W e:=Lm.box ⟨bs,D,G⟩ jb C;refine⟨aq (by simp),fun g y1=>⟨aq (by simp),fun j y2=>⟨aq (by simp),fun q1 y3=>⟨aq (by simp),fun l y4=>⟨aq (by simp),fun d y5=>⟨aq (by simp),fun q y6=>⟨aq (by simp),fun PL y7=>?_⟩⟩⟩⟩⟩⟩⟩;have u1:=Same.new (o:=.tup [.int 0]) y1;have N:=Same.new (o:=.tup [.int 0,.int 99]) y2;have u:=Same.new (o:=.tup [.ref g,.ref j]) y3;have O:=Same.new (o:=.tup [.int 0]) y4;have v:=Same.new (o:=.tup [.int 0,.int 99]) y5;have r:=Same.new (o:=.tup [.ref l,.ref d]) y6;have z:=Same.new (o:=.lst [.ref q1,.ref q]) y7;have p1:Pr2 _ q1 zP:=⟨g,j,al (a:=q1) (o:=.tup [.ref g,.ref j]),u.tp (N.tp (show Tp _ g [0] from al)),u.tp (show Tp _ j [0,99] from al)⟩;have p2:Pr2 _ q zP:=⟨l,d,al (a:=q) (o:=.tup [.ref l,.ref d]),r.tp (v.tp (show Tp _ l [0] from al)),r.tp (show Tp _ d [0,99] from al)⟩;have S:=(((((u1.trans N).trans u).trans O).trans v).trans r).trans z;exact e4 W BD PL e _ _ _ ⟨wU.same S,M,f_.same S,⟨[q1,q],al,.cons ((((p1.same O).same v).same r).same z) (.cons (p2.same z) .nil)⟩⟩
end
end K51
end
section
namespace K51
open K1
open PySem L2 STb
def Qg{l:PySem.W.OpenLaw}{w:World}{K:Ac}{h:Heap}{mg:Str->Option Value}{fa f1 f2 f3 f4 f5 f6 f7 f8 f9 B2 CJ yI wt A_ yq vo Bm wX xJ vb Bj CK vL vy yd wV yK wW yt vE yN z_ B' yg Bw xh CH BU BZ yZ x8 BJ c e1 e2 e3 C D E:Addr}{tp tq tr ts:Tok}(X:K.In h)(G:h.Ns mainGlobals mg)(w4:mg "law"=some (.ref fa))(d1:Df K "is_piece" uq f1)(d2:Df K "parts_of" nQ f2)(d3:Df K "rims_of" hU f3)(d4:Df K "order_key" eC f4)(d5:Df K "in_order" kF f5)(d6:Df K "all_parts" gz f6)(d7:Df K "greatest_of" vp f7)(d8:Df K "is_web" uD f8)(d9:Df K "must_be_web" qi f9)(nM:Df K "pieces" k7 B2)(vJ:Df K "pieces_about" Fh CJ)(wA:Df K "free_pairs" wN yI)(v9:Df K "free_among" vM wt)(vn:Df K "pushed" Fm A_)(CL:Df K "taken_out" vS yq)(wz:Df K "pushes" wO vo)(Cd:Df K "is_pushed" wQ Bm)(BM:Df K "seam_terms" n7 wX)(yl:Df K "sum_of" iU xJ)(BR:Df K "judged" qQ vb)(yB:Df K "first_bad" qP Bj)(xj:Df K "is_pair" wl CK)(Cr:Df K "first_round" wo vL)(BN:Df K "round_with" qH vy)(wR:Df K "other_rims" lc yd)(wY:Df K "pairing" oA wV)(wg:Df K "pairs_of" gT yK)(yV:Df K "left_over" ou wW)(xI:Df K "thin_seams" rg yt)(BO:Df K "ends_of" qY vE)(yD:Df K "step_terms" qT yN)(CB:Df K "brought_to_ends" ol z_)(xz:Df K "_law_cell_at" Ev B')(yh:Df K "_law_box" kZ yg)(Bz:Df K "_law_take" uU Bw)(BL:Df K "_law_known" Ex xh)(wF:Df K "_law_named" u4 CH)(vO:Df K "_law_which" wT BU)(v_:Df K "_law_called" zS BZ)(x_:Df K "_law_met" lH yZ)(Bg:Df K "_law_none" je x8)(sX:Df K "law" bQ BJ)(gp:Nn K "MOST_POINTS" (some (.int 5 tp)))(gq:Nn K "LAST_POINT" (some (.int 99 tq)))(gr:Nn K "MOST_HANDED" (some (.int 20 tr)))(gs:Nn K "MOST_PIECES" (some (.int 200 ts)))(um:Nn K "NoWeb" (some (.ref c)))(sP:Nn K "NoPiece" (some (.ref e1)))(uf:Nn K "NoPush" (some (.ref e2)))(xL:Nn K "NoOrder" (some (.ref e3)))(CG:Nn K "NoNumber" (some (.ref C)))(xb:Nn K "NoChain" (some (.ref D)))(xt:Nn K "SeamError" (some (.ref E)))(q0:PySem.W.excIn K c hV "ValueError.__new__"=true)(q1:PySem.W.excIn K e1 hV "ValueError.__new__"=true)(q2:PySem.W.excIn K e2 hV "ValueError.__new__"=true)(M0:Mk K c c e1 e2 e3 C D true false false)(M1:Mk K e1 c e1 e2 e3 C D false true false)(M2:Mk K e2 c e1 e2 e3 C D false false true)(S0:eG K c E)(S1:eG K e1 E)(S2:eG K e2 E)(z1:Nn K "len" none)(z2:Nn K "all" none)(z3:Nn K "zip" none)(z4:Nn K "sorted" none)(z5:Nn K "set" none)(z6:Nn K "list" none)(z7:Nn K "tuple" none)(z8:Nn K "range" none)(z9:Nn K "enumerate" none)(yO:Nn K "int" none)(xU:Nn K "isinstance" none)(xQ:Nn K "reversed" none)(Ba:Nn K "bool" none)(rM:Nn K "any" none)(vm:Nn K "ValueError" none)(BH:Nn K "dict" none):∃fd:FuncData,(∀(s:Shared)(v:Value),BindsTo s fd ⟨[v],[]⟩ [("script",v)])/\∀base:Heap,K.In base->base.Ns mainGlobals mg->FnOk l.prog w K mg base aR 14 fa fd ["script"] (xC K):=by
 cases w4.symm.trans (sX.m X G);have B:Bt mg:=⟨z1.n X G,z2.n X G,z3.n X G,z4.n X G,z5.n X G,z6.n X G,z7.n X G,z8.n X G,z9.n X G,yO.n X G,xU.n X G,xQ.n X G,Ba.n X G⟩;obtain⟨g1,F1,b1,m1⟩:=d1.g1 X G "numbers";obtain⟨g2,F2,b2,m2⟩:=d2.g1 X G "piece";obtain⟨g3,j,d,f⟩:=d3.g1 X G "piece";obtain⟨g4,F,r,u⟩:=d4.g1 X G "piece";obtain⟨g5,H,x,y⟩:=d5.g1 X G "some";obtain⟨g6,F6,b6,m6⟩:=d6.g1 X G "some";obtain⟨g7,F7,b7,m7⟩:=d7.g1 X G "every";obtain⟨g8,F8,b8,m8⟩:=d8.g1 X G "web";obtain⟨g9,I,b9,m9⟩:=d9.g1 X G "web";obtain⟨DB,a,g,i⟩:=nM.g1 X G "web";obtain⟨Da,tG,BX,yQ⟩:=vJ.g2 X G "web" "piece";obtain⟨DK,J,xF,yE⟩:=wA.g1 X G "web";obtain⟨Dh,rH,BB,Cu⟩:=v9.g1 X G "every";obtain⟨Du,sD,B8,Bb⟩:=vn.g2 X G "web" "piece";obtain⟨Dl,uB,uW,B9⟩:=CL.g2 X G "every" "pair";obtain⟨DD,L,yR,BF⟩:=wz.g1 X G "web";obtain⟨Dn,M,yS,CN⟩:=Cd.g3 X G "web" "pairs" "other";obtain⟨CV,N,sJ,sU⟩:=BM.g2 X G "piece" "often";obtain⟨DX,wK,xn,BV⟩:=yl.g1 X G "terms";obtain⟨C_,o,O,Q⟩:=BR.g2 X G "web" "pairs";obtain⟨DR,S,uK,rJ⟩:=yB.g2 X G "every" "pairs";obtain⟨Db,rA,Bd,yu⟩:=xj.g2 X G "every" "pair";obtain⟨CU,uI,Bs,y8⟩:=Cr.g1 X G "pairs";obtain⟨Dm,T,tJ,rp⟩:=BN.g2 X G "seconds" "new";obtain⟨DQ,z,U,Y⟩:=wR.g1 X G "pair";obtain⟨DE,Z,x5,wH⟩:=wY.g1 X G "web";obtain⟨Dj,p4,r9,tE⟩:=wg.g1 X G "every";obtain⟨Dz,p,oJ,qD⟩:=yV.g2 X G "web" "pairs";obtain⟨DS,p9,xm,yr⟩:=xI.g2 X G "web" "pairs";obtain⟨Do,sV,yM,uV⟩:=BO.g2 X G "left" "pairs";obtain⟨Ds,rR,wy,CM⟩:=yD.g1 X G "pair";obtain⟨CW,qc,uw,ux⟩:=CB.g2 X G "terms" "ends";obtain⟨Dv,rC,xM,BS⟩:=xz.g2 X G "script" "k";obtain⟨Dr,tY,BY,vK⟩:=yh.g1 X G "cell";obtain⟨DF,oI,uC,rN⟩:=Bz.g2 X G "box" "most";obtain⟨Dp,ud,B3,w9⟩:=BL.g1 X G "number";obtain⟨Dw,sO,vP,xr⟩:=wF.g2 X G "box" "web";obtain⟨Dy,rS,yX,vj⟩:=vO.g1 X G "e";obtain⟨Dd,ub,Br,vW⟩:=v_.g4 X G "way" "web" "piece" "pairs";obtain⟨CQ,tm,vI,uY⟩:=x_.g4 X G "way" "web" "piece" "pairs";obtain⟨Dx,uO,Cz,B5⟩:=Bg.g2 X G "box" "web";obtain⟨⟨gL,FL⟩,_⟩:=sX;refine⟨gL,?_,fun base _ _=>?_⟩
 ·obtain⟨_,_,_,_,_,_,_,_,_,rfl,_,_⟩:=FL.ex;exact fun s v=>.of_eq rfl
 have oE:=Hz (P:=l.prog) (w:=w) (base:=base) F6 B F2 b2 m2 H x y F r u;have kH:=MN (P:=l.prog) (w:=w) (base:=base) F8 B (gp.m X G) (gq.m X G) (gr.m X G) (gs.m X G) F1 b1 m1 F6 b6 m6 F2 b2 m2 H x y F r u;have Gm:=Nd I F8 b8 m8 kH;have q:=Nf a I b9 m9 Gm F6 b6 m6 oE;have uP:=Po a (ll I b9 m9 Gm (Pn I (um.m X G) q0 (dr F8 b8 m8 kH)));have Cp:=dr a g i q;have A:=dr a g i uP;have rP:=ll a g i q uP;have qh:=dr rH BB Cu (ND (P:=l.prog) (w:=w) (base:=base) rH B j d f);have vz:=dr uB uW B9 (NF (P:=l.prog) (w:=w) (base:=base) uB);have wE:=dr F7 b7 m7 (Nj (P:=l.prog) (w:=w) (base:=base) F7 B j d f H x y F r u);have qL:=NJ (P:=l.prog) (w:=w) (base:=base) z B j d f;have rV:=Os T B z U Y qL;have Bx:=OC (P:=l.prog) (w:=w) (base:=base) rA B j d f;have sf:=OD S B (rM.n X G) δ rA Bd yu Bx;have Bk:=OE uI B T tJ rp rV;have uH:=OF o B S uK rJ sf uI Bs y8 Bk a g i q;have tu:=O8 p B (uf.m X G) q2 o O Q uH a g i q;have sI:=N9 (P:=l.prog) (w:=w) (base:=base) N B j d f;have uz:=Ol (P:=l.prog) (w:=w) (base:=base) qc wK xn BV;have vB:=Ox rR B (BH.n X G) z U Y qL N sJ sU sI;have Gen:=OA sV B z U Y qL rR wy CM vB qc uw ux uz;have yT:=O_ p9 B p oJ qD tu sV yM uV Gen N sJ sU sI qc uw ux uz;have uE:=Pe (P:=l.prog) (w:=w) (base:=base) p4 B j d f;have xN:=Pl Z B (rM.n X G) δ a g i q p4 r9 tE uE T tJ rp rV H x y F r u;have ur:=PH o (dr S uK rJ sf) A;have sY:=PK p (dr o O Q ur);have x9:=PM p9 (dr p oJ qD sY);have wf:=dr ub Br vW (PR ub (ll J xF yE (Pu J Cp qh) (Pv J A qh)) (dr sD B8 Bb (Pw sD (dr tG BX yQ (Ps tG (sP.m X G) q1 rP)))) (ll L yR BF (Py L B Cp qh vz wE) (Pz L A)) (ll M yS CN (PD M Cp) (PF M rP)) (ll o O Q uH ur) (ll Z x5 wH xN (PJ Z (dr p4 r9 tE uE) A)) (Jd p oJ qD tu sY) (Jd p9 xm yr yT x9));have xW:=PN (P:=l.prog) (w:=w) (base:=base) rS B.isinstance (vm.n X G) (um.m X G) (sP.m X G) (uf.m X G) (xL.m X G) (CG.m X G) (xb.m X G);have Bl:=dr tm vI uY (PX tm (xt.m X G) wf rS yX vj xW M0 M1 M2 S0 S1 S2);have Ct:=dr oI uC rN (HD (P:=l.prog) (w:=w) (base:=base) oI);exact Qf FL B (dr rC xM BS (MP rC B)) (dr tY BY vK (MR tY)) Ct (dr ud B3 w9 (MV ud B)) (dr sO vP xr (MX sO B oI uC rN)) (dr uO Cz B5 (P9 uO B Ct)) Bl
def walk{l:PySem.W.OpenLaw}{q:Program}{j:List Str}{v:(Str->Option Value)->Heap->Prop}{c:World->Heap->Prop}{d:DefRec}{K:Params->Ac}(o:l.most=some 63)(p:d.params.defaults=[])(r:∀(w:World)(h:Heap),c w h->(K w.params).In h)(F:∀(w:World)(mg:Str->Option Value)(fa:Addr)(h:Heap),(K w.params).In h->h.Ns mainGlobals mg->mg d.name=some (.ref fa)->
   ∃fd:FuncData,(∀(s:Shared)(u:Value),BindsTo s fd ⟨[u],[]⟩ [("script",u)])/\∀base:Heap,(K w.params).In base->base.Ns mainGlobals mg->FnOk l.prog w (K w.params) mg base aR 14 fa fd ["script"] (xC (K w.params))):
  PySem.W.WalkO q j v c l.row.toRowW d [] (fun f vs=>PySem.call f vs):=
 L2.Gz (n:=63) (k:=14) (x:="script") (CX:=fun _=>aR) (sp:=fun w=>xC (K w.params)) o ξ p ⟨rfl,ξ,ξ⟩ r F (fun _ _ a e g _ i=>⟨a,e,rfl,i,g,fun _=>rfl⟩) fun _ _ _ _ _ z=>z
end K51
open PySem PySem.W PyProof.Rows
structure PySem.W.Fast:Prop where
 (tw10007344670987802819 tw10010884222209488736 tw10051776461091910081 tw10102621460594943580 tw10242883322612070912 tw10256300418052394148 tw10320123436297500080 tw10455473653906192800 tw1050073809864043421 tw10521982204297700716 tw10624649036490913974 tw10665457004388641824 tw10687697424336013193 tw10704122062457997185 tw10914439192746580358 tw10930656119213269821 tw11007748619023894326 tw11019093010778992648 tw11096670982075192438 tw11142549134408995559 tw11178413101693723348 tw11179716961990324122 tw11245366962437525337 tw11286100130133652738 tw11312879391044032364 tw11349143425193794399 tw11413753076405157056 tw11503626904263133588 tw11508422309012942954 tw11511882230833752273 tw11579102336346264628 tw11580648718714087728 tw11596108424477898292 tw11640484991079330453 tw11665978754698591195 tw11666669344605834059 tw11693834077053256243 tw11710246131824440410 tw11741143967753894950 tw11760736702108694617 tw11815129166306780910 tw11903078286201445005 tw12038332379831174572 tw12045816910252980221 tw12069863883500613341 tw12086323127880024474 tw12153604962033553076 tw12200836023872405453 tw12208570474289949389 tw1222297401128875275 tw12285920319747853067 tw12510259871375534557 tw12603988869868189321 tw12610684948544136820 tw12689364312416810149 tw12736038157530896039 tw12916177928888998868 tw12937709505345082555 tw13060684129181749616 tw13179435255451141824 tw13204694108625305638 tw13406416420340592995 tw13417214729488885737 tw13445235975885926144 tw13485881926945891578 tw13602861593525523044 tw13653722092242962073 tw13950786942297040129 tw14122724785075680390 tw14201623458212293665 tw14231387823065741927 tw14259494356377379759 tw1436806518977475039 tw14379458703366475470 tw14428904079486240610 tw14461793357140955464 tw14469192823633967431 tw14509194638749394953 tw14588811202004887570 tw14624885974863522540 tw14698667829325285036 tw14727500471789789214 tw14732712568262204516 tw14759279237183880404 tw14778318259934826539 tw14812030758414465455 tw14817304329952316105 tw14865792512343636488 tw14900429619391794623 tw14970831988541097855 tw15022276272417689956 tw15068126915253338102 tw15077415944785022715 tw15233564982208073531 tw15247494239482950826 tw15285362423997547030 tw15288038988476288401 tw15318956126052058817 tw15362189404902336378 tw15370282611035509024 tw15434938687058858706 tw15451622484967945986 tw15464630116182252113 tw15479339133389041482 tw15604246095365421395 tw15674068980445279622 tw15678085472089269013 tw15728422626403322005 tw15736555686681056792 tw15815302298712516572 tw15816759985661119189 tw15817807027664289644 tw15841519786705410047 tw16042655107836587440 tw1605347677210644895 tw16057111007109908093 tw16061991300681793817 tw16080437667059478893 tw16117294518266187859 tw16184699484319977343 tw16243629329109220034 tw16292027334278200604 tw16349092057091359109 tw16376792347486666851 tw16392032935368176394 tw16415041595351223666 tw16544569108975186196 tw16606234241289903434 tw16620952424779630744 tw16756852234259865370 tw16775073209834589146 tw16825010387458705898 tw16841368214945744775 tw16852687201471472503 tw16886527754984296443 tw16899379793902727037 tw16915026980119459736 tw16946411848279033304 tw16959400453928311642 tw17137750968695909749 tw17295297368887314629 tw17296920074940655177 tw17316707095302186506 tw17453195091021340613 tw17459632960035457588 tw1746354258987845026 tw17504991014230734965 tw17601097694746519220 tw17642188946790862420 tw17643964712503030257 tw17657072885304573466 tw17664708259874716241 tw17695214095376563628 tw17698135360370060031 tw17736675639636561386 tw17814672103061850448 tw17826587145660389708 tw1787258963498607940 tw17889678986812720574 tw17902424170098425338 tw17907206671604183662 tw17932843579396464689 tw18005730674254641069 tw18008876796928193091 tw18033694676897238828 tw18042015225681627414 tw18086874544214563452 tw18148291265142624125 tw1815078932077982483 tw18259847530683677675 tw18283246289447019586 tw18429128259912199739 tw1884487668382249257 tw2104507721048006912 tw2106465711992572290 tw2319676041231532612 tw2325725389884859961 tw2409064277478512182 tw2417922096684707965 tw2461120162757197600 tw2481466617597907317 tw2532418290781259699 tw2541412746703383813 tw25832780852823055 tw2607151648359222801 tw2609267592872773891 tw2610811047879516751 tw2718425383542248905 tw2733722510642100236 tw2747866280657649971 tw286082683698081955 tw2881774579101034322 tw288958487754566941 tw2927655176499294887 tw2948126389837378163 tw2981118760409159282 tw2981925653812656905 tw3018857729489348934 tw3055025867644218508 tw3223852526964843213 tw32511438829137901 tw3262391253234897302 tw3279724790914130818 tw333046861924730041 tw3340739107997722572 tw334902114654915621 tw3355601413625121928 tw3404803697749798554 tw3497234137818505455 tw3526594124829123677 tw3556781833054844807 tw3627361575176020310 tw3649453495286011296 tw3681902756087687351 tw3765445096622026840 tw3894028463462334552 tw3903001674514080014 tw3972400207905321058 tw3973149766555078265 tw4019748411773631963 tw4035451994596552376 tw4091614018077327745 tw4092598170351640186 tw4116528875354836437 tw4145587643934796127 tw4251155939227280331 tw427727669980419128 tw4310434523499502352 tw4330473801289961751 tw4332523128389101534 tw4365169380872381834 tw452554490431649385 tw4536399321469428970 tw4562441204918396366 tw4596984996868345842 tw4682787420381740209 tw4694575605731311456 tw4722311409569942192 tw4789112378625817276 tw486194804558835625 tw4888849249303012172 tw4911646643346967734 tw4925106855596259861 tw4977773071086319758 tw504072312156103729 tw5075732614305146979 tw5159077156899439303 tw5224940608976384205 tw5234393943321898238 tw5349326141373894765 tw5409964793940113739 tw5446717457033643223 tw5495629489665037836 tw5503511734329657055 tw5539223890923649985 tw5586619717916911100 tw5648631092448236997 tw5712003921216994076 tw5727085891391621012 tw5747777643579608294 tw5820414075000942127 tw5826040995319690453 tw5898582165320377047 tw5901127481457343990 tw5926511846301806139 tw5967371782146151621 tw6029062797242860098 tw6266502100239622076 tw6281856867042752153 tw6283103855246740681 tw6326325341137349277 tw6328604052337435694 tw6444652583894417501 tw6453318155838190612 tw6619295623976396253 tw6638655216328900771 tw6642504163714462734 tw6762939462107833860 tw6782391507964865236 tw6886948515270540788 tw6905234050277128221 tw695529932774263263 tw6970198646026396270 tw705046126818403661 tw7098986612850788925 tw7113890407425341066 tw712949710308428956 tw7175066134824713372 tw720677013881036826 tw7257131722824851354 tw7361767099428240885 tw7390568452528394350 tw740366423761911394 tw7433649524157044683 tw74899445471159328 tw7570610832526553439 tw7574163957391777401 tw7589287074833782335 tw7593435743353691541 tw759583050185349452 tw7602899663314794016 tw7610357118501010183 tw7621755874543327503 tw7638528977184338402 tw7655164154620601893 tw7694256067814982729 tw7785118491984820138 tw7787403779361596832 tw7828743790769585822 tw8002238353065738646 tw810516648376416698 tw8113263583319602883 tw815371150022327455 tw8287113394249912825 tw8335711713122494753 tw834024524773879563 tw8388591057579140060 tw8399998508135563151 tw8410801586767144037 tw8433373505082793265 tw8470906849283098591 tw8509859364299942087 tw8511787976382317206 tw8568771233083435908 tw8618203481700754822 tw8620017131354114980 tw8654733355922550372 tw8663753600376409293 tw8873073350669993294 tw8890796643993574057 tw8948844964954985152 tw9093504029441270421 tw9120085497282484256 tw914557969246395060 tw9195644802100382313 tw9233202911586681046 tw926802415838317607 tw9268915262309519295 tw9410978040917850209 tw9475321987886207236 tw9490513114073863705 tw9533339051282277882 tw9555424077454387421 tw9571911289863920249 tw9594299760548082164 tw9607832591898567851 tw9711747415527822405 tw974149930663223619 tw9817790809192407108 tw9831467612333017132 tw9888697825954725850 tw9900454157849672139:True)
set_option maxRecDepth 100000 in
set_option maxHeartbeats 0 in
theorem PySem.Challenge.cw_seamwright_k51_pushes_refused_everywhere_holds : PySem.Challenge.rw_seamwright_k51_pushes_refused_everywhere.Holds := by
 w_on; o_law; k_head; (case hw=>w_witness2)
 k_fill
 refine K51.walk (l:=PySem.Challenge.rw_seamwright_k51_pushes_refused_everywhere) rfl rfl (fun w h Y=>PySem.W.kIn_of Y) ?F
 case F=>
  intro w mg fa h KX G iY;refine' K51.Qg KX G iY ?_ ?_ ?_ ?_ ?_ ?_ ?_ ?_ ?_ ?_ ?_ ?_ ?_ ?_ ?_ ?_ ?_ ?_ ?_ ?_ ?_ ?_ ?_ ?_ ?_ ?_ ?_ ?_ ?_ ?_ ?_ ?_ ?_ ?_ ?_ ?_ ?_ ?_ ?_ ?_ ?_ ?_ ?_ ?_ ?_ ?_ ?_ ?_ ?_ ?_ ?_ ?_ ?_ ?_ ?_ ?_ ?_ ?_ ?_ ?_ ?_ ?_ ?_ ?_ ?_ ?_ ?_ ?_ ?_ ?_ ?_ ?_ ?_ ?_ ?_ ?_ ?_ ?_
  all_goals try first | refine' L2.Fg ?_ ?_ ?_ ?_ | refine' L2.Nn.mk ?_ | refine' K51.PU ?_ ?_ ?_ ?_ ?_ ?_ ?_ ?_ ?_ ?_ ?_ ?_ ?_ ?_ ?_ | refine' L2.O4 ?_ ?_ ?_
  all_goals try first | k_is | kit_is | k_exc
#print axioms PySem.Challenge.cw_seamwright_k51_pushes_refused_everywhere_holds
end
